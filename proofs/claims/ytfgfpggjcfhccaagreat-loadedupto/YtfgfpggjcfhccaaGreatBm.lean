import Derived.Test.YtfgfpggjcfhccaaGreatBg
import Derived.Deep.RegionHeld3
namespace Go.Proofs.YtfgfpggjcfhccaaGreat
open Go.RowKit Go.MuLone
theorem res14 {tmps : Array Value} {W : World} {e : Value} (h6 : tmps.getD 6 undef = e) : (results Tryz.f15 tmps).run Tryz.prog W = .ok e W := by
  rw [← h6]
  exact results_tmp rfl _ _ _
set_option maxRecDepth 100000 in
set_option maxHeartbeats 1600000 in
theorem begin_closed (p : PM) (i kind key v o : Int) (w : World) (th : Nat → Option (Int × Int × Int)) (h : PAt p 0 w true th)  :
    Calls Tryz.prog 15 #[.pointer (some ⟨p.m, 0, none⟩), .int .i64 i, .agg #[.int .i64 kind, .int .i64 key, .int .i64 v, .int .i64 o]] w fun e w' => e = .returned (.int .i64 5) ∧ PAt p 0 w' true th ∧ Kept [p.m] w w' := by
  have hs := lt_of_block h.m
  have h1 := (h.alloc (.cells #[Value.int .i64 kind, .int .i64 key, .int .i64 v, .int .i64 o] 32)).lock 1
  have k1 : Kept [p.m] w ((w.alloc (.cells #[Value.int .i64 kind, .int .i64 key, .int .i64 v, .int .i64 o] 32)).setCell ⟨p.m, 0, none⟩ (.int .i32 1)) := ((Kept.refl _ w).alloc _).setCell (.inl (by simp)) _
  have hr : ((w.alloc (.cells #[Value.int .i64 kind, .int .i64 key, .int .i64 v, .int .i64 o] 32)).setCell ⟨p.m, 0, none⟩ (.int .i32 1)).heap[w.heap.size]? = some (.cells #[Value.int .i64 kind, .int .i64 key, .int .i64 v, .int .i64 o] 32 (0, 0)) :=
    block_set_ne (block_alloc_new _ _) (by omega) _ _
  go_enter_defers Tryz.func15, Tryz.ntmps15
  go_wp2_with fail
  refine (lock_free Tryz.muLib ⟨p.m, 0, none⟩ _ ?_ ?_).mono ?_
  · rw [cell_of (h.alloc _).m]; rfl
  · rw [frozen_of (h.alloc _).m]
  rintro e w' ⟨rfl, rfl⟩
  generalize ((w.alloc (.cells #[Value.int .i64 kind, .int .i64 key, .int .i64 v, .int .i64 o] 32)).setCell ⟨p.m, 0, none⟩ (.int .i32 1)) = W at *
  go_wp2_with fail
  refine (isClosed_yes p.m p.c 0 0 _ (by rw [cell_of h1.m]; rfl) h1.c).mono ?_
  rintro e w' ⟨rfl, rfl⟩
  go_wp2
  refine door_unlock p.m _ (by rw [cell_of h1.m]; rfl) (by rw [frozen_of h1.m]) (res14 rfl) ⟨rfl, h1.lock 0, k1.setCell (.inl (by simp)) _⟩
set_option maxRecDepth 100000 in
set_option maxHeartbeats 1600000 in
theorem begin_noThread (p : PM) (i kind key v o : Int) (w : World) (th : Nat → Option (Int × Int × Int)) (h : PAt p 0 w false th) (hi : i < 0 ∨ (p.ts.length : Int) ≤ i) :
    Calls Tryz.prog 15 #[.pointer (some ⟨p.m, 0, none⟩), .int .i64 i, .agg #[.int .i64 kind, .int .i64 key, .int .i64 v, .int .i64 o]] w fun e w' => e = .returned (.int .i64 1) ∧ PAt p 0 w' false th ∧ Kept [p.m] w w' := by
  have hs := lt_of_block h.m
  have h1 := (h.alloc (.cells #[Value.int .i64 kind, .int .i64 key, .int .i64 v, .int .i64 o] 32)).lock 1
  have k1 : Kept [p.m] w ((w.alloc (.cells #[Value.int .i64 kind, .int .i64 key, .int .i64 v, .int .i64 o] 32)).setCell ⟨p.m, 0, none⟩ (.int .i32 1)) := ((Kept.refl _ w).alloc _).setCell (.inl (by simp)) _
  have hr : ((w.alloc (.cells #[Value.int .i64 kind, .int .i64 key, .int .i64 v, .int .i64 o] 32)).setCell ⟨p.m, 0, none⟩ (.int .i32 1)).heap[w.heap.size]? = some (.cells #[Value.int .i64 kind, .int .i64 key, .int .i64 v, .int .i64 o] 32 (0, 0)) :=
    block_set_ne (block_alloc_new _ _) (by omega) _ _
  go_enter_defers Tryz.func15, Tryz.ntmps15
  go_wp2_with fail
  refine (lock_free Tryz.muLib ⟨p.m, 0, none⟩ _ ?_ ?_).mono ?_
  · rw [cell_of (h.alloc _).m]; rfl
  · rw [frozen_of (h.alloc _).m]
  rintro e w' ⟨rfl, rfl⟩
  generalize ((w.alloc (.cells #[Value.int .i64 kind, .int .i64 key, .int .i64 v, .int .i64 o] 32)).setCell ⟨p.m, 0, none⟩ (.int .i32 1)) = W at *
  go_wp2_with fail
  refine (isClosed_no p.m p.c 0 0 _ (by rw [cell_of h1.m]; rfl) h1.c).mono ?_
  rintro e w' ⟨rfl, rfl⟩
  go_wp2_with fail
  refine (hasThread_no p.m (some ⟨p.tb, 0, none⟩) p.ts.length p.cap i _ (by rw [cell_of h1.m]; rfl) hi).mono ?_
  rintro e w' ⟨rfl, rfl⟩
  clear hi
  go_wp2
  refine door_unlock p.m _ (by rw [cell_of h1.m]; rfl) (by rw [frozen_of h1.m]) (res14 rfl) ⟨rfl, h1.lock 0, k1.setCell (.inl (by simp)) _⟩
set_option maxRecDepth 100000 in
set_option maxHeartbeats 1600000 in
theorem begin_arg (p : PM) (i kind key v o : Int) (w : World) (th : Nat → Option (Int × Int × Int)) (h : PAt p 0 w false th) (h0 : 0 ≤ i) (hi : i < p.ts.length) (hk : kind ≤ 0) (hm : kind < 0 ∨ key < 0 ∨ 8 ≤ key) :
    Calls Tryz.prog 15 #[.pointer (some ⟨p.m, 0, none⟩), .int .i64 i, .agg #[.int .i64 kind, .int .i64 key, .int .i64 v, .int .i64 o]] w fun e w' => e = .returned (.int .i64 1) ∧ PAt p 0 w' false th ∧ Kept [p.m] w w' := by
  have hs := lt_of_block h.m
  have h1 := (h.alloc (.cells #[Value.int .i64 kind, .int .i64 key, .int .i64 v, .int .i64 o] 32)).lock 1
  have k1 : Kept [p.m] w ((w.alloc (.cells #[Value.int .i64 kind, .int .i64 key, .int .i64 v, .int .i64 o] 32)).setCell ⟨p.m, 0, none⟩ (.int .i32 1)) := ((Kept.refl _ w).alloc _).setCell (.inl (by simp)) _
  have hr : ((w.alloc (.cells #[Value.int .i64 kind, .int .i64 key, .int .i64 v, .int .i64 o] 32)).setCell ⟨p.m, 0, none⟩ (.int .i32 1)).heap[w.heap.size]? = some (.cells #[Value.int .i64 kind, .int .i64 key, .int .i64 v, .int .i64 o] 32 (0, 0)) :=
    block_set_ne (block_alloc_new _ _) (by omega) _ _
  go_enter_defers Tryz.func15, Tryz.ntmps15
  go_wp2_with fail
  refine (lock_free Tryz.muLib ⟨p.m, 0, none⟩ _ ?_ ?_).mono ?_
  · rw [cell_of (h.alloc _).m]; rfl
  · rw [frozen_of (h.alloc _).m]
  rintro e w' ⟨rfl, rfl⟩
  generalize ((w.alloc (.cells #[Value.int .i64 kind, .int .i64 key, .int .i64 v, .int .i64 o] 32)).setCell ⟨p.m, 0, none⟩ (.int .i32 1)) = W at *
  go_wp2_with fail
  refine (isClosed_no p.m p.c 0 0 _ (by rw [cell_of h1.m]; rfl) h1.c).mono ?_
  rintro e w' ⟨rfl, rfl⟩
  go_wp2_with fail
  refine (hasThread_yes p.m (some ⟨p.tb, 0, none⟩) p.ts.length p.cap i _ (by rw [cell_of h1.m]; rfl) h0 hi).mono ?_
  rintro e w' ⟨rfl, rfl⟩
  have hco : ∀ x, w'.cell? ⟨w.heap.size, x, none⟩ = #[Value.int .i64 kind, .int .i64 key, .int .i64 v, .int .i64 o][x]? := cell_of hr
  go_wp2_with fail
  refine (mayBe_no kind key v o _ hk hm).mono ?_
  rintro e w2 ⟨rfl, k2⟩
  replace h1 := h1.keptNil k2
  replace k1 := k1.trans (k2.mono (by simp))
  clear hco hm hk k2 hr
  go_wp2
  refine door_unlock p.m _ (by rw [cell_of h1.m]; rfl) (by rw [frozen_of h1.m]) (res14 rfl) ⟨rfl, h1.lock 0, k1.setCell (.inl (by simp)) _⟩
end Go.Proofs.YtfgfpggjcfhccaaGreat
