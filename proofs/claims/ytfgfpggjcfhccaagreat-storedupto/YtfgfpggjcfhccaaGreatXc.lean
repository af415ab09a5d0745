import Derived.Test.YtfgfpggjcfhccaaGreatXb
import Derived.FnLit
import Derived.Deep.RegionHeld3
namespace Go.Proofs.YtfgfpggjcfhccaaGreat
open Go.RowKit Go.MuLone
def opVal (kind key v o : Int) : Value := .agg #[.int .i64 kind, .int .i64 key, .int .i64 v, .int .i64 o]
set_option maxRecDepth 100000 in
set_option maxHeartbeats 800000 in
theorem mayBe_yes (key v o : Int) (w : World) (h0 : 0 ≤ key) (h7 : key < 8) : Calls Tryz.prog 31 #[.agg #[.int .i64 0, .int .i64 key, .int .i64 v, .int .i64 o]] w fun e w' => e = .returned (.bool true) ∧ Kept [] w w' := by
  have h0' : ¬ key < 0 := by omega
  have h7' : ¬ 8 ≤ key := by omega
  go_enter Tryz.func31, Tryz.ntmps31
  go_wp2
  go_ret
  exact ⟨rfl, (Kept.refl [] w).alloc _⟩
set_option maxRecDepth 100000 in
set_option maxHeartbeats 800000 in
theorem mayBe_no (kind key v o : Int) (w : World) (hk : kind ≤ 0) (h : kind < 0 ∨ key < 0 ∨ 8 ≤ key) : Calls Tryz.prog 31 #[.agg #[.int .i64 kind, .int .i64 key, .int .i64 v, .int .i64 o]] w fun e w' => e = .returned (.bool false) ∧ Kept [] w w' := by
  by_cases h0 : key < 0
  · clear h
    go_enter Tryz.func31, Tryz.ntmps31
    go_wp2
    go_ret
    exact ⟨rfl, (Kept.refl [] w).alloc _⟩
  · by_cases h8 : 8 ≤ key
    · clear h
      go_enter Tryz.func31, Tryz.ntmps31
      go_wp2
      go_ret
      exact ⟨rfl, (Kept.refl [] w).alloc _⟩
    · have hk0 : kind < 0 := by omega
      have e0 : (kind == 0) = false := beq_eq_false_iff_ne.2 (by omega)
      have e1 : (kind == 1) = false := beq_eq_false_iff_ne.2 (by omega)
      have e2 : (kind == 2) = false := beq_eq_false_iff_ne.2 (by omega)
      have e3 : (kind == 3) = false := beq_eq_false_iff_ne.2 (by omega)
      clear h
      go_enter Tryz.func31, Tryz.ntmps31
      go_wp2
      go_ret
      exact ⟨rfl, (Kept.refl [] w).alloc _⟩
set_option maxRecDepth 100000 in
set_option maxHeartbeats 800000 in
theorem tbegin (i s t : Nat) (key v o : Int) (w : World) (h : w.heap[t]? = some (.cells (thCells i s t none) 116 (0, 0))) :
    Calls Tryz.prog 33 #[.pointer (some ⟨t, 0, none⟩), .agg #[.int .i64 0, .int .i64 key, .int .i64 v, .int .i64 o]] w fun e w' => e = .returned (.tuple #[]) ∧ w'.heap[t]? = some (.cells (thCells i s t (some (key, v, o))) 116 (0, 0)) ∧ Kept [t] w w' := by
  have hs := lt_of_block h
  have hc : ∀ o', w.cell? ⟨t, o', none⟩ = (thCells i s t none)[o']? := cell_of h
  have hf : ∀ o, w.frozen? ⟨t, o, none⟩ = false := frozen_of h
  have hmf : ∀ (fn : Fn) (first cap : Array Value) (w : World), (Instr.makeFunc fn first cap).run Tryz.prog w = .ok (.func fn first cap) w := fun _ _ _ _ => rfl
  simp only [thCells] at hc
  go_enter Tryz.func33, Tryz.ntmps33
  go_wp2
  go_end0
  refine ⟨rfl, ?_, ?_⟩
  · refine block_alloc_lt ((block_set_same (block_set_same (block_set_same (block_set_same (block_set_same h _ _) _ _) _ _) _ _) _ _).trans ?_) _
    simp [thCells]
  · exact ((((((Kept.refl _ w).setCell (.inl (by simp)) _).setCell (.inl (by simp)) _).setCell (.inl (by simp)) _).setCell (.inl (by simp)) _).setCell (.inl (by simp)) _).alloc _
end Go.Proofs.YtfgfpggjcfhccaaGreat
namespace Go.Proofs.YtfgfpggjcfhccaaGreat
open Go.RowKit Go.MuLone
theorem res14 {tmps : Array Value} {W : World} {e : Value} (h6 : tmps.getD 6 undef = e) : (results Tryz.f15 tmps).run Tryz.prog W = .ok e W := by
  rw [← h6]
  exact results_tmp rfl _ _ _
set_option maxRecDepth 100000 in
set_option maxHeartbeats 1600000 in
theorem begin_closed (p : PM) (i kind key v o : Int) (w : World) (th : Nat → Option (Int × Int × Int)) (h : PAt p 0 w true th)  :
    Calls Tryz.prog 15 #[.pointer (some ⟨p.m, 0, none⟩), .int .i64 i, .agg #[.int .i64 kind, .int .i64 key, .int .i64 v, .int .i64 o]] w fun e w' => e = .returned (.int .i64 5) ∧ PAt p 0 w' true th ∧ Kept [p.m] w w' := by
  have hs := lt_of_block h.m
  have h1 := (h.alloc (.cells #[Value.int .i64 kind, .int .i64 key, .int .i64 v, .int .i64 o] 32)).lock 1
  have k1 : Kept [p.m] w ((w.alloc (.cells #[Value.int .i64 kind, .int .i64 key, .int .i64 v, .int .i64 o] 32)).setCell ⟨p.m, 0, none⟩ (.int .i32 1)) := ((Kept.refl _ w).alloc _).setCell (.inl (by simp)) _
  have hr : ((w.alloc (.cells #[Value.int .i64 kind, .int .i64 key, .int .i64 v, .int .i64 o] 32)).setCell ⟨p.m, 0, none⟩ (.int .i32 1)).heap[w.heap.size]? = some (.cells #[Value.int .i64 kind, .int .i64 key, .int .i64 v, .int .i64 o] 32 (0, 0)) :=
    block_set_ne (block_alloc_new _ _) (by omega) _ _
  go_enter_defers Tryz.func15, Tryz.ntmps15
  go_wp2_with fail
  refine (lock_free Tryz.muLib ⟨p.m, 0, none⟩ _ ?_ ?_).mono ?_
  · rw [cell_of (h.alloc _).m]; rfl
  · rw [frozen_of (h.alloc _).m]
  rintro e w' ⟨rfl, rfl⟩
  generalize ((w.alloc (.cells #[Value.int .i64 kind, .int .i64 key, .int .i64 v, .int .i64 o] 32)).setCell ⟨p.m, 0, none⟩ (.int .i32 1)) = W at *
  go_wp2_with fail
  refine (isClosed_yes p.m p.c 0 0 _ (by rw [cell_of h1.m]; rfl) h1.c).mono ?_
  rintro e w' ⟨rfl, rfl⟩
  go_wp2
  refine door_unlock p.m _ (by rw [cell_of h1.m]; rfl) (by rw [frozen_of h1.m]) (res14 rfl) ⟨rfl, h1.lock 0, k1.setCell (.inl (by simp)) _⟩
set_option maxRecDepth 100000 in
set_option maxHeartbeats 1600000 in
theorem begin_noThread (p : PM) (i kind key v o : Int) (w : World) (th : Nat → Option (Int × Int × Int)) (h : PAt p 0 w false th) (hi : i < 0 ∨ (p.ts.length : Int) ≤ i) :
    Calls Tryz.prog 15 #[.pointer (some ⟨p.m, 0, none⟩), .int .i64 i, .agg #[.int .i64 kind, .int .i64 key, .int .i64 v, .int .i64 o]] w fun e w' => e = .returned (.int .i64 1) ∧ PAt p 0 w' false th ∧ Kept [p.m] w w' := by
  have hs := lt_of_block h.m
  have h1 := (h.alloc (.cells #[Value.int .i64 kind, .int .i64 key, .int .i64 v, .int .i64 o] 32)).lock 1
  have k1 : Kept [p.m] w ((w.alloc (.cells #[Value.int .i64 kind, .int .i64 key, .int .i64 v, .int .i64 o] 32)).setCell ⟨p.m, 0, none⟩ (.int .i32 1)) := ((Kept.refl _ w).alloc _).setCell (.inl (by simp)) _
  have hr : ((w.alloc (.cells #[Value.int .i64 kind, .int .i64 key, .int .i64 v, .int .i64 o] 32)).setCell ⟨p.m, 0, none⟩ (.int .i32 1)).heap[w.heap.size]? = some (.cells #[Value.int .i64 kind, .int .i64 key, .int .i64 v, .int .i64 o] 32 (0, 0)) :=
    block_set_ne (block_alloc_new _ _) (by omega) _ _
  go_enter_defers Tryz.func15, Tryz.ntmps15
  go_wp2_with fail
  refine (lock_free Tryz.muLib ⟨p.m, 0, none⟩ _ ?_ ?_).mono ?_
  · rw [cell_of (h.alloc _).m]; rfl
  · rw [frozen_of (h.alloc _).m]
  rintro e w' ⟨rfl, rfl⟩
  generalize ((w.alloc (.cells #[Value.int .i64 kind, .int .i64 key, .int .i64 v, .int .i64 o] 32)).setCell ⟨p.m, 0, none⟩ (.int .i32 1)) = W at *
  go_wp2_with fail
  refine (isClosed_no p.m p.c 0 0 _ (by rw [cell_of h1.m]; rfl) h1.c).mono ?_
  rintro e w' ⟨rfl, rfl⟩
  go_wp2_with fail
  refine (hasThread_no p.m (some ⟨p.tb, 0, none⟩) p.ts.length p.cap i _ (by rw [cell_of h1.m]; rfl) hi).mono ?_
  rintro e w' ⟨rfl, rfl⟩
  clear hi
  go_wp2
  refine door_unlock p.m _ (by rw [cell_of h1.m]; rfl) (by rw [frozen_of h1.m]) (res14 rfl) ⟨rfl, h1.lock 0, k1.setCell (.inl (by simp)) _⟩
set_option maxRecDepth 100000 in
set_option maxHeartbeats 1600000 in
theorem begin_arg (p : PM) (i kind key v o : Int) (w : World) (th : Nat → Option (Int × Int × Int)) (h : PAt p 0 w false th) (h0 : 0 ≤ i) (hi : i < p.ts.length) (hk : kind ≤ 0) (hm : kind < 0 ∨ key < 0 ∨ 8 ≤ key) :
    Calls Tryz.prog 15 #[.pointer (some ⟨p.m, 0, none⟩), .int .i64 i, .agg #[.int .i64 kind, .int .i64 key, .int .i64 v, .int .i64 o]] w fun e w' => e = .returned (.int .i64 1) ∧ PAt p 0 w' false th ∧ Kept [p.m] w w' := by
  have hs := lt_of_block h.m
  have h1 := (h.alloc (.cells #[Value.int .i64 kind, .int .i64 key, .int .i64 v, .int .i64 o] 32)).lock 1
  have k1 : Kept [p.m] w ((w.alloc (.cells #[Value.int .i64 kind, .int .i64 key, .int .i64 v, .int .i64 o] 32)).setCell ⟨p.m, 0, none⟩ (.int .i32 1)) := ((Kept.refl _ w).alloc _).setCell (.inl (by simp)) _
  have hr : ((w.alloc (.cells #[Value.int .i64 kind, .int .i64 key, .int .i64 v, .int .i64 o] 32)).setCell ⟨p.m, 0, none⟩ (.int .i32 1)).heap[w.heap.size]? = some (.cells #[Value.int .i64 kind, .int .i64 key, .int .i64 v, .int .i64 o] 32 (0, 0)) :=
    block_set_ne (block_alloc_new _ _) (by omega) _ _
  go_enter_defers Tryz.func15, Tryz.ntmps15
  go_wp2_with fail
  refine (lock_free Tryz.muLib ⟨p.m, 0, none⟩ _ ?_ ?_).mono ?_
  · rw [cell_of (h.alloc _).m]; rfl
  · rw [frozen_of (h.alloc _).m]
  rintro e w' ⟨rfl, rfl⟩
  generalize ((w.alloc (.cells #[Value.int .i64 kind, .int .i64 key, .int .i64 v, .int .i64 o] 32)).setCell ⟨p.m, 0, none⟩ (.int .i32 1)) = W at *
  go_wp2_with fail
  refine (isClosed_no p.m p.c 0 0 _ (by rw [cell_of h1.m]; rfl) h1.c).mono ?_
  rintro e w' ⟨rfl, rfl⟩
  go_wp2_with fail
  refine (hasThread_yes p.m (some ⟨p.tb, 0, none⟩) p.ts.length p.cap i _ (by rw [cell_of h1.m]; rfl) h0 hi).mono ?_
  rintro e w' ⟨rfl, rfl⟩
  have hco : ∀ x, w'.cell? ⟨w.heap.size, x, none⟩ = #[Value.int .i64 kind, .int .i64 key, .int .i64 v, .int .i64 o][x]? := cell_of hr
  go_wp2_with fail
  refine (mayBe_no kind key v o _ hk hm).mono ?_
  rintro e w2 ⟨rfl, k2⟩
  replace h1 := h1.keptNil k2
  replace k1 := k1.trans (k2.mono (by simp))
  clear hco hm hk k2 hr
  go_wp2
  refine door_unlock p.m _ (by rw [cell_of h1.m]; rfl) (by rw [frozen_of h1.m]) (res14 rfl) ⟨rfl, h1.lock 0, k1.setCell (.inl (by simp)) _⟩
end Go.Proofs.YtfgfpggjcfhccaaGreat
namespace Go.Proofs.YtfgfpggjcfhccaaGreat
open Go.RowKit Go.MuLone
set_option maxRecDepth 100000 in
set_option maxHeartbeats 1600000 in
theorem begin_busy (p : PM) (i key v o : Int) (w : World) (th : Nat → Option (Int × Int × Int)) (h : PAt p 0 w false th) (h0 : 0 ≤ i) (hi : i < p.ts.length) (hk0 : 0 ≤ key) (hk7 : key < 8) {x : Int × Int × Int} (hth : th i.toNat = some x) :
    Calls Tryz.prog 15 #[.pointer (some ⟨p.m, 0, none⟩), .int .i64 i, .agg #[.int .i64 0, .int .i64 key, .int .i64 v, .int .i64 o]] w fun e w' => e = .returned (.int .i64 2) ∧ PAt p 0 w' false th ∧ Kept [p.m] w w' := by
  have hcap := h.cap
  have hs := lt_of_block h.m
  have h1 := (h.alloc (.cells #[Value.int .i64 0, .int .i64 key, .int .i64 v, .int .i64 o] 32)).lock 1
  have k1 : Kept [p.m] w ((w.alloc (.cells #[Value.int .i64 0, .int .i64 key, .int .i64 v, .int .i64 o] 32)).setCell ⟨p.m, 0, none⟩ (.int .i32 1)) := ((Kept.refl _ w).alloc _).setCell (.inl (by simp)) _
  have hr : ((w.alloc (.cells #[Value.int .i64 0, .int .i64 key, .int .i64 v, .int .i64 o] 32)).setCell ⟨p.m, 0, none⟩ (.int .i32 1)).heap[w.heap.size]? = some (.cells #[Value.int .i64 0, .int .i64 key, .int .i64 v, .int .i64 o] 32 (0, 0)) :=
    block_set_ne (block_alloc_new _ _) (by omega) _ _
  go_enter_defers Tryz.func15, Tryz.ntmps15
  go_wp2_with fail
  refine (lock_free Tryz.muLib ⟨p.m, 0, none⟩ _ ?_ ?_).mono ?_
  · rw [cell_of (h.alloc _).m]; rfl
  · rw [frozen_of (h.alloc _).m]
  rintro e w' ⟨rfl, rfl⟩
  generalize ((w.alloc (.cells #[Value.int .i64 0, .int .i64 key, .int .i64 v, .int .i64 o] 32)).setCell ⟨p.m, 0, none⟩ (.int .i32 1)) = W at *
  go_wp2_with fail
  refine (isClosed_no p.m p.c 0 0 _ (by rw [cell_of h1.m]; rfl) h1.c).mono ?_
  rintro e w' ⟨rfl, rfl⟩
  go_wp2_with fail
  refine (hasThread_yes p.m (some ⟨p.tb, 0, none⟩) p.ts.length p.cap i _ (by rw [cell_of h1.m]; rfl) h0 hi).mono ?_
  rintro e w' ⟨rfl, rfl⟩
  have hco : ∀ x, w'.cell? ⟨w.heap.size, x, none⟩ = #[Value.int .i64 0, .int .i64 key, .int .i64 v, .int .i64 o][x]? := cell_of hr
  go_wp2_with fail
  refine (mayBe_yes key v o _ hk0 hk7).mono ?_
  rintro e w2 ⟨rfl, k2⟩
  replace h1 := h1.keptNil k2
  replace k1 := k1.trans (k2.mono (by simp))
  obtain ⟨t, ht, hct, hbt⟩ := h1.nth (i := i.toNat) (by omega)
  have c4 : w2.cell? ⟨p.m, 4, none⟩ = some (.slice (some ⟨p.tb, 0, none⟩) p.ts.length p.cap) := cell_of h1.m 4
  obtain ⟨xk, xv, xo⟩ := x
  rw [hth] at hbt
  clear hco k2 hr hk0 hk7 hth ht
  go_wp2_with fail
  refine (busy_yes t (.func 68) #[.pointer (some ⟨t, 0, none⟩)] #[] _ (by rw [cell_of hbt]; rfl)).mono ?_
  rintro e w3 ⟨rfl, rfl⟩
  clear c4 hct
  go_wp2
  refine door_unlock p.m _ (by rw [cell_of h1.m]; rfl) (by rw [frozen_of h1.m]) (res14 rfl) ⟨rfl, h1.lock 0, k1.setCell (.inl (by simp)) _⟩
set_option maxRecDepth 100000 in
set_option maxHeartbeats 1600000 in
theorem begin_ok (p : PM) (i key v o : Int) (w : World) (th : Nat → Option (Int × Int × Int)) (h : PAt p 0 w false th) (h0 : 0 ≤ i) (hi : i < p.ts.length) (hk0 : 0 ≤ key) (hk7 : key < 8) (hth : th i.toNat = none) :
    Calls Tryz.prog 15 #[.pointer (some ⟨p.m, 0, none⟩), .int .i64 i, .agg #[.int .i64 0, .int .i64 key, .int .i64 v, .int .i64 o]] w fun e w' => e = .returned (.int .i64 0) ∧ PAt p 0 w' false (upd th i.toNat (some (key, v, o))) ∧ Kept (p.m :: p.ts) w w' := by
  have hcap := h.cap
  have hs := lt_of_block h.m
  have h1 := (h.alloc (.cells #[Value.int .i64 0, .int .i64 key, .int .i64 v, .int .i64 o] 32)).lock 1
  have k1 : Kept [p.m] w ((w.alloc (.cells #[Value.int .i64 0, .int .i64 key, .int .i64 v, .int .i64 o] 32)).setCell ⟨p.m, 0, none⟩ (.int .i32 1)) := ((Kept.refl _ w).alloc _).setCell (.inl (by simp)) _
  have hr : ((w.alloc (.cells #[Value.int .i64 0, .int .i64 key, .int .i64 v, .int .i64 o] 32)).setCell ⟨p.m, 0, none⟩ (.int .i32 1)).heap[w.heap.size]? = some (.cells #[Value.int .i64 0, .int .i64 key, .int .i64 v, .int .i64 o] 32 (0, 0)) :=
    block_set_ne (block_alloc_new _ _) (by omega) _ _
  go_enter_defers Tryz.func15, Tryz.ntmps15
  go_wp2_with fail
  refine (lock_free Tryz.muLib ⟨p.m, 0, none⟩ _ ?_ ?_).mono ?_
  · rw [cell_of (h.alloc _).m]; rfl
  · rw [frozen_of (h.alloc _).m]
  rintro e w' ⟨rfl, rfl⟩
  generalize ((w.alloc (.cells #[Value.int .i64 0, .int .i64 key, .int .i64 v, .int .i64 o] 32)).setCell ⟨p.m, 0, none⟩ (.int .i32 1)) = W at *
  go_wp2_with fail
  refine (isClosed_no p.m p.c 0 0 _ (by rw [cell_of h1.m]; rfl) h1.c).mono ?_
  rintro e w' ⟨rfl, rfl⟩
  go_wp2_with fail
  refine (hasThread_yes p.m (some ⟨p.tb, 0, none⟩) p.ts.length p.cap i _ (by rw [cell_of h1.m]; rfl) h0 hi).mono ?_
  rintro e w' ⟨rfl, rfl⟩
  have hco : ∀ x, w'.cell? ⟨w.heap.size, x, none⟩ = #[Value.int .i64 0, .int .i64 key, .int .i64 v, .int .i64 o][x]? := cell_of hr
  go_wp2_with fail
  refine (mayBe_yes key v o _ hk0 hk7).mono ?_
  rintro e w2 ⟨rfl, k2⟩
  replace h1 := h1.keptNil k2
  replace k1 := k1.trans (k2.mono (by simp))
  replace hr := k2.at hr (by simp)
  obtain ⟨t, ht, hct, hbt⟩ := h1.nth (i := i.toNat) (by omega)
  have c4 : w2.cell? ⟨p.m, 4, none⟩ = some (.slice (some ⟨p.tb, 0, none⟩) p.ts.length p.cap) := cell_of h1.m 4
  rw [hth] at hbt
  have HP : Hid _ := ht
  clear hco k2 hk0 hk7 hth ht
  go_wp2_with fail
  refine (busy_no t _ (by rw [cell_of hbt]; rfl)).mono ?_
  rintro e w3 ⟨rfl, rfl⟩
  have hco : ∀ x, w3.cell? ⟨w.heap.size, x, none⟩ = #[Value.int .i64 0, .int .i64 key, .int .i64 v, .int .i64 o][x]? := cell_of hr
  go_wp2_with fail
  go_region_held3 (fun w' => w'.cell? ⟨p.m, 4, none⟩ = some (.slice (some ⟨p.tb, 0, none⟩) p.ts.length p.cap) ∧ w'.cell? ⟨p.tb, i.toNat, none⟩ = some (.pointer (some ⟨t, 0, none⟩)) ∧ (∀ x, w'.cell? ⟨w.heap.size, x, none⟩ = #[Value.int .i64 0, .int .i64 key, .int .i64 v, .int .i64 o][x]?))
    (first | exact ⟨g1, g2, g3⟩ | exact ⟨c4, hct, hco⟩)
    (first | (go_at_call 33; refine (tbegin i.toNat p.s t key v o _ (by exact hbt)).mono ?_; rintro e w4 ⟨rfl, hb4, k4⟩; have hn4 := h1.drew.thread HP.out (some (key, v, o)) hb4 k4; have g1 := cell_of hn4.m 4; obtain ⟨t4, ht4, g2, _⟩ := hn4.nth (i := i.toNat) (by omega); obtain rfl : t4 = t := Option.some.inj (ht4.symm.trans HP.out); have hr4 := k4.at hr (by simpa using ne_of_blocks hr hbt (by simp)); have g3 := cell_of hr4))
  have k5 : Kept (p.m :: p.ts) w w4 := (k1.mono (by simp)).trans ((Kept.refl _ w3).drew.trans (k4.mono (fun x hx => by cases List.mem_singleton.1 hx; exact List.mem_cons_of_mem _ (List.mem_of_getElem? HP.out))))
  clear g1 g2 g3 hco c4 hct
  go_wp2
  refine door_unlock p.m _ (by rw [cell_of hn4.m]; rfl) (by rw [frozen_of hn4.m]) (res14 rfl) ⟨rfl, hn4.lock 0, k5.setCell (.inl (by simp)) _⟩
end Go.Proofs.YtfgfpggjcfhccaaGreat
namespace Go.Proofs.YtfgfpggjcfhccaaGreat
open Go.RowKit
set_option maxRecDepth 100000 in
set_option maxHeartbeats 1600000 in
theorem rbegin_closed (q : RM) (i kind key v o : Int) (w : World) (th : Nat → Option (Int × Int × Int)) (h : RAt q w true th)  :
    Calls Tryz.prog 16 #[.pointer (some ⟨q.r, 0, none⟩), .int .i64 i, .agg #[.int .i64 kind, .int .i64 key, .int .i64 v, .int .i64 o]] w fun e w' => e = .returned (.int .i64 5) ∧ Kept [] w w' := by
  have hs := lt_of_block h.r
  have hc : w.cell? ⟨q.r, 21, none⟩ = some (.bool true) := cell_of h.r 21
  have hc2 : w.cell? ⟨q.r, 22, none⟩ = some (.slice (some ⟨q.tb, 0, none⟩) q.n q.n) := cell_of h.r 22
  go_enter Tryz.func16, Tryz.ntmps16
  go_wp2
  go_ret
  exact ⟨rfl, (Kept.refl [] w).alloc _⟩
set_option maxRecDepth 100000 in
set_option maxHeartbeats 1600000 in
theorem rbegin_arg (q : RM) (i kind key v o : Int) (w : World) (th : Nat → Option (Int × Int × Int)) (h : RAt q w false th) (hk : kind ≤ 0) (hi : i < 0 ∨ (q.n : Int) ≤ i ∨ kind < 0 ∨ key < 0 ∨ 8 ≤ key) :
    Calls Tryz.prog 16 #[.pointer (some ⟨q.r, 0, none⟩), .int .i64 i, .agg #[.int .i64 kind, .int .i64 key, .int .i64 v, .int .i64 o]] w fun e w' => e = .returned (.int .i64 1) ∧ Kept [] w w' := by
  have hs := lt_of_block h.r
  have hc : w.cell? ⟨q.r, 21, none⟩ = some (.bool false) := cell_of h.r 21
  have hc2 : w.cell? ⟨q.r, 22, none⟩ = some (.slice (some ⟨q.tb, 0, none⟩) q.n q.n) := cell_of h.r 22
  by_cases h1 : i < 0
  · clear hi
    go_enter Tryz.func16, Tryz.ntmps16
    go_wp2
    go_ret
    exact ⟨rfl, (Kept.refl [] w).alloc _⟩
  · by_cases h2 : (q.n : Int) ≤ i
    · clear hi
      go_enter Tryz.func16, Tryz.ntmps16
      go_wp2
      go_ret
      exact ⟨rfl, (Kept.refl [] w).alloc _⟩
    · by_cases h3 : kind < 0
      · clear hi
        go_enter Tryz.func16, Tryz.ntmps16
        go_wp2
        go_ret
        exact ⟨rfl, (Kept.refl [] w).alloc _⟩
      · have h3' : ¬ 3 < kind := by omega
        by_cases h4 : key < 0
        · clear hi
          go_enter Tryz.func16, Tryz.ntmps16
          go_wp2
          go_ret
          exact ⟨rfl, (Kept.refl [] w).alloc _⟩
        · have h5 : 7 < key := by omega
          clear hi
          go_enter Tryz.func16, Tryz.ntmps16
          go_wp2
          go_ret
          exact ⟨rfl, (Kept.refl [] w).alloc _⟩
set_option maxRecDepth 100000 in
set_option maxHeartbeats 1600000 in
theorem rbegin_busy (q : RM) (i key v o : Int) (w : World) (th : Nat → Option (Int × Int × Int)) (h : RAt q w false th) (h0 : 0 ≤ i) (hi : i < q.n) (hk0 : 0 ≤ key) (hk7 : key < 8) {x : Int × Int × Int} (hth : th i.toNat = some x) :
    Calls Tryz.prog 16 #[.pointer (some ⟨q.r, 0, none⟩), .int .i64 i, .agg #[.int .i64 0, .int .i64 key, .int .i64 v, .int .i64 o]] w fun e w' => e = .returned (.int .i64 2) ∧ Kept [] w w' := by
  have hs := lt_of_block h.r
  have hc : w.cell? ⟨q.r, 21, none⟩ = some (.bool false) := cell_of h.r 21
  have hc2 : w.cell? ⟨q.r, 22, none⟩ = some (.slice (some ⟨q.tb, 0, none⟩) q.n q.n) := cell_of h.r 22
  obtain ⟨cs, g1, g2, g3⟩ := h.tb
  have g4 := g3 i.toNat (by omega)
  obtain ⟨xk, xv, xo⟩ := x
  rw [hth] at g4
  simp only [rThread] at g4
  have c4 : w.cell? ⟨q.tb, i.toNat * 9 + 4, none⟩ = some (.int .i64 1) := by rw [cell_of g1]; exact g4.2.2.2.2
  have ht := lt_of_block g1
  have a1 : ¬ i < 0 := by omega
  have a2 : ¬ (q.n : Int) ≤ i := by omega
  have a3 : ¬ key < 0 := by omega
  have a4 : ¬ 7 < key := by omega
  clear g3 g4 g2 hth
  go_enter Tryz.func16, Tryz.ntmps16
  go_wp2
  go_ret
  exact ⟨rfl, (Kept.refl [] w).alloc _⟩
theorem rThread_nine {cs : Array Value} {i : Nat} (hsz : i * 9 + 8 < cs.size) (key v o : Int) : rThread (((((((((cs.setIfInBounds (i * 9) (.int .i64 0)).setIfInBounds (i * 9 + 1) (.int .i64 key)).setIfInBounds (i * 9 + 2) (.int .i64 v)).setIfInBounds (i * 9 + 3) (.int .i64 o)).setIfInBounds (i * 9 + 4) (.int .i64 1)).setIfInBounds (i * 9 + 5) (.int .i64 (-1))).setIfInBounds (i * 9 + 6) (.int .i64 0)).setIfInBounds (i * 9 + 7) (.int .i64 0)).setIfInBounds (i * 9 + 8) (.int .i64 0)) i (some (key, v, o)) := by
  have ne : ∀ (A : Array Value) (a b : Nat) (x : Value), a ≠ b → (A.setIfInBounds a x)[b]? = A[b]? := fun A a b x h => Array.getElem?_setIfInBounds_ne h
  have eq : ∀ (A : Array Value) (a : Nat) (x : Value), a < A.size → (A.setIfInBounds a x)[a]? = some x := fun A a x h => Array.getElem?_setIfInBounds_self_of_lt h
  simp only [rThread]
  refine ⟨?_, ?_, ?_, ?_, ?_⟩
  · rw [ne _ _ _ _ (by omega), ne _ _ _ _ (by omega), ne _ _ _ _ (by omega), ne _ _ _ _ (by omega), ne _ _ _ _ (by omega), ne _ _ _ _ (by omega), ne _ _ _ _ (by omega), ne _ _ _ _ (by omega), eq _ _ _ (by omega)]
  · rw [ne _ _ _ _ (by omega), ne _ _ _ _ (by omega), ne _ _ _ _ (by omega), ne _ _ _ _ (by omega), ne _ _ _ _ (by omega), ne _ _ _ _ (by omega), ne _ _ _ _ (by omega), eq _ _ _ (by simp; omega)]
  · rw [ne _ _ _ _ (by omega), ne _ _ _ _ (by omega), ne _ _ _ _ (by omega), ne _ _ _ _ (by omega), ne _ _ _ _ (by omega), ne _ _ _ _ (by omega), eq _ _ _ (by simp; omega)]
  · rw [ne _ _ _ _ (by omega), ne _ _ _ _ (by omega), ne _ _ _ _ (by omega), ne _ _ _ _ (by omega), ne _ _ _ _ (by omega), eq _ _ _ (by simp; omega)]
  · rw [ne _ _ _ _ (by omega), ne _ _ _ _ (by omega), ne _ _ _ _ (by omega), ne _ _ _ _ (by omega), eq _ _ _ (by simp; omega)]
set_option maxRecDepth 100000 in
set_option maxHeartbeats 1600000 in
theorem rbegin_ok (q : RM) (i key v o : Int) (w : World) (th : Nat → Option (Int × Int × Int)) (h : RAt q w false th) (h0 : 0 ≤ i) (hi : i < q.n) (hk0 : 0 ≤ key) (hk7 : key < 8) (hth : th i.toNat = none) :
    Calls Tryz.prog 16 #[.pointer (some ⟨q.r, 0, none⟩), .int .i64 i, .agg #[.int .i64 0, .int .i64 key, .int .i64 v, .int .i64 o]] w fun e w' => e = .returned (.int .i64 0) ∧ RAt q w' false (upd th i.toNat (some (key, v, o))) ∧ Kept [q.tb] w w' := by
  have hs := lt_of_block h.r
  have hc : w.cell? ⟨q.r, 21, none⟩ = some (.bool false) := cell_of h.r 21
  have hc2 : w.cell? ⟨q.r, 22, none⟩ = some (.slice (some ⟨q.tb, 0, none⟩) q.n q.n) := cell_of h.r 22
  obtain ⟨cs, g1, g2, g3⟩ := h.tb
  have g4 := g3 i.toNat (by omega)
  rw [hth] at g4
  simp only [rThread] at g4
  have hsz : i.toNat * 9 + 8 < cs.size := by omega
  have cx : ∀ j, j < 9 → ∃ y, w.cell? ⟨q.tb, i.toNat * 9 + j, none⟩ = some y := fun j hj => ⟨_, by rw [cell_of g1]; exact Array.getElem?_eq_getElem (by omega)⟩
  obtain ⟨y0, c0⟩ := cx 0 (by omega)
  obtain ⟨y1, c1⟩ := cx 1 (by omega)
  obtain ⟨y2, c2⟩ := cx 2 (by omega)
  obtain ⟨y3, c3⟩ := cx 3 (by omega)
  have c4 : w.cell? ⟨q.tb, i.toNat * 9 + 4, none⟩ = some (.int .i64 0) := by rw [cell_of g1]; exact g4
  obtain ⟨y5, c5⟩ := cx 5 (by omega)
  obtain ⟨y6, c6⟩ := cx 6 (by omega)
  obtain ⟨y7, c7⟩ := cx 7 (by omega)
  obtain ⟨y8, c8⟩ := cx 8 (by omega)
  simp only [Nat.add_zero] at c0
  have ht := lt_of_block g1
  have hfz : ∀ o, w.frozen? ⟨q.tb, o, none⟩ = false := frozen_of g1
  have a1 : ¬ i < 0 := by omega
  have a2 : ¬ (q.n : Int) ≤ i := by omega
  have a3 : ¬ key < 0 := by omega
  have a4 : ¬ 7 < key := by omega
  have HH : Hid _ := h
  have G2 : Hid _ := g2
  have G3 : Hid _ := g3
  clear g3 g4 g2 hth cx hsz h
  go_enter Tryz.func16, Tryz.ntmps16
  go_wp2_with fail
  go_region
  go_wp2
  go_ret
  have hsz : i.toNat * 9 + 8 < cs.size := by have := G2.out; omega
  have b9 := block_set_same (block_set_same (block_set_same (block_set_same (block_set_same (block_set_same (block_set_same (block_set_same (block_set_same g1 (i.toNat * 9) (.int .i64 0)) (i.toNat * 9 + 1) (.int .i64 key)) (i.toNat * 9 + 2) (.int .i64 v)) (i.toNat * 9 + 3) (.int .i64 o)) (i.toNat * 9 + 4) (.int .i64 1)) (i.toNat * 9 + 5) (.int .i64 (-1))) (i.toNat * 9 + 6) (.int .i64 0)) (i.toNat * 9 + 7) (.int .i64 0)) (i.toNat * 9 + 8) (.int .i64 0)
  have hne := ne_of_blocks HH.out.r g1 (by simp)
  have r9 := block_set_ne (block_set_ne (block_set_ne (block_set_ne (block_set_ne (block_set_ne (block_set_ne (block_set_ne (block_set_ne HH.out.r hne (i.toNat * 9) (.int .i64 0)) hne (i.toNat * 9 + 1) (.int .i64 key)) hne (i.toNat * 9 + 2) (.int .i64 v)) hne (i.toNat * 9 + 3) (.int .i64 o)) hne (i.toNat * 9 + 4) (.int .i64 1)) hne (i.toNat * 9 + 5) (.int .i64 (-1))) hne (i.toNat * 9 + 6) (.int .i64 0)) hne (i.toNat * 9 + 7) (.int .i64 0)) hne (i.toNat * 9 + 8) (.int .i64 0)
  have k9 : Kept [q.tb] w _ := ((((((((((Kept.refl _ w).setCell (p := ⟨q.tb, i.toNat * 9, none⟩) (.inl (by simp)) (.int .i64 0)).setCell (p := ⟨q.tb, i.toNat * 9 + 1, none⟩) (.inl (by simp)) (.int .i64 key)).setCell (p := ⟨q.tb, i.toNat * 9 + 2, none⟩) (.inl (by simp)) (.int .i64 v)).setCell (p := ⟨q.tb, i.toNat * 9 + 3, none⟩) (.inl (by simp)) (.int .i64 o)).setCell (p := ⟨q.tb, i.toNat * 9 + 4, none⟩) (.inl (by simp)) (.int .i64 1)).setCell (p := ⟨q.tb, i.toNat * 9 + 5, none⟩) (.inl (by simp)) (.int .i64 (-1))).setCell (p := ⟨q.tb, i.toNat * 9 + 6, none⟩) (.inl (by simp)) (.int .i64 0)).setCell (p := ⟨q.tb, i.toNat * 9 + 7, none⟩) (.inl (by simp)) (.int .i64 0)).setCell (p := ⟨q.tb, i.toNat * 9 + 8, none⟩) (.inl (by simp)) (.int .i64 0))
  have b10 := block_alloc_lt b9 (.cells #[.int .i64 0, .int .i64 key, .int .i64 v, .int .i64 o] 32)
  rw [← heap_drew] at b10
  refine ⟨rfl, ⟨HH.out.len, ?_, _, b10, ?_, fun j hj => ?_⟩, (k9.alloc _).drew⟩
  · rw [heap_drew]; exact block_alloc_lt r9 _
  · have := G2.out
    simp only [Array.size_setIfInBounds]
    exact this
  · by_cases hji : j = i.toNat
    · subst hji
      simp only [upd, if_true]
      exact rThread_nine hsz key v o
    · simp only [upd, hji, if_false]
      have hk : rThread (cs.setIfInBounds (i.toNat * 9) (.int .i64 0)) j (th j) := rThread_keep (a := 0) _ (G3.out j hj) hji (by omega)
      exact rThread_keep _ (rThread_keep _ (rThread_keep _ (rThread_keep _ (rThread_keep _ (rThread_keep _ (rThread_keep _ (rThread_keep _ hk hji (by omega)) hji (by omega)) hji (by omega)) hji (by omega)) hji (by omega)) hji (by omega)) hji (by omega)) hji (by omega)
end Go.Proofs.YtfgfpggjcfhccaaGreat
namespace Go.Proofs.YtfgfpggjcfhccaaGreat
open Go.RowKit Go.MuLone Go.Conc
theorem door_unlockN {fn : Func} {tmps : Array Value} {R : Ending → World → Prop} {W : World} (m : Nat) (v : Value)
    (hc : W.cell? ⟨m, 0, none⟩ = some (.int .i32 1)) (hz : W.frozen? ⟨m, 0, none⟩ = false)
    (hres : (results fn tmps).run Tryz.prog (W.setCell ⟨m, 0, none⟩ (.int .i32 0)) = .ok v (W.setCell ⟨m, 0, none⟩ (.int .i32 0)))
    (hR : R (.returned v) (W.setCell ⟨m, 0, none⟩ (.int .i32 0))) :
    bodyPostD Tryz.prog fn R .normal { tmps := tmps, defers := [{ target := .fn (.func 26) #[], args := #[.pointer (some ⟨m, 0, none⟩)] }] } W :=
  door_unlock m v hc hz hres hR
theorem PAt.shut {p : PM} {l : Int} {w : World} {th : Nat → Option (Int × Int × Int)} (h : PAt p l w false th) : PAt p l (w.setChan p.c 0 #[] true 0 0 false) true th := by
  obtain ⟨cs, g1, g2⟩ := h.tb
  have other : ∀ (b : Nat) (o : Obj), w.heap[b]? = some o → (∀ x, o ≠ Obj.chan 0 #[] x 0 0 false) → (w.setChan p.c 0 #[] true 0 0 false).heap[b]? = some o := by
    intro b o hb ho
    have hne : p.c ≠ b := fun e => ho false (Option.some.inj (hb.symm.trans (e ▸ h.c)))
    simp [World.setChan, Array.getElem?_setIfInBounds_ne hne, hb]
  refine ⟨h.len, h.cap, other _ _ h.m (by simp), heap_setChan _ _ _ _ _ _ _ _ (lt_of_block h.c), other _ _ h.s (by simp), ⟨cs, other _ _ g1 (by simp), g2⟩, fun i t hi => other _ _ (h.ts i t hi) (by simp)⟩
theorem Kept.setChan {F : List Nat} {a w : World} (h : Kept F a w) {c : Nat} (hp : c ∈ F ∨ a.heap.size ≤ c) (cap : Nat) (buf : Array Value) (cl : Bool) (s r : Nat) (tm : Bool) : Kept F a (w.setChan c cap buf cl s r tm) :=
  ⟨h.os, h.tape, h.output, by simpa [World.setChan] using h.size, fun k hk hf => by
    have hne : c ≠ k := by rintro rfl; rcases hp with hp | hp; exact hf hp; omega
    simp only [World.setChan]
    rw [Array.getElem?_setIfInBounds_ne hne]
    exact h.block k hk hf⟩
set_option maxRecDepth 100000 in
set_option maxHeartbeats 800000 in
theorem close_any (p : PM) (cl : Bool) (w : World) (th : Nat → Option (Int × Int × Int)) (h : PAt p 0 w cl th) :
    Calls Tryz.prog 19 #[.pointer (some ⟨p.m, 0, none⟩)] w fun e w' => e = .returned (.tuple #[]) ∧ PAt p 0 w' true th ∧ Kept [p.m, p.c] w w' := by
  have hs := lt_of_block h.m
  have h1 := h.lock 1
  have k1 : Kept [p.m, p.c] w (w.setCell ⟨p.m, 0, none⟩ (.int .i32 1)) := (Kept.refl _ w).setCell (.inl (by simp)) _
  go_enter_defers Tryz.func19, Tryz.ntmps19
  go_wp2_with fail
  refine (lock_free Tryz.muLib ⟨p.m, 0, none⟩ _ ?_ ?_).mono ?_
  · rw [cell_of h.m]; rfl
  · rw [frozen_of h.m]
  rintro e w' ⟨rfl, rfl⟩
  generalize (w.setCell ⟨p.m, 0, none⟩ (.int .i32 1)) = W at *
  go_wp2_with fail
  cases cl with
  | true =>
    refine (isClosed_yes p.m p.c 0 0 _ (by rw [cell_of h1.m]; rfl) h1.c).mono ?_
    rintro e w' ⟨rfl, rfl⟩
    go_wp2
    exact door_unlockN p.m _ (by rw [cell_of h1.m]; rfl) (by rw [frozen_of h1.m]) (results_none rfl _ _ _) ⟨rfl, h1.lock 0, k1.setCell (.inl (by simp)) _⟩
  | false =>
    refine (isClosed_no p.m p.c 0 0 _ (by rw [cell_of h1.m]; rfl) h1.c).mono ?_
    rintro e w' ⟨rfl, rfl⟩
    have c2 : w'.cell? ⟨p.m, 2, none⟩ = some (.chan (some p.c)) := cell_of h1.m 2
    have hcl := fun ats ty => run_close_open (P := Tryz.prog) (w := w') ats ty h1.c
    go_wp2
    change bodyPostD _ _ _ _ _ (w'.setChan p.c 0 #[] true 0 0 false)
    have h2 := h1.shut
    have k2 := k1.setChan (c := p.c) (.inl (by simp)) 0 #[] true 0 0 false
    exact door_unlockN p.m _ (by rw [cell_of h2.m]; rfl) (by rw [frozen_of h2.m]) (results_none rfl _ _ _) ⟨rfl, h2.lock 0, k2.setCell (.inl (by simp)) _⟩
def beginE (cl : Bool) (n : Nat) (th : Nat → Option (Int × Int × Int)) (i kind key : Int) : Int :=
  if cl = true then 5 else if (i < 0 ∨ (n : Int) ≤ i) ∨ kind < 0 ∨ key < 0 ∨ 8 ≤ key then 1 else if (th i.toNat).isSome then 2 else 0
def beginT (cl : Bool) (n : Nat) (th : Nat → Option (Int × Int × Int)) (i kind key v o : Int) : Nat → Option (Int × Int × Int) :=
  if beginE cl n th i kind key = 0 then upd th i.toNat (some (key, v, o)) else th
theorem beginE_ok {n : Nat} {th : Nat → Option (Int × Int × Int)} {i key : Int} (h : ¬ ((i < 0 ∨ (n : Int) ≤ i) ∨ (0 : Int) < 0 ∨ key < 0 ∨ 8 ≤ key)) (ht : th i.toNat = none) : beginE false n th i 0 key = 0 := by
  unfold beginE
  rw [if_neg (by simp), if_neg h, ht]
  rfl
theorem beginE_busy {n : Nat} {th : Nat → Option (Int × Int × Int)} {i key : Int} {x : Int × Int × Int} (h : ¬ ((i < 0 ∨ (n : Int) ≤ i) ∨ (0 : Int) < 0 ∨ key < 0 ∨ 8 ≤ key)) (ht : th i.toNat = some x) : beginE false n th i 0 key = 2 := by
  unfold beginE
  rw [if_neg (by simp), if_neg h, ht]
  rfl
theorem pbegin (p : PM) (i kind key v o : Int) (cl : Bool) (w : World) (th : Nat → Option (Int × Int × Int)) (h : PAt p 0 w cl th) (hk : kind ≤ 0) :
    Calls Tryz.prog 15 #[.pointer (some ⟨p.m, 0, none⟩), .int .i64 i, .agg #[.int .i64 kind, .int .i64 key, .int .i64 v, .int .i64 o]] w fun e w' => e = .returned (.int .i64 (beginE cl p.ts.length th i kind key)) ∧
      PAt p 0 w' cl (beginT cl p.ts.length th i kind key v o) ∧ Kept (p.m :: p.ts) w w' := by
  cases cl with
  | true =>
    refine (begin_closed p i kind key v o w th h).mono ?_
    rintro e w' ⟨rfl, h', k'⟩
    exact ⟨by simp [beginE], by simpa [beginT, beginE] using h', k'.mono (by simp)⟩
  | false =>
    by_cases hi : i < 0 ∨ (p.ts.length : Int) ≤ i
    · refine (begin_noThread p i kind key v o w th h hi).mono ?_
      rintro e w' ⟨rfl, h', k'⟩
      exact ⟨by simp [beginE, hi], by simpa [beginT, beginE, hi] using h', k'.mono (by simp)⟩
    · by_cases hm : kind < 0 ∨ key < 0 ∨ 8 ≤ key
      · refine (begin_arg p i kind key v o w th h (by omega) (by omega) hk hm).mono ?_
        rintro e w' ⟨rfl, h', k'⟩
        exact ⟨by simp [beginE, hi, hm], by simpa [beginT, beginE, hi, hm] using h', k'.mono (by simp)⟩
      · obtain rfl : kind = 0 := by omega
        rcases ht : th i.toNat with _ | x
        · refine (begin_ok p i key v o w th h (by omega) (by omega) (by omega) (by omega) ht).mono ?_
          rintro e w' ⟨rfl, h', k'⟩
          have he := beginE_ok (n := p.ts.length) (th := th) (i := i) (key := key) (by omega) ht
          exact ⟨by rw [he], by unfold beginT; rw [if_pos he]; exact h', k'⟩
        · refine (begin_busy p i key v o w th h (by omega) (by omega) (by omega) (by omega) ht).mono ?_
          rintro e w' ⟨rfl, h', k'⟩
          have he := beginE_busy (n := p.ts.length) (th := th) (i := i) (key := key) (by omega) ht
          exact ⟨by rw [he], by unfold beginT; rw [if_neg (by rw [he]; omega)]; exact h', k'.mono (by simp)⟩
theorem rbegin (q : RM) (i kind key v o : Int) (cl : Bool) (w : World) (th : Nat → Option (Int × Int × Int)) (h : RAt q w cl th) (hk : kind ≤ 0) :
    Calls Tryz.prog 16 #[.pointer (some ⟨q.r, 0, none⟩), .int .i64 i, .agg #[.int .i64 kind, .int .i64 key, .int .i64 v, .int .i64 o]] w fun e w' => e = .returned (.int .i64 (beginE cl q.n th i kind key)) ∧
      RAt q w' cl (beginT cl q.n th i kind key v o) ∧ Kept [q.tb] w w' := by
  cases cl with
  | true =>
    refine (rbegin_closed q i kind key v o w th h).mono ?_
    rintro e w' ⟨rfl, k'⟩
    exact ⟨by simp [beginE], by simpa [beginT, beginE] using h.keptNil k', k'.mono (by simp)⟩
  | false =>
    by_cases hi : (i < 0 ∨ (q.n : Int) ≤ i) ∨ kind < 0 ∨ key < 0 ∨ 8 ≤ key
    · refine (rbegin_arg q i kind key v o w th h hk (by omega)).mono ?_
      rintro e w' ⟨rfl, k'⟩
      exact ⟨by simp [beginE, hi], by simpa [beginT, beginE, hi] using h.keptNil k', k'.mono (by simp)⟩
    · obtain rfl : kind = 0 := by omega
      rcases ht : th i.toNat with _ | x
      · refine (rbegin_ok q i key v o w th h (by omega) (by omega) (by omega) (by omega) ht).mono ?_
        rintro e w' ⟨rfl, h', k'⟩
        have he := beginE_ok (n := q.n) (th := th) (i := i) (key := key) hi ht
        exact ⟨by rw [he], by unfold beginT; rw [if_pos he]; exact h', k'⟩
      · refine (rbegin_busy q i key v o w th h (by omega) (by omega) (by omega) (by omega) ht).mono ?_
        rintro e w' ⟨rfl, k'⟩
        have he := beginE_busy (n := q.n) (th := th) (i := i) (key := key) hi ht
        exact ⟨by rw [he], by unfold beginT; rw [if_neg (by rw [he]; omega)]; exact h.keptNil k', k'.mono (by simp)⟩
theorem keys_beginT {cl : Bool} {n : Nat} {th : Nat → Option (Int × Int × Int)} {i kind key v o : Int} (h : KeysOk th) : KeysOk (beginT cl n th i kind key v o) := by
  intro j k v' o' hj
  unfold beginT at hj
  split at hj
  · rename_i he
    unfold upd at hj
    split at hj
    · simp only [Option.some.injEq, Prod.mk.injEq] at hj
      obtain ⟨rfl, _, _⟩ := hj
      unfold beginE at he
      split at he
      · omega
      · split at he
        · omega
        · omega
    · exact h j k v' o' hj
  · exact h j k v' o' hj
end Go.Proofs.YtfgfpggjcfhccaaGreat
namespace Go.Proofs.YtfgfpggjcfhccaaGreat
open Go.RowKit
set_option maxRecDepth 100000 in
set_option maxHeartbeats 4000000 in
theorem does_begin (b : Nat) (p : PM) (q : RM) (cl : Bool) (x0 i kind key v o : Int) (w : World) (th : Nat → Option (Int × Int × Int)) (h : Two b p q w cl th) (hk : kind ≤ 0) :
    Calls Tryz.prog 8 #[.pointer (some ⟨b, 0, none⟩), .agg #[.int .i64 2, .int .i64 x0, .int .i64 i, .int .i64 kind, .int .i64 key, .int .i64 v, .int .i64 o]] w fun e w' =>
      e = .returned (.bool true) ∧ Two b p q w' cl (beginT cl p.ts.length th i kind key v o) ∧ Kept (p.m :: q.tb :: p.ts) w w' := by
  have hs := lt_of_block h.b
  have h0 := h.keptNil ((Kept.refl [] w).alloc (.cells #[Value.int .i64 2, .int .i64 x0, .int .i64 i, .int .i64 kind, .int .i64 key, .int .i64 v, .int .i64 o] 34))
  have ho : (w.alloc (.cells #[Value.int .i64 2, .int .i64 x0, .int .i64 i, .int .i64 kind, .int .i64 key, .int .i64 v, .int .i64 o] 34)).heap[w.heap.size]? = some (.cells #[Value.int .i64 2, .int .i64 x0, .int .i64 i, .int .i64 kind, .int .i64 key, .int .i64 v, .int .i64 o] 34 (0, 0)) := block_alloc_new _ _
  have hK : Kept (p.m :: q.tb :: p.ts) w (w.alloc (.cells #[Value.int .i64 2, .int .i64 x0, .int .i64 i, .int .i64 kind, .int .i64 key, .int .i64 v, .int .i64 o] 34)) := (Kept.refl _ w).alloc _
  go_enter Tryz.func8, Tryz.ntmps8
  go_wp2_with fail
  generalize (w.alloc (.cells #[Value.int .i64 2, .int .i64 x0, .int .i64 i, .int .i64 kind, .int .i64 key, .int .i64 v, .int .i64 o] 34)) = W0 at *
  have d0 : W0.cell? ⟨b, 0, none⟩ = some (.pointer (some ⟨p.m, 0, none⟩)) := cell_of h0.b 0
  have d2 : ∀ x, W0.cell? ⟨w.heap.size, x, none⟩ = #[Value.int .i64 2, .int .i64 x0, .int .i64 i, .int .i64 kind, .int .i64 key, .int .i64 v, .int .i64 o][x]? := cell_of ho
  go_region_held3 (fun w' => w'.cell? ⟨b, 0, none⟩ = some (.pointer (some ⟨p.m, 0, none⟩)) ∧ (∀ x, w'.cell? ⟨w.heap.size, x, none⟩ = #[Value.int .i64 2, .int .i64 x0, .int .i64 i, .int .i64 kind, .int .i64 key, .int .i64 v, .int .i64 o][x]?))
    (first | exact ⟨g0, g2⟩ | exact ⟨d0, d2⟩)
    (first | (go_at_call 15; refine (pbegin p i kind key v o cl _ th (by exact h0.p.drew) hk).mono ?_; rintro e w1 ⟨rfl, hp, k1⟩; have hM := h0.drew.mid hp k1; have hob := k1.at ho (h0.p.offTs ho (by simp) (by simp)); have g0 := cell_of hM.b 0; have g2 := cell_of hob))
  clear g0 g2 d0 d2
  have K1 : Kept (p.m :: q.tb :: p.ts) w w1 := hK.trans ((Kept.refl _ W0).drew.trans (k1.mono (by simp only [List.mem_cons]; intro x hx; rcases hx with hx | hx; exact .inl hx; exact .inr (.inr hx))))
  have d0 : w1.cell? ⟨b, 1, none⟩ = some (.pointer (some ⟨q.r, 0, none⟩)) := cell_of hM.b 1
  have d2 : ∀ x, w1.cell? ⟨w.heap.size, x, none⟩ = #[Value.int .i64 2, .int .i64 x0, .int .i64 i, .int .i64 kind, .int .i64 key, .int .i64 v, .int .i64 o][x]? := cell_of hob
  obtain ⟨tcs, htb, _⟩ := hM.q.tb
  have hn := hM.n
  have HN : Hid _ := hn
  clear hn
  go_wp2_with fail
  go_region_held3 (fun w' => w'.cell? ⟨b, 1, none⟩ = some (.pointer (some ⟨q.r, 0, none⟩)) ∧ (∀ x, w'.cell? ⟨w.heap.size, x, none⟩ = #[Value.int .i64 2, .int .i64 x0, .int .i64 i, .int .i64 kind, .int .i64 key, .int .i64 v, .int .i64 o][x]?))
    (first | exact ⟨g0, g2⟩ | exact ⟨d0, d2⟩)
    (first | (go_at_call 16; refine (rbegin q i kind key v o cl _ th (by exact hM.q.drew) hk).mono ?_; rintro e w2 ⟨rfl, hq, k2⟩; rw [HN.out] at hq ⊢; have hT := (hM.keptNil (Kept.refl [] w1).drew).two hq k2; have hob2 := k2.at hob (by simpa using ne_of_blocks hob htb (by simp)); have g0 := cell_of hT.b 1; have g2 := cell_of hob2))
  have K2 : Kept (p.m :: q.tb :: p.ts) w w2 := K1.trans ((Kept.refl _ w1).drew.trans (k2.mono (by simp)))
  clear g0 g2 d0 d2
  go_wp2
  go_ret
  exact ⟨by simp, hT, K2⟩
theorem RAt.shut {q : RM} {w : World} {cl : Bool} {th : Nat → Option (Int × Int × Int)} (h : RAt q w cl th) : RAt q (w.setCell ⟨q.r, 21, none⟩ (.bool true)) true th := by
  obtain ⟨cs, g1, g2⟩ := h.tb
  refine ⟨h.len, ?_, cs, block_set_ne g1 (ne_of_blocks g1 h.r (by simp)) _ _, g2⟩
  rw [block_set_same h.r]
  simp [rCells]
set_option maxRecDepth 100000 in
set_option maxHeartbeats 4000000 in
theorem does_close (b : Nat) (p : PM) (q : RM) (cl : Bool) (x0 i y0 y1 y2 y3 : Int) (w : World) (th : Nat → Option (Int × Int × Int)) (h : Two b p q w cl th) :
    Calls Tryz.prog 8 #[.pointer (some ⟨b, 0, none⟩), .agg #[.int .i64 5, .int .i64 x0, .int .i64 i, .int .i64 y0, .int .i64 y1, .int .i64 y2, .int .i64 y3]] w fun e w' =>
      e = .returned (.bool true) ∧ Two b p q w' true th ∧ Kept [p.m, p.c, q.r] w w' := by
  have hs := lt_of_block h.b
  have h0 := h.keptNil ((Kept.refl [] w).alloc (.cells #[.int .i64 5, .int .i64 x0, .int .i64 i, .int .i64 y0, .int .i64 y1, .int .i64 y2, .int .i64 y3] 34))
  have hK : Kept [p.m, p.c, q.r] w (w.alloc (.cells #[.int .i64 5, .int .i64 x0, .int .i64 i, .int .i64 y0, .int .i64 y1, .int .i64 y2, .int .i64 y3] 34)) := (Kept.refl _ w).alloc _
  have d0 : w.cell? ⟨b, 0, none⟩ = some (.pointer (some ⟨p.m, 0, none⟩)) := cell_of h.b 0
  go_enter Tryz.func8, Tryz.ntmps8
  go_wp2_with fail
  generalize (w.alloc (.cells #[.int .i64 5, .int .i64 x0, .int .i64 i, .int .i64 y0, .int .i64 y1, .int .i64 y2, .int .i64 y3] 34)) = W0 at *
  refine (close_any p cl W0 th h0.p).mono ?_
  rintro e w1 ⟨rfl, hp, k1⟩
  obtain ⟨tcs, htb, htb2⟩ := h0.q.tb
  have off : ∀ (x : Nat) (ob : Obj), W0.heap[x]? = some ob → (∀ cs, ob ≠ Obj.cells cs 78 (0, 0)) → (∀ y, ob ≠ Obj.chan 0 #[] y 0 0 false) → x ∉ [p.m, p.c] := by
    intro x ob hx h1 h2 hm
    simp at hm
    rcases hm with rfl | rfl
    · exact h1 _ (Option.some.inj (hx.symm.trans h0.p.m))
    · exact h2 _ (Option.some.inj (hx.symm.trans h0.p.c))
  have hb1 := k1.at h0.b (off _ _ h0.b (by simp) (by simp))
  have hq1 : RAt q w1 cl th := h0.q.kept k1 (off _ _ h0.q.r (by simp) (by simp)) (off _ _ htb (by simp) (by simp))
  have K1 : Kept [p.m, p.c, q.r] w w1 := hK.trans (k1.mono (by simp only [List.mem_cons]; intro x hx; rcases hx with hx | hx | hx; exact .inl hx; exact .inr (.inl hx); cases hx))
  have d1 : w1.cell? ⟨b, 1, none⟩ = some (.pointer (some ⟨q.r, 0, none⟩)) := cell_of hb1 1
  have d21 : w1.cell? ⟨q.r, 21, none⟩ = some (.bool cl) := cell_of hq1.r 21
  have f21 : w1.frozen? ⟨q.r, 21, none⟩ = false := frozen_of hq1.r 21
  have hn := h0.n
  have HN : Hid _ := hn
  clear hn d0
  go_wp2
  go_ret
  obtain ⟨ptc, hptb, _⟩ := hp.tb
  refine ⟨rfl, ⟨HN.out, block_set_ne hb1 (ne_of_blocks hb1 hq1.r (by simp)) _ _, hp.set hq1.r (by decide) (by decide) (by decide) (by decide) _ _, hq1.shut⟩, K1.setCell (.inl (by simp)) _⟩
end Go.Proofs.YtfgfpggjcfhccaaGreat
namespace Go.Proofs.YtfgfpggjcfhccaaGreat
open Go.RowKit
/-- n entries with the mark m. -/
def marks (m : Int) : Nat → List Value
  | 0 => []
  | n + 1 => .int .i64 m :: .int .i64 0 :: .int .i64 0 :: marks m n
theorem marks_length (m : Int) (n : Nat) : (marks m n).length = n * 3 := by
  induction n with
  | zero => rfl
  | succ n ih => simp [marks, ih]; omega
theorem marks_add (m : Int) (n k : Nat) : marks m n ++ marks m k = marks m (n + k) := by
  induction n with
  | zero => simp [marks]
  | succ n ih => rw [Nat.add_right_comm]; simp [marks, ih]
theorem marks_at (m : Int) (n i : Nat) (h : i < n) : (marks m n)[i * 3]? = some (.int .i64 m) ∧ (marks m n)[i * 3 + 1]? = some (.int .i64 0) ∧ (marks m n)[i * 3 + 2]? = some (.int .i64 0) := by
  induction n generalizing i with
  | zero => omega
  | succ n ih =>
    cases i with
    | zero => simp [marks]
    | succ i =>
      have := ih i (by omega)
      have e : (i + 1) * 3 = i * 3 + 3 := by omega
      simpa [marks, e] using this
/-- A list that its owner has written full with the mark m. -/
structure Good (w : World) (x : Value) (m : Int) : Prop where
  good : ∃ (g n cap : Nat) (cs : Array Value), x = .slice (some ⟨g, 0, none⟩) n cap ∧ n ≤ 1000 ∧ w.heap[g]? = some (.cells cs 84 (0, 0)) ∧ cs.toList.take (n * 3) = marks m n
theorem Good.kept {F : List Nat} {w w' : World} {x : Value} {m : Int} (h : Good w x m) (k : Kept F w w') (hF : ∀ y, y ∈ F → ∀ cs, w.heap[y]? ≠ some (.cells cs 84 (0, 0))) : Good w' x m := by
  obtain ⟨g, n, cap, cs, h1, h2, h3, h4⟩ := h.good
  exact ⟨g, n, cap, cs, h1, h2, k.at h3 (fun hm => hF g hm cs h3), h4⟩
set_option maxRecDepth 100000 in
set_option maxHeartbeats 1600000 in
theorem full_yes (x : Value) (m : Int) (w : World) (h : Good w x m) : Calls Tryz.prog 41 #[x, .int .i64 m] w fun e w' => e = .returned (.bool true) ∧ w' = w := by
  obtain ⟨g, n, cap, cs, rfl, hn, hb, hm⟩ := h.good
  have cell : ∀ i, i < n → w.cell? ⟨g, i * 3, none⟩ = some (.int .i64 m) ∧ w.cell? ⟨g, i * 3 + 1, none⟩ = some (.int .i64 0) ∧ w.cell? ⟨g, i * 3 + 2, none⟩ = some (.int .i64 0) := by
    intro i hi
    have hat := marks_at m n i hi
    rw [← hm] at hat
    simp only [List.getElem?_take, Array.getElem?_toList] at hat
    rw [if_pos (by omega), if_pos (by omega), if_pos (by omega)] at hat
    rw [cell_of hb, cell_of hb, cell_of hb]
    exact hat
  have HC : Hid _ := cell
  clear cell hm h hb
  go_enter Tryz.func41, Tryz.ntmps41
  go_wp2
  go_loop [5] (fun i => ∃ k : Nat, k ≤ n ∧ i = .int .i64 k) (fun i => n - (intOf i).toNat)
  case atStart => exact ⟨0, by omega, rfl⟩
  case round =>
    obtain ⟨k, hk, rfl⟩ := hrel
    by_cases hlt : k < n
    · obtain ⟨c0, c1, c2⟩ := HC.out k hlt
      have hlt' : (k : Int) < n := by omega
      go_wp2
      go_round
      case rel => exact ⟨k + 1, by omega, by go_num⟩
      case measure => simp [intOf]; omega
    · go_wp2
      go_ret
      exact ⟨rfl, rfl⟩
set_option maxHeartbeats 400000 in
theorem pick_one (c : Int) (w : World) : Calls Tryz.prog 39 #[.int .i64 c, .int .i64 1] w fun e w' => e = .returned (.int .i64 0) ∧ w' = w := by
  by_cases h : c < 0
  · go_enter Tryz.func39, Tryz.ntmps39
    go_wp2
    go_ret
    exact ⟨by simp, rfl⟩
  · go_enter Tryz.func39, Tryz.ntmps39
    go_wp2
    go_ret
    exact ⟨by simp, rfl⟩
end Go.Proofs.YtfgfpggjcfhccaaGreat
namespace Go.Proofs.YtfgfpggjcfhccaaGreat
open Go.RowKit
/-- The lists that came out, and what they were grown to. -/
structure LAt (B : Nat) (ls l3 : Value) (L : Nat) (xs ys : List Value) (w : World) : Prop where
  row : w.ownsRow B 25 1 ls L xs
  row3 : w.ownsRow B 25 1 l3 (3 * L) ys
  apart : ∀ g, ls.ownBlock = some g → l3.ownBlock ≠ some g
  good : ∀ (k : Nat) (x : Value), xs[k]? = some x → Good w x (-1 - k)
  good3 : ∀ (k : Nat) (y : Value), ys[k]? = some y → Good w y (-1 - (k / 3 : Nat))
theorem row_cell {w : World} {B e n : Nat} {v : Value} {xs : List Value} (h : w.ownsRow B e 1 v n xs) {k : Nat} (hk : k < n) :
    ∃ g cap x, v = .slice (some ⟨g, 0, none⟩) n cap ∧ n ≤ cap ∧ w.cell? ⟨g, k, none⟩ = some x ∧ xs[k]? = some x := by
  rcases h.2 with ⟨_, h0⟩ | ⟨g, cap, cur, rfl, _, hg, hc, _, hs, ht⟩
  · omega
  · have hx : xs[k]? = some (xs[k]'(by rw [h.1]; omega)) := List.getElem?_eq_getElem _
    refine ⟨g, cap, _, rfl, hc, ?_, hx⟩
    rw [cell_of hg, ← hx, ← ht]
    simp only [Nat.mul_one, List.getElem?_take, Array.getElem?_toList]
    rw [if_pos hk]
set_option maxRecDepth 100000 in
set_option maxHeartbeats 3200000 in
theorem looks_yes (wb B L : Nat) (ps ls l3 : Value) (xs ys : List Value) (w : World) (hb : w.heap[wb]? = some (.cells #[ps, ls, l3] 64 (0, 0))) (h : LAt B ls l3 L xs ys w) (hL : L ≤ 4000000) :
    Calls Tryz.prog 21 #[.pointer (some ⟨wb, 0, none⟩)] w fun e w' => e = .returned (.bool true) ∧ w' = w := by
  have d1 : w.cell? ⟨wb, 1, none⟩ = some ls := cell_of hb 1
  have d2 : w.cell? ⟨wb, 2, none⟩ = some l3 := cell_of hb 2
  have HH : Hid _ := h
  have shape : ∃ a1 n1 c1, ls = .slice a1 L c1 ∧ n1 = L := by
    rcases h.row.2 with ⟨rfl, rfl⟩ | ⟨g, cap, cur, rfl, _⟩
    · exact ⟨_, _, _, rfl, rfl⟩
    · exact ⟨_, _, _, rfl, rfl⟩
  obtain ⟨a1, _, c1, hls, _⟩ := shape
  clear h hb
  by_cases h0 : L = 0
  · subst h0
    subst hls
    go_enter Tryz.func21, Tryz.ntmps21
    go_wp2
    go_loop [3] (fun i => i = .int .i64 0) (fun _ => 0)
    case atStart => rfl
    case round =>
      subst hrel
      go_wp2
      go_ret
      exact ⟨rfl, rfl⟩
  · obtain ⟨g1, cap1, x0, e1, hc1, _, _⟩ := row_cell HH.out.row (k := 0) (by omega)
    obtain ⟨g3, cap3, y0, e3, hc3, _, _⟩ := row_cell HH.out.row3 (k := 0) (by omega)
    subst e1
    subst e3
    clear hls
    go_enter Tryz.func21, Tryz.ntmps21
    go_wp2
    go_loop [3] (fun i => ∃ k : Nat, k ≤ L ∧ i = .int .i64 k) (fun i => L - (intOf i).toNat)
    case atStart => exact ⟨0, by omega, rfl⟩
    case round =>
      obtain ⟨k, hk, rfl⟩ := hrel
      by_cases hlt : k < L
      · obtain ⟨_, _, x, e, _, q1, p1⟩ := row_cell HH.out.row (k := k) (by omega)
        cases e
        obtain ⟨_, _, y, e, _, q2, p2⟩ := row_cell HH.out.row3 (k := 3 * k) (by omega)
        cases e
        obtain ⟨_, _, z, e, _, q3, p3⟩ := row_cell HH.out.row3 (k := 3 * k + 1) (by omega)
        cases e
        obtain ⟨_, _, u, e, _, q4, p4⟩ := row_cell HH.out.row3 (k := 3 * k + 2) (by omega)
        cases e
        have G1 := HH.out.good k x p1
        have G2 := HH.out.good3 (3 * k) y p2
        have G3 := HH.out.good3 (3 * k + 1) z p3
        have G4 := HH.out.good3 (3 * k + 2) u p4
        rw [show 3 * k / 3 = k by omega] at G2
        rw [show (3 * k + 1) / 3 = k by omega] at G3
        rw [show (3 * k + 2) / 3 = k by omega] at G4
        have b1 : (k : Int) < L := by omega
        have b2 : (3 * k : Int) < (3 * L : Nat) := by omega
        have b3 : (3 * k + 1 : Int) < (3 * L : Nat) := by omega
        have b4 : (3 * k + 2 : Int) < (3 * L : Nat) := by omega
        have b5 : (k : Int) ≤ 4000000 := by omega
        clear p1 p2 p3 p4
        go_wp2_with fail
        refine (full_yes x _ w G1).mono ?_
        rintro e w1 ⟨rfl, rfl⟩
        go_wp2_with fail
        refine (full_yes y _ w1 G2).mono ?_
        rintro e w1 ⟨rfl, rfl⟩
        go_wp2_with fail
        refine (full_yes z _ w1 G3).mono ?_
        rintro e w1 ⟨rfl, rfl⟩
        go_wp2_with fail
        refine (full_yes u _ w1 G4).mono ?_
        rintro e w1 ⟨rfl, rfl⟩
        go_wp2
        go_round
        case rel => exact ⟨k + 1, by omega, by go_num⟩
        case measure => simp [intOf]; omega
      · go_wp2
        go_ret
        exact ⟨rfl, rfl⟩
end Go.Proofs.YtfgfpggjcfhccaaGreat
