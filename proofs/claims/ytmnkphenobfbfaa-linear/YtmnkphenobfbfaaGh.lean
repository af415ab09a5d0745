import Derived.Test.YtmnkphenobfbfaaGb
import Derived.FnLit
import Derived.Deep.RegionHeld3
namespace Go.Proofs.Ytmnkphenobfbfaa
open Go.RowKit Go.MuLone
def opVal (kind key v o : Int) : Value := .agg #[.int .i64 kind, .int .i64 key, .int .i64 v, .int .i64 o]
set_option maxRecDepth 100000 in
set_option maxHeartbeats 800000 in
theorem mayBe_yes (key v o : Int) (w : World) (h0 : 0 ≤ key) (h7 : key < 8) : Calls Try.prog 28 #[.agg #[.int .i64 0, .int .i64 key, .int .i64 v, .int .i64 o]] w fun e w' => e = .returned (.bool true) ∧ Kept [] w w' := by
  have h0' : ¬ key < 0 := by omega
  have h7' : ¬ 8 ≤ key := by omega
  go_enter Try.func28, Try.ntmps28
  go_wp2
  go_ret
  exact ⟨rfl, (Kept.refl [] w).alloc _⟩
set_option maxRecDepth 100000 in
set_option maxHeartbeats 800000 in
theorem mayBe_no (kind key v o : Int) (w : World) (hk : kind ≤ 0) (h : kind < 0 ∨ key < 0 ∨ 8 ≤ key) : Calls Try.prog 28 #[.agg #[.int .i64 kind, .int .i64 key, .int .i64 v, .int .i64 o]] w fun e w' => e = .returned (.bool false) ∧ Kept [] w w' := by
  by_cases h0 : key < 0
  · clear h
    go_enter Try.func28, Try.ntmps28
    go_wp2
    go_ret
    exact ⟨rfl, (Kept.refl [] w).alloc _⟩
  · by_cases h8 : 8 ≤ key
    · clear h
      go_enter Try.func28, Try.ntmps28
      go_wp2
      go_ret
      exact ⟨rfl, (Kept.refl [] w).alloc _⟩
    · have hk0 : kind < 0 := by omega
      have e0 : (kind == 0) = false := beq_eq_false_iff_ne.2 (by omega)
      have e1 : (kind == 1) = false := beq_eq_false_iff_ne.2 (by omega)
      have e2 : (kind == 2) = false := beq_eq_false_iff_ne.2 (by omega)
      have e3 : (kind == 3) = false := beq_eq_false_iff_ne.2 (by omega)
      clear h
      go_enter Try.func28, Try.ntmps28
      go_wp2
      go_ret
      exact ⟨rfl, (Kept.refl [] w).alloc _⟩
set_option maxRecDepth 100000 in
set_option maxHeartbeats 800000 in
theorem tbegin (i s t : Nat) (key v o : Int) (w : World) (h : w.heap[t]? = some (.cells (thCells i s t none) 103 (0, 0))) :
    Calls Try.prog 30 #[.pointer (some ⟨t, 0, none⟩), .agg #[.int .i64 0, .int .i64 key, .int .i64 v, .int .i64 o]] w fun e w' => e = .returned (.tuple #[]) ∧ w'.heap[t]? = some (.cells (thCells i s t (some (key, v, o))) 103 (0, 0)) ∧ Kept [t] w w' := by
  have hs := lt_of_block h
  have hc : ∀ o', w.cell? ⟨t, o', none⟩ = (thCells i s t none)[o']? := cell_of h
  have hf : ∀ o, w.frozen? ⟨t, o, none⟩ = false := frozen_of h
  have hmf : ∀ (fn : Fn) (first cap : Array Value) (w : World), (Instr.makeFunc fn first cap).run Try.prog w = .ok (.func fn first cap) w := fun _ _ _ _ => rfl
  simp only [thCells] at hc
  go_enter Try.func30, Try.ntmps30
  go_wp2
  go_end0
  refine ⟨rfl, ?_, ?_⟩
  · refine block_alloc_lt ((block_set_same (block_set_same (block_set_same (block_set_same (block_set_same h _ _) _ _) _ _) _ _) _ _).trans ?_) _
    simp [thCells]
  · exact ((((((Kept.refl _ w).setCell (.inl (by simp)) _).setCell (.inl (by simp)) _).setCell (.inl (by simp)) _).setCell (.inl (by simp)) _).setCell (.inl (by simp)) _).alloc _
end Go.Proofs.Ytmnkphenobfbfaa
namespace Go.Proofs.Ytmnkphenobfbfaa
open Go.RowKit Go.MuLone
theorem res14 {tmps : Array Value} {W : World} {e : Value} (h6 : tmps.getD 6 undef = e) : (results Try.f9 tmps).run Try.prog W = .ok e W := by
  rw [← h6]
  exact results_tmp rfl _ _ _
set_option maxRecDepth 100000 in
set_option maxHeartbeats 1600000 in
theorem begin_closed (p : PM) (i kind key v o : Int) (w : World) (th : Nat → Option (Int × Int × Int)) (h : PAt p 0 w true th)  :
    Calls Try.prog 9 #[.pointer (some ⟨p.m, 0, none⟩), .int .i64 i, .agg #[.int .i64 kind, .int .i64 key, .int .i64 v, .int .i64 o]] w fun e w' => e = .returned (.int .i64 5) ∧ PAt p 0 w' true th ∧ Kept [p.m] w w' := by
  have hs := lt_of_block h.m
  have h1 := (h.alloc (.cells #[Value.int .i64 kind, .int .i64 key, .int .i64 v, .int .i64 o] 28)).lock 1
  have k1 : Kept [p.m] w ((w.alloc (.cells #[Value.int .i64 kind, .int .i64 key, .int .i64 v, .int .i64 o] 28)).setCell ⟨p.m, 0, none⟩ (.int .i32 1)) := ((Kept.refl _ w).alloc _).setCell (.inl (by simp)) _
  have hr : ((w.alloc (.cells #[Value.int .i64 kind, .int .i64 key, .int .i64 v, .int .i64 o] 28)).setCell ⟨p.m, 0, none⟩ (.int .i32 1)).heap[w.heap.size]? = some (.cells #[Value.int .i64 kind, .int .i64 key, .int .i64 v, .int .i64 o] 28 (0, 0)) :=
    block_set_ne (block_alloc_new _ _) (by omega) _ _
  go_enter_defers Try.func9, Try.ntmps9
  go_wp2_with fail
  refine (lock_free Try.muLib ⟨p.m, 0, none⟩ _ ?_ ?_).mono ?_
  · rw [cell_of (h.alloc _).m]; rfl
  · rw [frozen_of (h.alloc _).m]
  rintro e w' ⟨rfl, rfl⟩
  generalize ((w.alloc (.cells #[Value.int .i64 kind, .int .i64 key, .int .i64 v, .int .i64 o] 28)).setCell ⟨p.m, 0, none⟩ (.int .i32 1)) = W at *
  go_wp2_with fail
  refine (isClosed_yes p.m p.c 0 0 _ (by rw [cell_of h1.m]; rfl) h1.c).mono ?_
  rintro e w' ⟨rfl, rfl⟩
  go_wp2
  refine door_unlock p.m _ (by rw [cell_of h1.m]; rfl) (by rw [frozen_of h1.m]) (res14 rfl) ⟨rfl, h1.lock 0, k1.setCell (.inl (by simp)) _⟩
set_option maxRecDepth 100000 in
set_option maxHeartbeats 1600000 in
theorem begin_noThread (p : PM) (i kind key v o : Int) (w : World) (th : Nat → Option (Int × Int × Int)) (h : PAt p 0 w false th) (hi : i < 0 ∨ (p.ts.length : Int) ≤ i) :
    Calls Try.prog 9 #[.pointer (some ⟨p.m, 0, none⟩), .int .i64 i, .agg #[.int .i64 kind, .int .i64 key, .int .i64 v, .int .i64 o]] w fun e w' => e = .returned (.int .i64 1) ∧ PAt p 0 w' false th ∧ Kept [p.m] w w' := by
  have hs := lt_of_block h.m
  have h1 := (h.alloc (.cells #[Value.int .i64 kind, .int .i64 key, .int .i64 v, .int .i64 o] 28)).lock 1
  have k1 : Kept [p.m] w ((w.alloc (.cells #[Value.int .i64 kind, .int .i64 key, .int .i64 v, .int .i64 o] 28)).setCell ⟨p.m, 0, none⟩ (.int .i32 1)) := ((Kept.refl _ w).alloc _).setCell (.inl (by simp)) _
  have hr : ((w.alloc (.cells #[Value.int .i64 kind, .int .i64 key, .int .i64 v, .int .i64 o] 28)).setCell ⟨p.m, 0, none⟩ (.int .i32 1)).heap[w.heap.size]? = some (.cells #[Value.int .i64 kind, .int .i64 key, .int .i64 v, .int .i64 o] 28 (0, 0)) :=
    block_set_ne (block_alloc_new _ _) (by omega) _ _
  go_enter_defers Try.func9, Try.ntmps9
  go_wp2_with fail
  refine (lock_free Try.muLib ⟨p.m, 0, none⟩ _ ?_ ?_).mono ?_
  · rw [cell_of (h.alloc _).m]; rfl
  · rw [frozen_of (h.alloc _).m]
  rintro e w' ⟨rfl, rfl⟩
  generalize ((w.alloc (.cells #[Value.int .i64 kind, .int .i64 key, .int .i64 v, .int .i64 o] 28)).setCell ⟨p.m, 0, none⟩ (.int .i32 1)) = W at *
  go_wp2_with fail
  refine (isClosed_no p.m p.c 0 0 _ (by rw [cell_of h1.m]; rfl) h1.c).mono ?_
  rintro e w' ⟨rfl, rfl⟩
  go_wp2_with fail
  refine (hasThread_no p.m (some ⟨p.tb, 0, none⟩) p.ts.length p.cap i _ (by rw [cell_of h1.m]; rfl) hi).mono ?_
  rintro e w' ⟨rfl, rfl⟩
  clear hi
  go_wp2
  refine door_unlock p.m _ (by rw [cell_of h1.m]; rfl) (by rw [frozen_of h1.m]) (res14 rfl) ⟨rfl, h1.lock 0, k1.setCell (.inl (by simp)) _⟩
set_option maxRecDepth 100000 in
set_option maxHeartbeats 1600000 in
theorem begin_arg (p : PM) (i kind key v o : Int) (w : World) (th : Nat → Option (Int × Int × Int)) (h : PAt p 0 w false th) (h0 : 0 ≤ i) (hi : i < p.ts.length) (hk : kind ≤ 0) (hm : kind < 0 ∨ key < 0 ∨ 8 ≤ key) :
    Calls Try.prog 9 #[.pointer (some ⟨p.m, 0, none⟩), .int .i64 i, .agg #[.int .i64 kind, .int .i64 key, .int .i64 v, .int .i64 o]] w fun e w' => e = .returned (.int .i64 1) ∧ PAt p 0 w' false th ∧ Kept [p.m] w w' := by
  have hs := lt_of_block h.m
  have h1 := (h.alloc (.cells #[Value.int .i64 kind, .int .i64 key, .int .i64 v, .int .i64 o] 28)).lock 1
  have k1 : Kept [p.m] w ((w.alloc (.cells #[Value.int .i64 kind, .int .i64 key, .int .i64 v, .int .i64 o] 28)).setCell ⟨p.m, 0, none⟩ (.int .i32 1)) := ((Kept.refl _ w).alloc _).setCell (.inl (by simp)) _
  have hr : ((w.alloc (.cells #[Value.int .i64 kind, .int .i64 key, .int .i64 v, .int .i64 o] 28)).setCell ⟨p.m, 0, none⟩ (.int .i32 1)).heap[w.heap.size]? = some (.cells #[Value.int .i64 kind, .int .i64 key, .int .i64 v, .int .i64 o] 28 (0, 0)) :=
    block_set_ne (block_alloc_new _ _) (by omega) _ _
  go_enter_defers Try.func9, Try.ntmps9
  go_wp2_with fail
  refine (lock_free Try.muLib ⟨p.m, 0, none⟩ _ ?_ ?_).mono ?_
  · rw [cell_of (h.alloc _).m]; rfl
  · rw [frozen_of (h.alloc _).m]
  rintro e w' ⟨rfl, rfl⟩
  generalize ((w.alloc (.cells #[Value.int .i64 kind, .int .i64 key, .int .i64 v, .int .i64 o] 28)).setCell ⟨p.m, 0, none⟩ (.int .i32 1)) = W at *
  go_wp2_with fail
  refine (isClosed_no p.m p.c 0 0 _ (by rw [cell_of h1.m]; rfl) h1.c).mono ?_
  rintro e w' ⟨rfl, rfl⟩
  go_wp2_with fail
  refine (hasThread_yes p.m (some ⟨p.tb, 0, none⟩) p.ts.length p.cap i _ (by rw [cell_of h1.m]; rfl) h0 hi).mono ?_
  rintro e w' ⟨rfl, rfl⟩
  have hco : ∀ x, w'.cell? ⟨w.heap.size, x, none⟩ = #[Value.int .i64 kind, .int .i64 key, .int .i64 v, .int .i64 o][x]? := cell_of hr
  go_wp2_with fail
  refine (mayBe_no kind key v o _ hk hm).mono ?_
  rintro e w2 ⟨rfl, k2⟩
  replace h1 := h1.keptNil k2
  replace k1 := k1.trans (k2.mono (by simp))
  clear hco hm hk k2 hr
  go_wp2
  refine door_unlock p.m _ (by rw [cell_of h1.m]; rfl) (by rw [frozen_of h1.m]) (res14 rfl) ⟨rfl, h1.lock 0, k1.setCell (.inl (by simp)) _⟩
end Go.Proofs.Ytmnkphenobfbfaa
namespace Go.Proofs.Ytmnkphenobfbfaa
open Go.RowKit Go.MuLone Go.Conc
theorem door_unlockN {fn : Func} {tmps : Array Value} {R : Ending → World → Prop} {W : World} (m : Nat) (v : Value)
    (hc : W.cell? ⟨m, 0, none⟩ = some (.int .i32 1)) (hz : W.frozen? ⟨m, 0, none⟩ = false)
    (hres : (results fn tmps).run Try.prog (W.setCell ⟨m, 0, none⟩ (.int .i32 0)) = .ok v (W.setCell ⟨m, 0, none⟩ (.int .i32 0)))
    (hR : R (.returned v) (W.setCell ⟨m, 0, none⟩ (.int .i32 0))) :
    bodyPostD Try.prog fn R .normal { tmps := tmps, defers := [{ target := .fn (.func 25) #[], args := #[.pointer (some ⟨m, 0, none⟩)] }] } W :=
  door_unlock m v hc hz hres hR
theorem Kept.setChan {F : List Nat} {a w : World} (h : Kept F a w) {c : Nat} (hp : c ∈ F ∨ a.heap.size ≤ c) (cap : Nat) (buf : Array Value) (cl : Bool) (s r : Nat) (tm : Bool) : Kept F a (w.setChan c cap buf cl s r tm) :=
  ⟨h.os, h.tape, h.output, by simpa [World.setChan] using h.size, fun k hk hf => by
    have hne : c ≠ k := by rintro rfl; rcases hp with hp | hp; exact hf hp; omega
    simp only [World.setChan]
    rw [Array.getElem?_setIfInBounds_ne hne]
    exact h.block k hk hf⟩
end Go.Proofs.Ytmnkphenobfbfaa
