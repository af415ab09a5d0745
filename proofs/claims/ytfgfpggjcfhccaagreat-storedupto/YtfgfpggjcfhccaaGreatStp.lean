import Derived.Test.YtfgfpggjcfhccaaGreatClosed
import Derived.Conc.MuLone
import Derived.Defers
namespace Go.Proofs.YtfgfpggjcfhccaaGreat
open Go.RowKit Go.MuLone
theorem run_neq_nilf (w : World) : Sem.run Tryz.prog (binOp BinOp.neq 114 Value.nilFunc Value.nilFunc) w = .ok (.bool false) w := by kernel_rfl
set_option maxRecDepth 100000 in
set_option maxHeartbeats 400000 in
theorem busy_no (t : Nat) (w : World) (h7 : w.cell? ⟨t, 10, none⟩ = some .nilFunc) :
    Calls Tryz.prog 32 #[.pointer (some ⟨t, 0, none⟩)] w fun e w' => e = .returned (.bool false) ∧ w' = w := by
  have hrun := run_neq_nilf w
  go_enter Tryz.func32, Tryz.ntmps32
  go_wp2
  go_ret
  exact ⟨rfl, rfl⟩
set_option maxHeartbeats 400000 in
theorem hasThread_yes (m : Nat) (tb : Option Addr) (n cap : Nat) (i : Int) (w : World) (h4 : w.cell? ⟨m, 4, none⟩ = some (.slice tb n cap)) (h0 : 0 ≤ i) (h1 : i < n) :
    Calls Tryz.prog 30 #[.pointer (some ⟨m, 0, none⟩), .int .i64 i] w fun e w' => e = .returned (.bool true) ∧ w' = w := by
  go_enter Tryz.func30, Tryz.ntmps30
  go_wp2
  go_ret
  exact ⟨rfl, rfl⟩
set_option maxHeartbeats 400000 in
theorem hasThread_no (m : Nat) (tb : Option Addr) (n cap : Nat) (i : Int) (w : World) (h4 : w.cell? ⟨m, 4, none⟩ = some (.slice tb n cap)) (h : i < 0 ∨ (n : Int) ≤ i) :
    Calls Tryz.prog 30 #[.pointer (some ⟨m, 0, none⟩), .int .i64 i] w fun e w' => e = .returned (.bool false) ∧ w' = w := by
  rcases h with h | h
  · have h0 : ¬ 0 ≤ i := by omega
    go_enter Tryz.func30, Tryz.ntmps30
    go_wp2
    go_ret
    exact ⟨rfl, rfl⟩
  · by_cases h0 : 0 ≤ i
    · have h1 : ¬ i < n := by omega
      go_enter Tryz.func30, Tryz.ntmps30
      go_wp2
      go_ret
      exact ⟨rfl, rfl⟩
    · go_enter Tryz.func30, Tryz.ntmps30
      go_wp2
      go_ret
      exact ⟨rfl, rfl⟩
set_option maxHeartbeats 400000 in
theorem tstep_idle (t : Nat) (w : World) {cs : Array Value} (ht : w.heap[t]? = some (.cells cs 116 (0, 0))) (h7 : cs[10]? = some .nilFunc) :
    Calls Tryz.prog 34 #[.pointer (some ⟨t, 0, none⟩)] w fun e w' => e = .returned (.tuple #[.agg #[.bool false, .bool false, .int .i64 0], .int .i64 3]) ∧ Kept [] w w' := by
  go_enter Tryz.func34, Tryz.ntmps34
  go_wp2_with fail
  refine (busy_no t _ ?_).mono ?_
  · rw [cell_of (block_alloc_lt ht _)]; exact h7
  rintro e w' ⟨rfl, rfl⟩
  go_wp2
  exact bodyPost_ret (v := .tuple #[.agg #[.bool false, .bool false, .int .i64 0], .int .i64 3]) (by simp [results, Tryz.results34, go_sem]) rfl ⟨rfl, (Kept.refl [] w).alloc _⟩


/-- THE DOOR of a call that has the lock's Unlock deferred. -/
theorem door_unlock {fn : Func} {tmps : Array Value} {R : Ending → World → Prop} {W : World} (m : Nat) (v : Value)
    (hc : W.cell? ⟨m, 0, none⟩ = some (.int .i32 1)) (hz : W.frozen? ⟨m, 0, none⟩ = false)
    (hres : (results fn tmps).run Tryz.prog (W.setCell ⟨m, 0, none⟩ (.int .i32 0)) = .ok v (W.setCell ⟨m, 0, none⟩ (.int .i32 0)))
    (hR : R (.returned v) (W.setCell ⟨m, 0, none⟩ (.int .i32 0))) :
    bodyPostD Tryz.prog fn R .ret { tmps := tmps, defers := [{ target := .fn (.func 26) #[], args := #[.pointer (some ⟨m, 0, none⟩)] }] } W := by
  refine leaves_cons (f := 26) (args := #[.pointer (some ⟨m, 0, none⟩)]) (by simp) (by simp [go_sem]) ?_
  refine (unlock_deferred Tryz.muLib ⟨m, 0, none⟩ .returning _ hc hz).mono ?_
  rintro e u' w'' ⟨rfl, rfl, rfl⟩
  exact ⟨v, hres, hR⟩
theorem res16 {tmps : Array Value} {W : World} (r : Nat) (a b n e : Value) (h4 : tmps.getD 4 undef = .pointer (some ⟨r, 0, none⟩)) (h5 : tmps.getD 5 undef = e)
    (c0 : W.cell? ⟨r, 0, none⟩ = some a) (c1 : W.cell? ⟨r, 1, none⟩ = some b) (c2 : W.cell? ⟨r, 2, none⟩ = some n) :
    (results Tryz.f17 tmps).run Tryz.prog W = .ok (.tuple #[.agg #[a, b, n], e]) W := by
  simp only [Array.getD_eq_getD_getElem?] at h4 h5
  simp [results, Tryz.results17, go_sem, h4, h5, c0, c1, c2]

set_option maxHeartbeats 800000 in
theorem step_closed (p : PM) (i : Int) (w : World) (th : Nat → Option (Int × Int × Int)) (h : PAt p 0 w true th) :
    Calls Tryz.prog 17 #[.pointer (some ⟨p.m, 0, none⟩), .int .i64 i] w fun e w' => e = .returned (.tuple #[.agg #[.bool false, .bool false, .int .i64 0], .int .i64 5]) ∧ PAt p 0 w' true th ∧ Kept [p.m] w w' := by
  have hs := lt_of_block h.m
  have h1 := (h.alloc (.cells #[.bool false, .bool false, .int .i64 0] 52)).lock 1
  have k1 : Kept [p.m] w ((w.alloc (.cells #[.bool false, .bool false, .int .i64 0] 52)).setCell ⟨p.m, 0, none⟩ (.int .i32 1)) := ((Kept.refl _ w).alloc _).setCell (.inl (by simp)) _
  have hr : ((w.alloc (.cells #[.bool false, .bool false, .int .i64 0] 52)).setCell ⟨p.m, 0, none⟩ (.int .i32 1)).heap[w.heap.size]? = some (.cells #[.bool false, .bool false, .int .i64 0] 52 (0, 0)) :=
    block_set_ne (block_alloc_new _ _) (by omega) _ _
  go_enter_defers Tryz.func17, Tryz.ntmps17
  go_wp2_with fail
  refine (lock_free Tryz.muLib ⟨p.m, 0, none⟩ _ ?_ ?_).mono ?_
  · rw [cell_of (h.alloc _).m]; rfl
  · rw [frozen_of (h.alloc _).m]
  rintro e w' ⟨rfl, rfl⟩
  generalize ((w.alloc (.cells #[.bool false, .bool false, .int .i64 0] 52)).setCell ⟨p.m, 0, none⟩ (.int .i32 1)) = W at *
  go_wp2_with fail
  refine (isClosed_yes p.m p.c 0 0 _ (by rw [cell_of h1.m]; rfl) h1.c).mono ?_
  rintro e w' ⟨rfl, rfl⟩
  have c0 : w'.cell? ⟨w.heap.size, 0, none⟩ = some (.bool false) := cell_of hr 0
  have c1 : w'.cell? ⟨w.heap.size, 1, none⟩ = some (.bool false) := cell_of hr 1
  have c2 : w'.cell? ⟨w.heap.size, 2, none⟩ = some (.int .i64 0) := cell_of hr 2
  have f0 : ∀ o, w'.frozen? ⟨w.heap.size, o, none⟩ = false := frozen_of hr
  go_wp2
  have hr2 := block_set_same (block_set_same (block_set_same hr 0 (.bool false)) 1 (.bool false)) 2 (.int .i64 0)
  have h2 := ((h1.set hr (by decide) (by decide) (by decide) (by decide) 0 (.bool false)).set (block_set_same hr 0 _) (by decide) (by decide) (by decide) (by decide) 1 (.bool false)).set (block_set_same (block_set_same hr 0 _) 1 _) (by decide) (by decide) (by decide) (by decide) 2 (.int .i64 0)
  have k2 := ((k1.setCell (p := ⟨w.heap.size, 0, none⟩) (.inr (Nat.le_refl _)) (.bool false)).setCell (p := ⟨w.heap.size, 1, none⟩) (.inr (Nat.le_refl _)) (.bool false)).setCell (p := ⟨w.heap.size, 2, none⟩) (.inr (Nat.le_refl _)) (.int .i64 0)
  refine door_unlock p.m _ (by rw [cell_of h2.m]; rfl) (by rw [frozen_of h2.m]) (res16 w.heap.size _ _ _ _ rfl rfl ?_ ?_ ?_) ⟨rfl, h2.lock 0, k2.setCell (.inl (by simp)) _⟩
  all_goals (rw [cell_of (block_set_ne hr2 (by omega) _ _)]; rfl)
end Go.Proofs.YtfgfpggjcfhccaaGreat
