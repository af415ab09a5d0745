import Derived.Test.YtfgfpggjcfhccaaGreatLo
namespace Go.Proofs.YtfgfpggjcfhccaaGreat
open Go.RowKit
theorem res12 {tmps : Array Value} {W : World} (r : Nat) (v0 v1 v2 v3 v4 v5 : Value) (h2 : tmps.getD 2 undef = .pointer (some ⟨r, 0, none⟩))
    (hc : ∀ o, W.cell? ⟨r, o, none⟩ = #[Value.slice none 0 0, .bool false, .bool false, .slice none 0 0, .int .i64 0, .int .i64 0][o]?) :
    (results Tryz.f13 tmps).run Tryz.prog ((((((W.setCell ⟨r, 0, none⟩ v0).setCell ⟨r, 1, none⟩ v1).setCell ⟨r, 2, none⟩ v2).setCell ⟨r, 3, none⟩ v3).setCell ⟨r, 4, none⟩ v4).setCell ⟨r, 5, none⟩ v5) =
      .ok (.agg #[v0, v1, v2, v3, v4, v5]) ((((((W.setCell ⟨r, 0, none⟩ v0).setCell ⟨r, 1, none⟩ v1).setCell ⟨r, 2, none⟩ v2).setCell ⟨r, 3, none⟩ v3).setCell ⟨r, 4, none⟩ v4).setCell ⟨r, 5, none⟩ v5) := by
  simp only [Array.getD_eq_getD_getElem?] at h2
  simp [results, Tryz.results13, go_sem, h2, hc]
set_option maxRecDepth 100000 in
set_option maxHeartbeats 1600000 in
theorem rlook (q : RM) (cl : Bool) (w : World) (h : w.heap[q.r]? = some (.cells (rCells q cl) 59 (0, 0))) :
    Calls Tryz.prog 13 #[.pointer (some ⟨q.r, 0, none⟩)] w fun e w' => e = .returned (.agg #[.slice none 0 0, .bool false, .bool false, .slice none 0 0, .int .i64 0, .int .i64 (-1)]) ∧ Kept [] w w' := by
  have hs := lt_of_block h
  go_enter Tryz.func13, Tryz.ntmps13
  go_wp2_with fail
  have hS : (w.alloc (.cells #[Value.slice none 0 0, .bool false, .bool false, .slice none 0 0, .int .i64 0, .int .i64 0] 27)).heap[q.r]? = some (.cells (rCells q cl) 59 (0, 0)) := block_alloc_lt h _
  have hr : (w.alloc (.cells #[Value.slice none 0 0, .bool false, .bool false, .slice none 0 0, .int .i64 0, .int .i64 0] 27)).heap[w.heap.size]? = some (.cells #[Value.slice none 0 0, .bool false, .bool false, .slice none 0 0, .int .i64 0, .int .i64 0] 27 (0, 0)) := block_alloc_new _ _
  have hK : Kept [] w (w.alloc (.cells #[Value.slice none 0 0, .bool false, .bool false, .slice none 0 0, .int .i64 0, .int .i64 0] 27)) := (Kept.refl [] w).alloc _
  generalize (w.alloc (.cells #[Value.slice none 0 0, .bool false, .bool false, .slice none 0 0, .int .i64 0, .int .i64 0] 27)) = W0 at *
  have n3 : w.heap.size ≠ q.r := by omega
  have hc : ∀ o, W0.cell? ⟨q.r, o, none⟩ = #[Value.slice none 0 0, .int .i64 (-1), .int .i64 (-1), .int .i64 (-1), .int .i64 (-1), .int .i64 (-1), .int .i64 (-1), .int .i64 (-1), .int .i64 (-1), .bool false, .bool false, .int .i64 (-1), .int .i64 (-1), .int .i64 (-1), .int .i64 (-1), .int .i64 (-1), .int .i64 (-1), .int .i64 (-1), .int .i64 (-1), .int .i64 0, .int .i64 (-1), .bool cl, .slice (some ⟨q.tb, 0, none⟩) q.n q.n][o]? := cell_of hS
  have L : ∀ W, Kept [] W0 W → Calls Tryz.prog 28 #[.pointer (some ⟨q.r, 0, none⟩), .agg #[.int .i64 (-1), .int .i64 (-1), .int .i64 (-1), .int .i64 (-1), .int .i64 (-1), .int .i64 (-1), .int .i64 (-1), .int .i64 (-1)]] W fun e w' => e = .returned (.slice none 0 0) ∧ Kept [] W0 w' ∧
      (∀ o, w'.cell? ⟨q.r, o, none⟩ = #[Value.slice none 0 0, .int .i64 (-1), .int .i64 (-1), .int .i64 (-1), .int .i64 (-1), .int .i64 (-1), .int .i64 (-1), .int .i64 (-1), .int .i64 (-1), .bool false, .bool false, .int .i64 (-1), .int .i64 (-1), .int .i64 (-1), .int .i64 (-1), .int .i64 (-1), .int .i64 (-1), .int .i64 (-1), .int .i64 (-1), .int .i64 0, .int .i64 (-1), .bool cl, .slice (some ⟨q.tb, 0, none⟩) q.n q.n][o]?) ∧ (∀ o, w'.cell? ⟨w.heap.size, o, none⟩ = #[Value.slice none 0 0, .bool false, .bool false, .slice none 0 0, .int .i64 0, .int .i64 0][o]?) ∧ (∀ o, w'.frozen? ⟨w.heap.size, o, none⟩ = false) := by
    intro W hW
    refine (entries0 _ W).mono ?_
    rintro e w' ⟨rfl, hk⟩
    have hk' := hW.trans hk
    exact ⟨rfl, hk', cell_of (hk'.at hS (by simp)), cell_of (hk'.at hr (by simp)), frozen_of (hk'.at hr (by simp))⟩
  have HL : Hid _ := L
  clear L
  go_region_held3 (fun w' => ∀ o, w'.cell? ⟨q.r, o, none⟩ = #[Value.slice none 0 0, .int .i64 (-1), .int .i64 (-1), .int .i64 (-1), .int .i64 (-1), .int .i64 (-1), .int .i64 (-1), .int .i64 (-1), .int .i64 (-1), .bool false, .bool false, .int .i64 (-1), .int .i64 (-1), .int .i64 (-1), .int .i64 (-1), .int .i64 (-1), .int .i64 (-1), .int .i64 (-1), .int .i64 (-1), .int .i64 0, .int .i64 (-1), .bool cl, .slice (some ⟨q.tb, 0, none⟩) q.n q.n][o]?)
    (first | (intro o; rw [cell_set6 n3]; exact g3 o) | exact g3 | exact hc)
    (first | (go_at_call 28; refine (HL.out _ (by first | exact kk | exact (Kept.refl _ _).drew)).mono ?_; rintro e w' ⟨rfl, kk, g3, g5, g6⟩))
  go_wp2
  exact bodyPost_ret (v := .agg #[_, .bool false, .bool false, _, .int .i64 0, .int .i64 (-1)]) (res12 w.heap.size _ _ _ _ _ _ rfl g5) rfl ⟨rfl, (((((((hK.trans kk).setCell (.inr (Nat.le_refl _)) _).setCell (.inr (Nat.le_refl _)) _).setCell (.inr (Nat.le_refl _)) _).setCell (.inr (Nat.le_refl _)) _).setCell (.inr (Nat.le_refl _)) _).setCell (.inr (Nat.le_refl _)) _)⟩
end Go.Proofs.YtfgfpggjcfhccaaGreat
