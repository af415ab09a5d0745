import Derived.Test.YtfgfpggjcfhccaaGreatLk
namespace Go.Proofs.YtfgfpggjcfhccaaGreat
open Go.RowKit
theorem cell_set6 {r b : Nat} (hne : r ≠ b) (W : World) (o : Nat) (v0 v1 v2 v3 v4 v5 : Value) :
    ((((((W.setCell ⟨r, 0, none⟩ v0).setCell ⟨r, 1, none⟩ v1).setCell ⟨r, 2, none⟩ v2).setCell ⟨r, 3, none⟩ v3).setCell ⟨r, 4, none⟩ v4).setCell ⟨r, 5, none⟩ v5).cell? ⟨b, o, none⟩ = W.cell? ⟨b, o, none⟩ := by
  have h : ∀ k, (⟨r, k, none⟩ : Addr) ≠ ⟨b, o, none⟩ := fun k e => hne (by injection e)
  rw [World.cell?_setCell_other _ _ _ _ (h _), World.cell?_setCell_other _ _ _ _ (h _), World.cell?_setCell_other _ _ _ _ (h _), World.cell?_setCell_other _ _ _ _ (h _), World.cell?_setCell_other _ _ _ _ (h _), World.cell?_setCell_other _ _ _ _ (h _)]
theorem block_set6 {W : World} {r b : Nat} {x : Obj} (h : W.heap[b]? = some x) (hne : b ≠ r) (v0 v1 v2 v3 v4 v5 : Value) :
    ((((((W.setCell ⟨r, 0, none⟩ v0).setCell ⟨r, 1, none⟩ v1).setCell ⟨r, 2, none⟩ v2).setCell ⟨r, 3, none⟩ v3).setCell ⟨r, 4, none⟩ v4).setCell ⟨r, 5, none⟩ v5).heap[b]? = some x :=
  block_set_ne (block_set_ne (block_set_ne (block_set_ne (block_set_ne (block_set_ne h hne _ _) hne _ _) hne _ _) hne _ _) hne _ _) hne _ _
theorem res26 {tmps : Array Value} {W : World} (r : Nat) (v0 v1 v2 v3 v4 v5 : Value) (h2 : tmps.getD 2 undef = .pointer (some ⟨r, 0, none⟩))
    (hc : ∀ o, W.cell? ⟨r, o, none⟩ = #[Value.slice none 0 0, .bool false, .bool false, .slice none 0 0, .int .i64 0, .int .i64 0][o]?) :
    (results Tryz.f27 tmps).run Tryz.prog ((((((W.setCell ⟨r, 0, none⟩ v0).setCell ⟨r, 1, none⟩ v1).setCell ⟨r, 2, none⟩ v2).setCell ⟨r, 3, none⟩ v3).setCell ⟨r, 4, none⟩ v4).setCell ⟨r, 5, none⟩ v5) =
      .ok (.agg #[v0, v1, v2, v3, v4, v5]) ((((((W.setCell ⟨r, 0, none⟩ v0).setCell ⟨r, 1, none⟩ v1).setCell ⟨r, 2, none⟩ v2).setCell ⟨r, 3, none⟩ v3).setCell ⟨r, 4, none⟩ v4).setCell ⟨r, 5, none⟩ v5) := by
  simp only [Array.getD_eq_getD_getElem?] at h2
  simp [results, Tryz.results27, go_sem, h2, hc]
theorem list0K (w : World) : Calls Tryz.prog 47 #[.agg #[.pointer none, .pointer none, .pointer none, .pointer none, .pointer none, .pointer none, .pointer none, .pointer none]] w fun e w' => ∃ b, e = .returned (.slice (some ⟨b, 0, none⟩) 0 0) ∧ w'.heap[b]? = some (.cells #[] 84 (0, 0)) ∧ w.heap.size ≤ b ∧ Kept [] w w' := by
  refine (list0 w).mono ?_
  rintro e w' ⟨rfl, rfl⟩
  refine ⟨_, rfl, ?_, by omega, (((Kept.refl [] w).alloc _).alloc _).alloc _⟩
  have := block_alloc_new ((w.alloc (.cells #[.pointer none, .pointer none, .pointer none, .pointer none, .pointer none, .pointer none, .pointer none, .pointer none] 99)).alloc (.cells #[.pointer none, .pointer none, .pointer none, .pointer none, .pointer none, .pointer none, .pointer none, .pointer none] 99)) (.cells #[] 84)
  simpa using this
set_option maxRecDepth 100000 in
set_option maxHeartbeats 4000000 in
theorem view0 (s : Nat) (w : World) (h : w.heap[s]? = some (.cells shCells 111 (0, 0))) :
    Calls Tryz.prog 27 #[.pointer (some ⟨s, 0, none⟩)] w fun e w' => ∃ l1 l2, e = .returned (.agg #[l1, .bool false, .bool false, l2, .int .i64 0, .int .i64 (-1)]) ∧
      nilList w' w.heap.size l1 ∧ nilList w' w.heap.size l2 ∧ Kept [] w w' := by
  have hs := lt_of_block h
  have hc : ∀ o, w.cell? ⟨s, o, none⟩ = shCells[o]? := cell_of h
  have hs1 : s < w.heap.size + 1 := by omega
  have hs2 : s < w.heap.size + 2 := by omega
  have hs3 : s < w.heap.size + 3 := by omega
  have hs4 : s < w.heap.size + 4 := by omega
  go_enter Tryz.func27, Tryz.ntmps27
  go_wp2_with fail
  go_cut [3, 4] (fun x y w' => ∃ b3 b4 : Nat, x = .pointer (some ⟨b3, 0, none⟩) ∧ y = .pointer (some ⟨b4, 0, none⟩) ∧ w'.heap[b3]? = some (.cells #[.pointer none, .pointer none, .pointer none, .pointer none, .pointer none, .pointer none, .pointer none, .pointer none, .bool false] 101 (0, 0)) ∧ w'.heap[b4]? = some (.cells #[.pointer none, .pointer none, .pointer none, .pointer none, .pointer none, .pointer none, .pointer none, .pointer none, .bool false] 105 (0, 0)) ∧
    w'.heap[w.heap.size]? = some (.cells #[.slice none 0 0, .bool false, .bool false, .slice none 0 0, .int .i64 0, .int .i64 0] 27 (0, 0)) ∧ Kept [] w w')
  case first =>
    go_region_held3 (fun w' => ∀ o, w'.cell? ⟨s, o, none⟩ = shCells[o]?) ((intro o; go_simp))
      (first | (go_at_call 45; refine (lookReadX s _ (by assumption)).mono ?_; rintro e w' ⟨rfl, rfl⟩) | (go_at_call 46; refine (lookDirtyX s _ (by assumption)).mono ?_; rintro e w' ⟨rfl, rfl⟩))
    all_goals go_wp2_with fail
    all_goals go_meet
    all_goals refine ⟨_, _, rfl, rfl, ?_, ?_, (five w _ _ _ _ _).1, (((((Kept.refl [] w).alloc _).alloc _).alloc _).alloc _).alloc _ |>.drew⟩
    all_goals first | exact (five w _ _ _ _ _).2.1 | exact (five w _ _ _ _ _).2.2.1 | exact (five w _ _ _ _ _).2.2.2.1 | exact (five w _ _ _ _ _).2.2.2.2
  case rest =>
    obtain ⟨b3, b4, rfl, rfl, h3, h4, hr, hK⟩ := hcut
    have hS := hK.at h (by simp)
    clear hc hs hs1 hs2 hs3 hs4 h
    have hs := lt_of_block hS
    have z3 := lt_of_block h3
    have z4 := lt_of_block h4
    have zr := lt_of_block hr
    have c3 : ∀ o, wc.cell? ⟨b3, o, none⟩ = #[.pointer none, .pointer none, .pointer none, .pointer none, .pointer none, .pointer none, .pointer none, .pointer none, .bool false][o]? := cell_of h3
    have c4 : ∀ o, wc.cell? ⟨b4, o, none⟩ = #[.pointer none, .pointer none, .pointer none, .pointer none, .pointer none, .pointer none, .pointer none, .pointer none, .bool false][o]? := cell_of h4
    have c5 : ∀ o, wc.cell? ⟨w.heap.size, o, none⟩ = #[Value.slice none 0 0, .bool false, .bool false, .slice none 0 0, .int .i64 0, .int .i64 0][o]? := cell_of hr
    have f5 : ∀ o, wc.frozen? ⟨w.heap.size, o, none⟩ = false := frozen_of hr
    have n3 : b3 ≠ w.heap.size := ne_of_blocks h3 hr (by simp)
    have n4 : b4 ≠ w.heap.size := ne_of_blocks h4 hr (by simp)
    have n3' : w.heap.size ≠ b3 := Ne.symm n3
    have n4' : w.heap.size ≠ b4 := Ne.symm n4
    have L : ∀ W, Kept [] wc W → Calls Tryz.prog 47 #[.agg #[.pointer none, .pointer none, .pointer none, .pointer none, .pointer none, .pointer none, .pointer none, .pointer none]] W fun e w' => ∃ b, e = .returned (.slice (some ⟨b, 0, none⟩) 0 0) ∧ (w'.heap[b]? = some (.cells #[] 84 (0, 0)) ∧ wc.heap.size ≤ b) ∧ Kept [] wc w' ∧
        (∀ o, w'.cell? ⟨b3, o, none⟩ = #[Value.pointer none, .pointer none, .pointer none, .pointer none, .pointer none, .pointer none, .pointer none, .pointer none, .bool false][o]?) ∧ (∀ o, w'.cell? ⟨b4, o, none⟩ = #[Value.pointer none, .pointer none, .pointer none, .pointer none, .pointer none, .pointer none, .pointer none, .pointer none, .bool false][o]?) ∧ (∀ o, w'.cell? ⟨w.heap.size, o, none⟩ = #[Value.slice none 0 0, .bool false, .bool false, .slice none 0 0, .int .i64 0, .int .i64 0][o]?) ∧ (∀ o, w'.frozen? ⟨w.heap.size, o, none⟩ = false) ∧ Kept [] W w' := by
      intro W hW
      refine (list0K W).mono ?_
      rintro e w' ⟨b, rfl, hb, hbz, hk⟩
      have hk' := hW.trans hk
      exact ⟨b, rfl, ⟨hb, Nat.le_trans hW.size hbz⟩, hk', cell_of (hk'.at h3 (by simp)), cell_of (hk'.at h4 (by simp)), cell_of (hk'.at hr (by simp)), frozen_of (hk'.at hr (by simp)), hk⟩
    have HL : Hid _ := L
    clear L c5 f5
    go_wp2_with fail
    go_region_held3 (fun w' => (∀ o, w'.cell? ⟨b3, o, none⟩ = #[Value.pointer none, .pointer none, .pointer none, .pointer none, .pointer none, .pointer none, .pointer none, .pointer none, .bool false][o]?) ∧ (∀ o, w'.cell? ⟨b4, o, none⟩ = #[Value.pointer none, .pointer none, .pointer none, .pointer none, .pointer none, .pointer none, .pointer none, .pointer none, .bool false][o]?))
      (first | (refine ⟨?_, ?_⟩ <;> intro o <;> first | (rw [cell_set6 n3']; exact g3 o) | (rw [cell_set6 n4']; exact g4 o)) | exact ⟨g3, g4⟩ | exact ⟨c3, c4⟩)
      (first | (go_at_call 47; refine (HL.out _ (by first | exact (Kept.refl _ _).drew | exact kk)).mono ?_; rintro e w' ⟨l, rfl, hl, kk, g3, g4, g5, g6, hk⟩) | (go_at_call_of 48 (Value.pointer (some (Addr.mk s 18 none))); refine (lookInt s 18 0 _ (cell_of (kk.at hS (by simp)) 18)).mono ?_; rintro e w' ⟨rfl, rfl⟩) | (go_at_call_of 48 (Value.pointer (some (Addr.mk s 19 none))); refine (lookInt s 19 (-1) _ (cell_of (kk.at hS (by simp)) 19)).mono ?_; rintro e w' ⟨rfl, rfl⟩))
    go_wp2
    refine bodyPost_ret (v := .agg #[_, .bool false, .bool false, _, .int .i64 0, .int .i64 (-1)]) (res26 w.heap.size _ _ _ _ _ _ rfl g5) rfl ⟨_, _, rfl, ⟨_, rfl, ?_, ?_⟩, ⟨_, rfl, ?_, ?_⟩, ?_⟩
    · exact block_set6 (Kept.at hk (And.left (by assumption)) (by simp)) (by have := And.right (by assumption); omega) _ _ _ _ _ _
    · have := hK.size; have := And.right (by assumption); omega
    · exact block_set6 hl.1 (by have := hl.2; omega) _ _ _ _ _ _
    · have := hK.size; have := hl.2; omega
    · exact (((((((hK.trans kk).setCell (.inr (Nat.le_refl _)) _).setCell (.inr (Nat.le_refl _)) _).setCell (.inr (Nat.le_refl _)) _).setCell (.inr (Nat.le_refl _)) _).setCell (.inr (Nat.le_refl _)) _).setCell (.inr (Nat.le_refl _)) _)
end Go.Proofs.YtfgfpggjcfhccaaGreat
