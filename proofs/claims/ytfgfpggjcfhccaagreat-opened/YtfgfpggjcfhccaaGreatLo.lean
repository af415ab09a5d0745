import Derived.Test.YtfgfpggjcfhccaaGreatVw
namespace Go.Proofs.YtfgfpggjcfhccaaGreat
open Go.RowKit Go.MuLone
theorem PAt.set6 {p : PM} {l : Int} {w : World} {cl : Bool} {th : Nat → Option (Int × Int × Int)} (h : PAt p l w cl th) {b : Nat} {cs : Array Value} {T : TypeId} {z : Nat × Nat}
    (hb : w.heap[b]? = some (.cells cs T z)) (h1 : T ≠ 78) (h2 : T ≠ 111) (h3 : T ≠ 79) (h4 : T ≠ 116) (v0 v1 v2 v3 v4 v5 : Value) :
    PAt p l ((((((w.setCell ⟨b, 0, none⟩ v0).setCell ⟨b, 1, none⟩ v1).setCell ⟨b, 2, none⟩ v2).setCell ⟨b, 3, none⟩ v3).setCell ⟨b, 4, none⟩ v4).setCell ⟨b, 5, none⟩ v5) cl th := by
  have b0 := block_set_same hb 0 v0
  have b1 := block_set_same b0 1 v1
  have b2 := block_set_same b1 2 v2
  have b3 := block_set_same b2 3 v3
  have b4 := block_set_same b3 4 v4
  exact (((((h.set hb h1 h2 h3 h4 0 v0).set b0 h1 h2 h3 h4 1 v1).set b1 h1 h2 h3 h4 2 v2).set b2 h1 h2 h3 h4 3 v3).set b3 h1 h2 h3 h4 4 v4).set b4 h1 h2 h3 h4 5 v5
theorem res11 {tmps : Array Value} {W : World} (r : Nat) (v0 v1 v2 v3 v4 v5 : Value) (h2 : tmps.getD 2 undef = .pointer (some ⟨r, 0, none⟩))
    (h : W.heap[r]? = some (.cells #[v0, v1, v2, v3, v4, v5] 27 (0, 0))) :
    (results Tryz.f12 tmps).run Tryz.prog W = .ok (.agg #[v0, v1, v2, v3, v4, v5]) W := by
  have hc : ∀ o, W.cell? ⟨r, o, none⟩ = #[v0, v1, v2, v3, v4, v5][o]? := cell_of h
  simp only [Array.getD_eq_getD_getElem?] at h2
  simp [results, Tryz.results12, go_sem, h2, hc]
set_option maxRecDepth 100000 in
set_option maxHeartbeats 800000 in
theorem look_any (p : PM) (cl : Bool) (w : World) (th : Nat → Option (Int × Int × Int)) (h : PAt p 0 w cl th) :
    Calls Tryz.prog 12 #[.pointer (some ⟨p.m, 0, none⟩)] w fun e w' => ∃ b1 b2, e = .returned (.agg #[.slice (some ⟨b1, 0, none⟩) 0 0, .bool false, .bool false, .slice (some ⟨b2, 0, none⟩) 0 0, .int .i64 0, .int .i64 (-1)]) ∧
      w'.heap[b1]? = some (.cells #[] 84 (0, 0)) ∧ w.heap.size ≤ b1 ∧ w'.heap[b2]? = some (.cells #[] 84 (0, 0)) ∧ w.heap.size ≤ b2 ∧ PAt p 0 w' cl th ∧ Kept [p.m] w w' := by
  have hs := lt_of_block h.m
  have h1 := (h.alloc (.cells #[.slice none 0 0, .bool false, .bool false, .slice none 0 0, .int .i64 0, .int .i64 0] 27)).lock 1
  have k1 : Kept [p.m] w ((w.alloc (.cells #[.slice none 0 0, .bool false, .bool false, .slice none 0 0, .int .i64 0, .int .i64 0] 27)).setCell ⟨p.m, 0, none⟩ (.int .i32 1)) := ((Kept.refl _ w).alloc _).setCell (.inl (by simp)) _
  have hr : ((w.alloc (.cells #[.slice none 0 0, .bool false, .bool false, .slice none 0 0, .int .i64 0, .int .i64 0] 27)).setCell ⟨p.m, 0, none⟩ (.int .i32 1)).heap[w.heap.size]? = some (.cells #[.slice none 0 0, .bool false, .bool false, .slice none 0 0, .int .i64 0, .int .i64 0] 27 (0, 0)) :=
    block_set_ne (block_alloc_new _ _) (by omega) _ _
  go_enter_defers Tryz.func12, Tryz.ntmps12
  go_wp2_with fail
  refine (lock_free Tryz.muLib ⟨p.m, 0, none⟩ _ ?_ ?_).mono ?_
  · rw [cell_of (h.alloc _).m]; rfl
  · rw [frozen_of (h.alloc _).m]
  rintro e w' ⟨rfl, rfl⟩
  generalize ((w.alloc (.cells #[.slice none 0 0, .bool false, .bool false, .slice none 0 0, .int .i64 0, .int .i64 0] 27)).setCell ⟨p.m, 0, none⟩ (.int .i32 1)) = W at *
  have c3 : W.cell? ⟨p.m, 3, none⟩ = some (.pointer (some ⟨p.s, 0, none⟩)) := cell_of h1.m 3
  go_wp2_with fail
  refine (view0 p.s _ h1.s).mono ?_
  rintro e w2 ⟨l1, l2, rfl, ⟨b1, rfl, hb1, hz1⟩, ⟨b2, rfl, hb2, hz2⟩, k2⟩
  have zr0 := lt_of_block hr
  replace hr := k2.at hr (by simp)
  replace h1 := h1.keptNil k2
  have ksz := k1.size
  replace k1 := k1.trans (k2.mono (by simp))
  have zr := lt_of_block hr
  have hc2 : ∀ o, w2.cell? ⟨w.heap.size, o, none⟩ = #[Value.slice none 0 0, .bool false, .bool false, .slice none 0 0, .int .i64 0, .int .i64 0][o]? := cell_of hr
  have hf2 : ∀ o, w2.frozen? ⟨w.heap.size, o, none⟩ = false := frozen_of hr
  clear c3
  go_wp2
  have hr2 := block_set_same (block_set_same (block_set_same (block_set_same (block_set_same (block_set_same hr 0 (.slice (some ⟨b1, 0, none⟩) 0 0)) 1 (.bool false)) 2 (.bool false)) 3 (.slice (some ⟨b2, 0, none⟩) 0 0)) 4 (.int .i64 0)) 5 (.int .i64 (-1))
  have h2 := h1.set6 hr (by decide) (by decide) (by decide) (by decide) (.slice (some ⟨b1, 0, none⟩) 0 0) (.bool false) (.bool false) (.slice (some ⟨b2, 0, none⟩) 0 0) (.int .i64 0) (.int .i64 (-1))
  have k3 := (((((k1.setCell (p := ⟨w.heap.size, 0, none⟩) (.inr (Nat.le_refl _)) (.slice (some ⟨b1, 0, none⟩) 0 0)).setCell (p := ⟨w.heap.size, 1, none⟩) (.inr (Nat.le_refl _)) (.bool false)).setCell (p := ⟨w.heap.size, 2, none⟩) (.inr (Nat.le_refl _)) (.bool false)).setCell (p := ⟨w.heap.size, 3, none⟩) (.inr (Nat.le_refl _)) (.slice (some ⟨b2, 0, none⟩) 0 0)).setCell (p := ⟨w.heap.size, 4, none⟩) (.inr (Nat.le_refl _)) (.int .i64 0)).setCell (p := ⟨w.heap.size, 5, none⟩) (.inr (Nat.le_refl _)) (.int .i64 (-1))
  refine door_unlock p.m _ (by rw [cell_of h2.m]; rfl) (by rw [frozen_of h2.m]) (res11 w.heap.size _ _ _ _ _ _ rfl (block_set_ne hr2 (by omega) _ _)) ⟨b1, b2, rfl, ?_, by omega, ?_, by omega, h2.lock 0, k3.setCell (.inl (by simp)) _⟩
  · exact block_set_ne (block_set6 hb1 (by omega) _ _ _ _ _ _) (by omega) _ _
  · exact block_set_ne (block_set6 hb2 (by omega) _ _ _ _ _ _) (by omega) _ _
end Go.Proofs.YtfgfpggjcfhccaaGreat
