import Derived.Test.YtfgfpggjcfhccaaGreatRf
import Derived.Deep.RegionHeld3
import Derived.RegionTactic
namespace Go.Proofs.YtfgfpggjcfhccaaGreat
open Go.RowKit
set_option maxRecDepth 100000 in
set_option maxHeartbeats 800000 in
theorem rends (tb off : Nat) (f : Bool) (v : Int) (cs : Array Value) (w : World) (h : w.heap[tb]? = some (.cells cs 90 (0, 0))) {x : Value} (hx : cs[off + 4]? = some x) :
    Calls Tryz.prog 56 #[.pointer (some ⟨tb, off, none⟩), .bool f, .int .i64 v] w fun e w' => e = .returned (.agg #[.bool true, .bool f, .int .i64 v]) ∧
      w'.heap[tb]? = some (.cells (cs.setIfInBounds (off + 4) (.int .i64 0)) 90 (0, 0)) ∧ Kept [tb] w w' := by
  have hs := lt_of_block h
  have hc : w.cell? ⟨tb, off + 4, none⟩ = some x := by rw [cell_of h]; exact hx
  have hf : ∀ o, w.frozen? ⟨tb, o, none⟩ = false := frozen_of h
  have HX : Hid _ := hx
  clear hx
  go_enter Tryz.func56, Tryz.ntmps56
  go_wp2
  refine bodyPost_ret (v := .agg #[.bool true, .bool f, .int .i64 v]) (by simp [results, Tryz.results56, go_sem]) rfl ⟨rfl, ?_, ?_⟩
  · exact block_alloc_lt (block_set_same h _ _) _
  · exact ((Kept.refl _ w).setCell (.inl (by simp)) _).alloc _
theorem nth_neg (k : Int) (hk0 : 0 ≤ k) (hk7 : k < 8) (q : RM) (cl : Bool) : (rCells q cl)[1 + k.toNat]? = some (.int .i64 (-1)) := by
  obtain ⟨n, rfl⟩ := Int.eq_ofNat_of_zero_le hk0
  have hn : n < 8 := by omega
  simp only [Int.toNat_natCast]
  match n, hn with
  | 0, _ | 1, _ | 2, _ | 3, _ | 4, _ | 5, _ | 6, _ | 7, _ => rfl
set_option maxRecDepth 100000 in
set_option maxHeartbeats 800000 in
theorem rfirst (q : RM) (off : Nat) (k : Int) (cs : Array Value) (w : World) (hr : w.heap[q.r]? = some (.cells (rCells q false) 59 (0, 0))) (h : w.heap[q.tb]? = some (.cells cs 90 (0, 0)))
    (h1 : cs[off + 1]? = some (.int .i64 k)) {x y : Value} (h4 : cs[off + 4]? = some x) (h5 : cs[off + 5]? = some y) (hk0 : 0 ≤ k) (hk7 : k < 8) :
    Calls Tryz.prog 51 #[.pointer (some ⟨q.r, 0, none⟩), .pointer (some ⟨q.tb, off, none⟩), .int .i64 7] w fun e w' => e = .returned (.agg #[.bool true, .bool false, .int .i64 0]) ∧
      w'.heap[q.tb]? = some (.cells ((cs.setIfInBounds (off + 5) (.int .i64 (-1))).setIfInBounds (off + 4) (.int .i64 0)) 90 (0, 0)) ∧ Kept [q.tb] w w' := by
  have hs := lt_of_block h
  have hsr := lt_of_block hr
  have hne := ne_of_blocks hr h (by simp)
  have c1 : w.cell? ⟨q.tb, off + 1, none⟩ = some (.int .i64 k) := by rw [cell_of h]; exact h1
  have c5 : w.cell? ⟨q.tb, off + 5, none⟩ = some y := by rw [cell_of h]; exact h5
  have ck : w.cell? ⟨q.r, 1 + k.toNat, none⟩ = some (.int .i64 (-1)) := by rw [cell_of hr]; exact nth_neg k hk0 hk7 q false
  have c9 : w.cell? ⟨q.r, 9, none⟩ = some (.bool false) := cell_of hr 9
  have hf : ∀ o, w.frozen? ⟨q.tb, o, none⟩ = false := frozen_of h
  have H4 : Hid _ := h4
  clear h1 h4 h5
  go_enter Tryz.func51, Tryz.ntmps51
  go_wp2
  go_region
  go_wp2_with fail
  have hb1 : (((w.setCell ⟨q.tb, off + 5, none⟩ (.int .i64 (-1))).alloc (.cells #[.bool false, .bool false, .int .i64 0] 52)).drew).heap[q.tb]? = some (.cells (cs.setIfInBounds (off + 5) (.int .i64 (-1))) 90 (0, 0)) :=
    block_alloc_lt (block_set_same h _ _) _
  have hr1 : (((w.setCell ⟨q.tb, off + 5, none⟩ (.int .i64 (-1))).alloc (.cells #[.bool false, .bool false, .int .i64 0] 52)).drew).heap[w.heap.size]? = some (.cells #[.bool false, .bool false, .int .i64 0] 52 (0, 0)) := by
    have := block_alloc_new (w.setCell ⟨q.tb, off + 5, none⟩ (.int .i64 (-1))) (.cells #[.bool false, .bool false, .int .i64 0] 52)
    rw [show (w.setCell ⟨q.tb, off + 5, none⟩ (.int .i64 (-1))).heap.size = w.heap.size by simp [World.setCell]] at this
    exact this
  have k1 : Kept [q.tb] w ((w.setCell ⟨q.tb, off + 5, none⟩ (.int .i64 (-1))).alloc (.cells #[.bool false, .bool false, .int .i64 0] 52)).drew :=
    (((Kept.refl _ w).setCell (.inl (by simp)) _).alloc _).drew
  refine (rends q.tb off false 0 (cs.setIfInBounds (off + 5) (.int .i64 (-1))) _ hb1 (x := x) (by rw [Array.getElem?_setIfInBounds_ne (by omega)]; exact H4.out)).mono ?_
  rintro e w2 ⟨rfl, h2, k2⟩
  have r2 := k2.at hr1 (by simp; omega)
  have hc2 : ∀ o, w2.cell? ⟨w.heap.size, o, none⟩ = #[.bool false, .bool false, .int .i64 0][o]? := cell_of r2
  have hf2 : ∀ o, w2.frozen? ⟨w.heap.size, o, none⟩ = false := frozen_of r2
  replace k1 := k1.trans k2
  clear c1 c5 ck c9 hf hb1 hr1 k2
  go_wp2
  have hr3 := block_set_same (block_set_same (block_set_same r2 0 (.bool true)) 1 (.bool false)) 2 (.int .i64 0)
  refine bodyPost_ret (v := .agg #[.bool true, .bool false, .int .i64 0]) (by simp [results, Tryz.results51, go_sem, cell_of hr3]) rfl ⟨rfl, ?_, ?_⟩
  · exact block_set_ne (block_set_ne (block_set_ne h2 (by omega) _ _) (by omega) _ _) (by omega) _ _
  · exact ((k1.setCell (.inr (by simp)) _).setCell (.inr (by simp)) _).setCell (.inr (by simp)) _
set_option maxRecDepth 100000 in
set_option maxHeartbeats 800000 in
theorem rload (q : RM) (off : Nat) (k : Int) (cs : Array Value) (w : World) (hr : w.heap[q.r]? = some (.cells (rCells q false) 59 (0, 0))) (h : w.heap[q.tb]? = some (.cells cs 90 (0, 0)))
    (h1 : cs[off + 1]? = some (.int .i64 k)) {y : Value} (h4 : cs[off + 4]? = some (.int .i64 1)) (h5 : cs[off + 5]? = some y) (hk0 : 0 ≤ k) (hk7 : k < 8) :
    Calls Tryz.prog 35 #[.pointer (some ⟨q.r, 0, none⟩), .pointer (some ⟨q.tb, off, none⟩)] w fun e w' => e = .returned (.agg #[.bool true, .bool false, .int .i64 0]) ∧
      w'.heap[q.tb]? = some (.cells ((cs.setIfInBounds (off + 5) (.int .i64 (-1))).setIfInBounds (off + 4) (.int .i64 0)) 90 (0, 0)) ∧ Kept [q.tb] w w' := by
  have hs := lt_of_block h
  have hsr := lt_of_block hr
  have c4 : w.cell? ⟨q.tb, off + 4, none⟩ = some (.int .i64 1) := by rw [cell_of h]; exact h4
  have H1 : Hid _ := h1
  have H4 : Hid _ := h4
  have H5 : Hid _ := h5
  clear h1 h4 h5
  go_enter Tryz.func35, Tryz.ntmps35
  go_wp2_with fail
  refine (rfirst q off k cs _ (block_alloc_lt hr _) (block_alloc_lt h _) H1.out H4.out H5.out hk0 hk7).mono ?_
  rintro e w2 ⟨rfl, h2, k2⟩
  have r2 := k2.at (block_alloc_new _ _) (by simp; omega)
  have hc2 : ∀ o, w2.cell? ⟨w.heap.size, o, none⟩ = #[.bool false, .bool false, .int .i64 0][o]? := cell_of r2
  have hf2 : ∀ o, w2.frozen? ⟨w.heap.size, o, none⟩ = false := frozen_of r2
  have k1 := ((Kept.refl [q.tb] w).alloc (.cells #[.bool false, .bool false, .int .i64 0] 52)).trans k2
  clear k2 c4
  go_wp2
  have hr3 := block_set_same (block_set_same (block_set_same r2 0 (.bool true)) 1 (.bool false)) 2 (.int .i64 0)
  refine bodyPost_ret (v := .agg #[.bool true, .bool false, .int .i64 0]) (by simp [results, Tryz.results35, go_sem, cell_of hr3]) rfl ⟨rfl, ?_, ?_⟩
  · exact block_set_ne (block_set_ne (block_set_ne h2 (by omega) _ _) (by omega) _ _) (by omega) _ _
  · exact ((k1.setCell (.inr (by simp)) _).setCell (.inr (by simp)) _).setCell (.inr (by simp)) _
theorem rThread_keep {cs : Array Value} {i j a : Nat} {x : Option (Int × Int × Int)} (v : Value) (h : rThread cs j x) (hne : j ≠ i) (ha : a < 9) : rThread (cs.setIfInBounds (i * 9 + a) v) j x := by
  rcases x with _ | ⟨k, v', o⟩
  · simp only [rThread] at h ⊢
    rw [Array.getElem?_setIfInBounds_ne (by omega)]; exact h
  · simp only [rThread] at h ⊢
    rw [Array.getElem?_setIfInBounds_ne (by omega), Array.getElem?_setIfInBounds_ne (by omega), Array.getElem?_setIfInBounds_ne (by omega), Array.getElem?_setIfInBounds_ne (by omega), Array.getElem?_setIfInBounds_ne (by omega)]; exact h
set_option maxRecDepth 100000 in
set_option maxHeartbeats 800000 in
theorem rstep_load (q : RM) (i : Int) (w : World) (th : Nat → Option (Int × Int × Int)) (h : RAt q w false th) (h0 : 0 ≤ i) (hi : i < q.n) {k v o : Int} (hth : th i.toNat = some (k, v, o)) (hk0 : 0 ≤ k) (hk7 : k < 8) :
    Calls Tryz.prog 18 #[.pointer (some ⟨q.r, 0, none⟩), .int .i64 i] w fun e w' => e = .returned (.tuple #[.agg #[.bool true, .bool false, .int .i64 0], .int .i64 0]) ∧ RAt q w' false (upd th i.toNat none) ∧ Kept [q.tb] w w' := by
  have hs := lt_of_block h.r
  have hc : w.cell? ⟨q.r, 21, none⟩ = some (.bool false) := cell_of h.r 21
  have hc2 : w.cell? ⟨q.r, 22, none⟩ = some (.slice (some ⟨q.tb, 0, none⟩) q.n q.n) := cell_of h.r 22
  obtain ⟨cs, g1, g2, g3⟩ := h.tb
  have g4 := g3 i.toNat (by omega)
  rw [hth] at g4
  simp only [rThread] at g4
  obtain ⟨e0, e1, _, _, e4⟩ := g4
  have hsz : i.toNat * 9 + 8 < cs.size := by omega
  obtain ⟨y, e5⟩ : ∃ y, cs[i.toNat * 9 + 5]? = some y := ⟨_, Array.getElem?_eq_getElem (by omega)⟩
  have ht := lt_of_block g1
  have c0 : w.cell? ⟨q.tb, i.toNat * 9, none⟩ = some (.int .i64 0) := by rw [cell_of g1]; exact e0
  have c4 : w.cell? ⟨q.tb, i.toNat * 9 + 4, none⟩ = some (.int .i64 1) := by rw [cell_of g1]; exact e4
  have hrb := h.r
  have HH : Hid _ := h
  have E1 : Hid _ := e1
  have E4 : Hid _ := e4
  have E5 : Hid _ := e5
  have G3 : Hid _ := g3
  have G2 : Hid _ := g2
  clear hth g3 g2 e0 e1 e4 e5 h hsz
  go_enter Tryz.func18, Tryz.ntmps18
  go_wp2_with fail
  refine (rload q (i.toNat * 9) k cs _ (block_alloc_lt hrb _) (block_alloc_lt g1 _) E1.out E4.out E5.out hk0 hk7).mono ?_
  rintro e w2 ⟨rfl, h2, k2⟩
  have r2 := k2.at (block_alloc_new _ _) (by simp; omega)
  have b2 := k2.at (block_alloc_lt hrb _) (by simpa using ne_of_blocks hrb g1 (by simp))
  have hc3 : ∀ o, w2.cell? ⟨w.heap.size, o, none⟩ = #[.bool false, .bool false, .int .i64 0][o]? := cell_of r2
  have hf3 : ∀ o, w2.frozen? ⟨w.heap.size, o, none⟩ = false := frozen_of r2
  have k1 := ((Kept.refl [q.tb] w).alloc (.cells #[.bool false, .bool false, .int .i64 0] 52)).trans k2
  clear k2 c4 c0 hc hc2
  go_wp2
  have hr3 := block_set_same (block_set_same (block_set_same r2 0 (.bool true)) 1 (.bool false)) 2 (.int .i64 0)
  refine bodyPost_ret (v := .tuple #[.agg #[.bool true, .bool false, .int .i64 0], .int .i64 0]) (by simp [results, Tryz.results18, go_sem, cell_of hr3]) rfl ⟨rfl, ⟨HH.out.len, ?_, _, block_set_ne (block_set_ne (block_set_ne h2 (by omega) _ _) (by omega) _ _) (by omega) _ _, ?_, fun j hj => ?_⟩, ?_⟩
  · exact block_set_ne (block_set_ne (block_set_ne b2 (by omega) _ _) (by omega) _ _) (by omega) _ _
  · have := G2.out; simpa using this
  · by_cases hji : j = i.toNat
    · subst hji
      have := G2.out
      simp only [upd, if_true, rThread]
      rw [Array.getElem?_setIfInBounds_self_of_lt]
      simp; omega
    · simp only [upd, hji, if_false]
      exact rThread_keep _ (rThread_keep _ (G3.out j hj) hji (by omega)) hji (by omega)
  · exact ((k1.setCell (.inr (by simp)) _).setCell (.inr (by simp)) _).setCell (.inr (by simp)) _
end Go.Proofs.YtfgfpggjcfhccaaGreat
