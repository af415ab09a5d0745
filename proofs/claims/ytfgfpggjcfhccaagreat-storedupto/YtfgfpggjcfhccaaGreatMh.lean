import Derived.Test.YtfgfpggjcfhccaaGreatMg
import Derived.Deep.RegionHeld3
namespace Go.Proofs.YtfgfpggjcfhccaaGreat
open Go.RowKit
set_option maxRecDepth 100000 in
set_option maxHeartbeats 800000 in
theorem m_none (w : World) : Calls Tryz.prog 24 #[] w fun e w' => e = .returned (.agg #[.int .i64 (-1), .int .i64 (-1), .int .i64 (-1), .int .i64 (-1), .int .i64 (-1), .int .i64 (-1), .int .i64 (-1), .int .i64 (-1)]) ∧ w' = w.alloc (.cells #[.int .i64 (-1), .int .i64 (-1), .int .i64 (-1), .int .i64 (-1), .int .i64 (-1), .int .i64 (-1), .int .i64 (-1), .int .i64 (-1)] 56) := by
  go_enter Tryz.func24, Tryz.ntmps24
  go_wp2
  exact bodyPost_ret (v := .agg #[.int .i64 (-1), .int .i64 (-1), .int .i64 (-1), .int .i64 (-1), .int .i64 (-1), .int .i64 (-1), .int .i64 (-1), .int .i64 (-1)]) (by simp [results, Tryz.results24, go_sem]) rfl ⟨rfl, rfl⟩
set_option maxRecDepth 100000 in
set_option maxHeartbeats 800000 in
theorem m_missed_b {r tb : Nat} {sl : Value} {B : Nat} {m : M} {w : World} (h : RefAt r tb sl B m w) {i : Nat} (hi : i < m.nth) (a free : Int) (h5 : 5 ≤ a) (h6 : a ≤ 6) (hat : (m.ths i).at_ = 10 * a + 2) :
    Calls Tryz.prog 54 #[.pointer (some ⟨r, 0, none⟩), .pointer (some ⟨tb, i * 9, none⟩), .int .i64 a, .int .i64 free] w fun e w' => e = .returned (res false false 0) ∧ RefAt r tb sl B ({ m with hd := false, dirty := fun _ => -1 }.thr i { m.ths i with at_ := 10 * a + 3 }) w' ∧ Kept [r, tb] w w' := by
  obtain ⟨hs, hf, -, -, -, -, c4, -⟩ := h.thCell hi
  obtain ⟨hsr, hfr, -, -, -, c10, cdt, -⟩ := h.mapCell
  have d0 := cdt 0 (by omega)
  have d1 := cdt 1 (by omega)
  have d2 := cdt 2 (by omega)
  have d3 := cdt 3 (by omega)
  have d4 := cdt 4 (by omega)
  have d5 := cdt 5 (by omega)
  have d6 := cdt 6 (by omega)
  have d7 := cdt 7 (by omega)
  have hne := h.rne
  have H : Hid _ := h
  rw [hat] at c4
  clear h cdt hat
  go_enter Tryz.func54, Tryz.ntmps54
  go_wp2_with fail
  refine (m_none _).mono ?_
  rintro e w1 ⟨rfl, rfl⟩
  go_wp2_with fail
  have h1 := (((H.out.setHd false).setDirties (fun _ => -1)).alloc (.cells #[.bool false, .bool false, .int .i64 0] 52)).alloc (.cells #[.int .i64 (-1), .int .i64 (-1), .int .i64 (-1), .int .i64 (-1), .int .i64 (-1), .int .i64 (-1), .int .i64 (-1), .int .i64 (-1)] 56)
  have g1 := block_alloc_lt (newRes0 (w := w) (w1 := ((((((((((w.setCell ⟨r, 10, none⟩ (.bool false)).setCell ⟨r, 11, none⟩ (.int .i64 (-1))).setCell ⟨r, 12, none⟩ (.int .i64 (-1))).setCell ⟨r, 13, none⟩ (.int .i64 (-1))).setCell ⟨r, 14, none⟩ (.int .i64 (-1))).setCell ⟨r, 15, none⟩ (.int .i64 (-1))).setCell ⟨r, 16, none⟩ (.int .i64 (-1))).setCell ⟨r, 17, none⟩ (.int .i64 (-1))).setCell ⟨r, 18, none⟩ (.int .i64 (-1))))) (by simp only [size_set])) (.cells #[.int .i64 (-1), .int .i64 (-1), .int .i64 (-1), .int .i64 (-1), .int .i64 (-1), .int .i64 (-1), .int .i64 (-1), .int .i64 (-1)] 56)
  have k1 := ((((Kept.refl [r, tb] w).setCell (p := ⟨r, 10, none⟩) (.inl (by simp)) (.bool false)).setDirties (r := r) (by simp) (fun _ => -1)).alloc (.cells #[.bool false, .bool false, .int .i64 0] 52)).alloc (.cells #[.int .i64 (-1), .int .i64 (-1), .int .i64 (-1), .int .i64 (-1), .int .i64 (-1), .int .i64 (-1), .int .i64 (-1), .int .i64 (-1)] 56)
  refine (m_goes h1 hi (10 * a + 3)).mono ?_
  rintro e w2 ⟨rfl, h2, k2⟩
  have r2 := k2.at g1 (by simp; omega)
  have hc2 : ∀ o, w2.cell? ⟨w.heap.size, o, none⟩ = #[.bool false, .bool false, .int .i64 0][o]? := cell_of r2
  have hf2 : ∀ o, w2.frozen? ⟨w.heap.size, o, none⟩ = false := frozen_of r2
  have K1 : Hid _ := k1.trans (k2.mono (by simp))
  have H2 : Hid _ := h2
  clear h1 k1 g1 k2 h2
  simp only [res]
  go_wp2
  refine bodyPost_ret (v := res false false 0) (by simp [results, Tryz.results54, go_sem, res, cell_of (resLaid r2 false false 0)]) rfl ⟨rfl, ?_, ?_⟩
  · have h3 := H2.out.resLaid r2 false false 0
    exact h3
  · exact ((K1.out.setCell (.inr (by simp)) _).setCell (.inr (by simp)) _).setCell (.inr (by simp)) _
set_option maxRecDepth 100000 in
set_option maxHeartbeats 800000 in
theorem m_missed_few {r tb : Nat} {sl : Value} {B : Nat} {m : M} {w : World} (h : RefAt r tb sl B m w) {i : Nat} (hi : i < m.nth) (a free : Int) (h5 : 5 ≤ a) (h6 : a ≤ 6) (hat : (m.ths i).at_ = a) (hm0 : 0 ≤ m.mis) (hm1 : m.mis < 1000000) (hc : m.mis + 1 < cnt m.dirty 8) :
    Calls Tryz.prog 54 #[.pointer (some ⟨r, 0, none⟩), .pointer (some ⟨tb, i * 9, none⟩), .int .i64 a, .int .i64 free] w fun e w' => e = .returned (res false false 0) ∧ RefAt r tb sl B ({ m with mis := m.mis + 1 }.thr i { m.ths i with at_ := free }) w' ∧ Kept [r, tb] w w' := by
  obtain ⟨hs, hf, -, -, -, -, c4, -⟩ := h.thCell hi
  obtain ⟨hsr, hfr, -, -, -, -, -, c19, -⟩ := h.mapCell
  have hne := h.rne
  have H : Hid _ := h
  have hn0 : ¬ a - 10 * a = 1 := by omega
  have hn1 : ¬ a - 10 * a = 2 := by omega
  have hn2 : ¬ a - 10 * a = 3 := by omega
  rw [hat] at c4
  clear h hat
  go_enter Tryz.func54, Tryz.ntmps54
  go_wp2_with fail
  have h1 := (H.out.setMis (m.mis + 1)).alloc (.cells #[.bool false, .bool false, .int .i64 0] 52)
  have g1 := newRes0 (w := w) (size_set w ⟨r, 19, none⟩ (.int .i64 (m.mis + 1)))
  have k1 := ((Kept.refl [r, tb] w).setCell (p := ⟨r, 19, none⟩) (.inl (by simp)) (.int .i64 (m.mis + 1))).alloc (.cells #[.bool false, .bool false, .int .i64 0] 52)
  clear c4 c19 hf hfr H
  generalize (w.setCell ⟨r, 19, none⟩ (.int .i64 (m.mis + 1))).alloc (.cells #[.bool false, .bool false, .int .i64 0] 52) = W0 at *
  obtain ⟨hsr0, -, -, -, -, -, cdt, c19, -⟩ := h1.mapCell
  have d0 : W0.cell? ⟨r, 11, none⟩ = some (.int .i64 (m.dirty 0)) := cdt 0 (by omega)
  have d1 : W0.cell? ⟨r, 12, none⟩ = some (.int .i64 (m.dirty 1)) := cdt 1 (by omega)
  have d2 : W0.cell? ⟨r, 13, none⟩ = some (.int .i64 (m.dirty 2)) := cdt 2 (by omega)
  have d3 : W0.cell? ⟨r, 14, none⟩ = some (.int .i64 (m.dirty 3)) := cdt 3 (by omega)
  have d4 : W0.cell? ⟨r, 15, none⟩ = some (.int .i64 (m.dirty 4)) := cdt 4 (by omega)
  have d5 : W0.cell? ⟨r, 16, none⟩ = some (.int .i64 (m.dirty 5)) := cdt 5 (by omega)
  have d6 : W0.cell? ⟨r, 17, none⟩ = some (.int .i64 (m.dirty 6)) := cdt 6 (by omega)
  have d7 : W0.cell? ⟨r, 18, none⟩ = some (.int .i64 (m.dirty 7)) := cdt 7 (by omega)
  have H1 : Hid _ := h1
  have G1 : Hid _ := g1
  have K1 : Hid _ := k1
  clear h1 g1 k1 cdt
  go_region_held3 (fun w' => w'.cell? ⟨r, 11, none⟩ = some (.int .i64 (m.dirty 0)) ∧ w'.cell? ⟨r, 12, none⟩ = some (.int .i64 (m.dirty 1)) ∧ w'.cell? ⟨r, 13, none⟩ = some (.int .i64 (m.dirty 2)) ∧ w'.cell? ⟨r, 14, none⟩ = some (.int .i64 (m.dirty 3)) ∧ w'.cell? ⟨r, 15, none⟩ = some (.int .i64 (m.dirty 4)) ∧ w'.cell? ⟨r, 16, none⟩ = some (.int .i64 (m.dirty 5)) ∧ w'.cell? ⟨r, 17, none⟩ = some (.int .i64 (m.dirty 6)) ∧ w'.cell? ⟨r, 18, none⟩ = some (.int .i64 (m.dirty 7)) ∧ w'.cell? ⟨r, 19, none⟩ = some (.int .i64 (m.mis + 1)))
    (first | exact ⟨g0, g1, g2, g3, g4, g5, g6, g7, g8⟩ | exact ⟨d0, d1, d2, d3, d4, d5, d6, d7, c19⟩)
    (first | (go_at_call 71; refine (m_keys m.dirty _).mono ?_; rintro e w1 ⟨rfl, kk⟩; have hh := (H1.out.drew.keptNil kk); have gg := (by have hq := kk.at (by exact G1.out) (by simp); exact hq : w1.heap[w.heap.size]? = some (.cells #[.bool false, .bool false, .int .i64 0] 52 (0, 0))); have ⟨_, _, _, _, _, _, gdt, g8, _⟩ := hh.mapCell; have g0 := gdt 0 (by omega); have g1 := gdt 1 (by omega); have g2 := gdt 2 (by omega); have g3 := gdt 3 (by omega); have g4 := gdt 4 (by omega); have g5 := gdt 5 (by omega); have g6 := gdt 6 (by omega); have g7 := gdt 7 (by omega)))
  have kt : Kept [r, tb] w w1 := K1.out.trans ((Kept.refl _ W0).drew.trans (kk.mono (by simp)))
  clear g0 g1 g2 g3 g4 g5 g6 g7 g8 gdt d0 d1 d2 d3 d4 d5 d6 d7 c19 kk
  go_wp2_with fail
  have h1 := hh
  have g1 := gg
  have k1 := kt
  refine (m_goes h1 hi free).mono ?_
  rintro e w2 ⟨rfl, h2, k2⟩
  have r2 := k2.at g1 (by simp; omega)
  have hc2 : ∀ o, w2.cell? ⟨w.heap.size, o, none⟩ = #[.bool false, .bool false, .int .i64 0][o]? := cell_of r2
  have hf2 : ∀ o, w2.frozen? ⟨w.heap.size, o, none⟩ = false := frozen_of r2
  have K1 : Hid _ := k1.trans (k2.mono (by simp))
  have H2 : Hid _ := h2
  clear h1 k1 g1 k2 h2 hh gg kt
  simp only [res]
  go_wp2
  refine bodyPost_ret (v := res false false 0) (by simp [results, Tryz.results54, go_sem, res, cell_of (resLaid r2 false false 0)]) rfl ⟨rfl, ?_, ?_⟩
  · have h3 := H2.out.resLaid r2 false false 0
    exact h3
  · exact ((K1.out.setCell (.inr (by simp)) _).setCell (.inr (by simp)) _).setCell (.inr (by simp)) _
set_option maxRecDepth 100000 in
set_option maxHeartbeats 800000 in
theorem m_missed_all {r tb : Nat} {sl : Value} {B : Nat} {m : M} {w : World} (h : RefAt r tb sl B m w) {i : Nat} (hi : i < m.nth) (a free : Int) (h5 : 5 ≤ a) (h6 : a ≤ 6) (hat : (m.ths i).at_ = a) (hm0 : 0 ≤ m.mis) (hm1 : m.mis < 1000000) (hc : ¬ m.mis + 1 < cnt m.dirty 8) :
    Calls Tryz.prog 54 #[.pointer (some ⟨r, 0, none⟩), .pointer (some ⟨tb, i * 9, none⟩), .int .i64 a, .int .i64 free] w fun e w' => e = .returned (res false false 0) ∧ RefAt r tb sl B ({ m with mis := m.mis + 1 }.thr i { m.ths i with at_ := 10 * a + 1 }) w' ∧ Kept [r, tb] w w' := by
  obtain ⟨hs, hf, -, -, -, -, c4, -⟩ := h.thCell hi
  obtain ⟨hsr, hfr, -, -, -, -, -, c19, -⟩ := h.mapCell
  have hne := h.rne
  have H : Hid _ := h
  have hn0 : ¬ a - 10 * a = 1 := by omega
  have hn1 : ¬ a - 10 * a = 2 := by omega
  have hn2 : ¬ a - 10 * a = 3 := by omega
  rw [hat] at c4
  clear h hat
  go_enter Tryz.func54, Tryz.ntmps54
  go_wp2_with fail
  have h1 := (H.out.setMis (m.mis + 1)).alloc (.cells #[.bool false, .bool false, .int .i64 0] 52)
  have g1 := newRes0 (w := w) (size_set w ⟨r, 19, none⟩ (.int .i64 (m.mis + 1)))
  have k1 := ((Kept.refl [r, tb] w).setCell (p := ⟨r, 19, none⟩) (.inl (by simp)) (.int .i64 (m.mis + 1))).alloc (.cells #[.bool false, .bool false, .int .i64 0] 52)
  clear c4 c19 hf hfr H
  generalize (w.setCell ⟨r, 19, none⟩ (.int .i64 (m.mis + 1))).alloc (.cells #[.bool false, .bool false, .int .i64 0] 52) = W0 at *
  obtain ⟨hsr0, -, -, -, -, -, cdt, c19, -⟩ := h1.mapCell
  have d0 : W0.cell? ⟨r, 11, none⟩ = some (.int .i64 (m.dirty 0)) := cdt 0 (by omega)
  have d1 : W0.cell? ⟨r, 12, none⟩ = some (.int .i64 (m.dirty 1)) := cdt 1 (by omega)
  have d2 : W0.cell? ⟨r, 13, none⟩ = some (.int .i64 (m.dirty 2)) := cdt 2 (by omega)
  have d3 : W0.cell? ⟨r, 14, none⟩ = some (.int .i64 (m.dirty 3)) := cdt 3 (by omega)
  have d4 : W0.cell? ⟨r, 15, none⟩ = some (.int .i64 (m.dirty 4)) := cdt 4 (by omega)
  have d5 : W0.cell? ⟨r, 16, none⟩ = some (.int .i64 (m.dirty 5)) := cdt 5 (by omega)
  have d6 : W0.cell? ⟨r, 17, none⟩ = some (.int .i64 (m.dirty 6)) := cdt 6 (by omega)
  have d7 : W0.cell? ⟨r, 18, none⟩ = some (.int .i64 (m.dirty 7)) := cdt 7 (by omega)
  have H1 : Hid _ := h1
  have G1 : Hid _ := g1
  have K1 : Hid _ := k1
  clear h1 g1 k1 cdt
  go_region_held3 (fun w' => w'.cell? ⟨r, 11, none⟩ = some (.int .i64 (m.dirty 0)) ∧ w'.cell? ⟨r, 12, none⟩ = some (.int .i64 (m.dirty 1)) ∧ w'.cell? ⟨r, 13, none⟩ = some (.int .i64 (m.dirty 2)) ∧ w'.cell? ⟨r, 14, none⟩ = some (.int .i64 (m.dirty 3)) ∧ w'.cell? ⟨r, 15, none⟩ = some (.int .i64 (m.dirty 4)) ∧ w'.cell? ⟨r, 16, none⟩ = some (.int .i64 (m.dirty 5)) ∧ w'.cell? ⟨r, 17, none⟩ = some (.int .i64 (m.dirty 6)) ∧ w'.cell? ⟨r, 18, none⟩ = some (.int .i64 (m.dirty 7)) ∧ w'.cell? ⟨r, 19, none⟩ = some (.int .i64 (m.mis + 1)))
    (first | exact ⟨g0, g1, g2, g3, g4, g5, g6, g7, g8⟩ | exact ⟨d0, d1, d2, d3, d4, d5, d6, d7, c19⟩)
    (first | (go_at_call 71; refine (m_keys m.dirty _).mono ?_; rintro e w1 ⟨rfl, kk⟩; have hh := (H1.out.drew.keptNil kk); have gg := (by have hq := kk.at (by exact G1.out) (by simp); exact hq : w1.heap[w.heap.size]? = some (.cells #[.bool false, .bool false, .int .i64 0] 52 (0, 0))); have ⟨_, _, _, _, _, _, gdt, g8, _⟩ := hh.mapCell; have g0 := gdt 0 (by omega); have g1 := gdt 1 (by omega); have g2 := gdt 2 (by omega); have g3 := gdt 3 (by omega); have g4 := gdt 4 (by omega); have g5 := gdt 5 (by omega); have g6 := gdt 6 (by omega); have g7 := gdt 7 (by omega)))
  have kt : Kept [r, tb] w w1 := K1.out.trans ((Kept.refl _ W0).drew.trans (kk.mono (by simp)))
  clear g0 g1 g2 g3 g4 g5 g6 g7 g8 gdt d0 d1 d2 d3 d4 d5 d6 d7 c19 kk
  go_wp2_with fail
  have h1 := hh
  have g1 := gg
  have k1 := kt
  refine (m_goes h1 hi (10 * a + 1)).mono ?_
  rintro e w2 ⟨rfl, h2, k2⟩
  have r2 := k2.at g1 (by simp; omega)
  have hc2 : ∀ o, w2.cell? ⟨w.heap.size, o, none⟩ = #[.bool false, .bool false, .int .i64 0][o]? := cell_of r2
  have hf2 : ∀ o, w2.frozen? ⟨w.heap.size, o, none⟩ = false := frozen_of r2
  have K1 : Hid _ := k1.trans (k2.mono (by simp))
  have H2 : Hid _ := h2
  clear h1 k1 g1 k2 h2 hh gg kt
  simp only [res]
  go_wp2
  refine bodyPost_ret (v := res false false 0) (by simp [results, Tryz.results54, go_sem, res, cell_of (resLaid r2 false false 0)]) rfl ⟨rfl, ?_, ?_⟩
  · have h3 := H2.out.resLaid r2 false false 0
    exact h3
  · exact ((K1.out.setCell (.inr (by simp)) _).setCell (.inr (by simp)) _).setCell (.inr (by simp)) _
end Go.Proofs.YtfgfpggjcfhccaaGreat
