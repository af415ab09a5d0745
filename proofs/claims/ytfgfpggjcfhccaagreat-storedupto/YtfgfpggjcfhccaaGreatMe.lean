import Derived.Test.YtfgfpggjcfhccaaGreatMd
namespace Go.Proofs.YtfgfpggjcfhccaaGreat
open Go.RowKit
set_option maxRecDepth 100000 in
set_option maxHeartbeats 800000 in
theorem m_frees_end {r tb : Nat} {sl : Value} {B : Nat} {m : M} {w : World} (h : RefAt r tb sl B m w) {i : Nat} (hi : i < m.nth) (entry : Int) (he : (m.ths i).e < 0) :
    Calls Tryz.prog 55 #[.pointer (some ⟨r, 0, none⟩), .pointer (some ⟨tb, i * 9, none⟩), .int .i64 entry] w fun e w' => e = .returned (res true false 0) ∧ RefAt r tb sl B ({ m with hol := -1 }.thr i { m.ths i with at_ := 0 }) w' ∧ Kept [r, tb] w w' := by
  obtain ⟨hs, hf, -, -, -, -, -, c5, -⟩ := h.thCell hi
  obtain ⟨hsr, hfr, -, -, -, -, -, -, c20, -⟩ := h.mapCell
  have hne := h.rne
  have H : Hid _ := h
  clear h
  generalize (m.ths i).e = x at c5 he
  go_enter Tryz.func55, Tryz.ntmps55
  go_wp2_with fail
  have h1 := (H.out.setHol (-1)).alloc (.cells #[.bool false, .bool false, .int .i64 0] 52)
  have g1 := newRes0 (w := w) (size_set w ⟨r, 20, none⟩ (.int .i64 (-1)))
  have k1 := ((Kept.refl [r, tb] w).setCell (p := ⟨r, 20, none⟩) (.inl (by simp)) (.int .i64 (-1))).alloc (.cells #[.bool false, .bool false, .int .i64 0] 52)
  refine (m_ends h1 hi false 0).mono ?_
  rintro e w2 ⟨rfl, h2, k2⟩
  have r2 := k2.at g1 (by simp; omega)
  have hc2 : ∀ o, w2.cell? ⟨w.heap.size, o, none⟩ = #[.bool false, .bool false, .int .i64 0][o]? := cell_of r2
  have hf2 : ∀ o, w2.frozen? ⟨w.heap.size, o, none⟩ = false := frozen_of r2
  have K1 : Hid _ := k1.trans (k2.mono (by simp))
  have H2 : Hid _ := h2
  clear h1 k1 g1 k2 h2
  simp only [res]
  go_wp2
  refine bodyPost_ret (v := res true false 0) (by simp [results, Tryz.results55, go_sem, res, cell_of (resLaid r2 true false 0)]) rfl ⟨rfl, ?_, ?_⟩
  · have h3 := H2.out.resLaid r2 true false 0
    exact h3
  · exact ((K1.out.setCell (.inr (by simp)) _).setCell (.inr (by simp)) _).setCell (.inr (by simp)) _
set_option maxRecDepth 100000 in
set_option maxHeartbeats 800000 in
theorem m_frees_on {r tb : Nat} {sl : Value} {B : Nat} {m : M} {w : World} (h : RefAt r tb sl B m w) {i : Nat} (hi : i < m.nth) (entry : Int) (he : 0 ≤ (m.ths i).e) :
    Calls Tryz.prog 55 #[.pointer (some ⟨r, 0, none⟩), .pointer (some ⟨tb, i * 9, none⟩), .int .i64 entry] w fun e w' => e = .returned (res false false 0) ∧ RefAt r tb sl B ({ m with hol := -1 }.thr i { m.ths i with at_ := entry }) w' ∧ Kept [r, tb] w w' := by
  obtain ⟨hs, hf, -, -, -, -, -, c5, -⟩ := h.thCell hi
  obtain ⟨hsr, hfr, -, -, -, -, -, -, c20, -⟩ := h.mapCell
  have hne := h.rne
  have H : Hid _ := h
  clear h
  generalize (m.ths i).e = x at c5 he
  go_enter Tryz.func55, Tryz.ntmps55
  go_wp2_with fail
  have h1 := (H.out.setHol (-1)).alloc (.cells #[.bool false, .bool false, .int .i64 0] 52)
  have g1 := newRes0 (w := w) (size_set w ⟨r, 20, none⟩ (.int .i64 (-1)))
  have k1 := ((Kept.refl [r, tb] w).setCell (p := ⟨r, 20, none⟩) (.inl (by simp)) (.int .i64 (-1))).alloc (.cells #[.bool false, .bool false, .int .i64 0] 52)
  refine (m_goes h1 hi entry).mono ?_
  rintro e w2 ⟨rfl, h2, k2⟩
  have r2 := k2.at g1 (by simp; omega)
  have hc2 : ∀ o, w2.cell? ⟨w.heap.size, o, none⟩ = #[.bool false, .bool false, .int .i64 0][o]? := cell_of r2
  have hf2 : ∀ o, w2.frozen? ⟨w.heap.size, o, none⟩ = false := frozen_of r2
  have K1 : Hid _ := k1.trans (k2.mono (by simp))
  have H2 : Hid _ := h2
  clear h1 k1 g1 k2 h2
  simp only [res]
  go_wp2
  refine bodyPost_ret (v := res false false 0) (by simp [results, Tryz.results55, go_sem, res, cell_of (resLaid r2 false false 0)]) rfl ⟨rfl, ?_, ?_⟩
  · have h3 := H2.out.resLaid r2 false false 0
    exact h3
  · exact ((K1.out.setCell (.inr (by simp)) _).setCell (.inr (by simp)) _).setCell (.inr (by simp)) _
end Go.Proofs.YtfgfpggjcfhccaaGreat
