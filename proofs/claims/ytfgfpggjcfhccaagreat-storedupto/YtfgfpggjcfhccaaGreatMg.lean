import Derived.Test.YtfgfpggjcfhccaaGreatMf
namespace Go.Proofs.YtfgfpggjcfhccaaGreat
open Go.RowKit
theorem RefAt.readIs {r tb : Nat} {sl : Value} {B : Nat} {m : M} {w : World} (h : RefAt r tb sl B m w) (f : Nat → Int) (hf : ∀ k, k < 8 → m.read k = f k) : RefAt r tb sl B { m with read := f } w := by
  obtain ⟨cs, a1, a2⟩ := h.own
  exact ⟨h.nth, ⟨cs, a1, ⟨a2.size, a2.c0, fun k hk => by rw [a2.rd k hk, hf k hk], a2.am, a2.hd, a2.dt, a2.mis, a2.hol, a2.cl, a2.th⟩⟩, h.ths, h.row⟩
theorem RefAt.dirtyIs {r tb : Nat} {sl : Value} {B : Nat} {m : M} {w : World} (h : RefAt r tb sl B m w) (f : Nat → Int) (hf : ∀ k, k < 8 → m.dirty k = f k) : RefAt r tb sl B { m with dirty := f } w := by
  obtain ⟨cs, a1, a2⟩ := h.own
  exact ⟨h.nth, ⟨cs, a1, ⟨a2.size, a2.c0, a2.rd, a2.am, a2.hd, fun k hk => by rw [a2.dt k hk, hf k hk], a2.mis, a2.hol, a2.cl, a2.th⟩⟩, h.ths, h.row⟩
theorem RefAt.setReads {r tb : Nat} {sl : Value} {B : Nat} {m : M} {w : World} (h : RefAt r tb sl B m w) (f : Nat → Int) : RefAt r tb sl B { m with read := f }
    ((((((((w.setCell ⟨r, 1, none⟩ (.int .i64 (f 0))).setCell ⟨r, 2, none⟩ (.int .i64 (f 1))).setCell ⟨r, 3, none⟩ (.int .i64 (f 2))).setCell ⟨r, 4, none⟩ (.int .i64 (f 3))).setCell ⟨r, 5, none⟩ (.int .i64 (f 4))).setCell ⟨r, 6, none⟩ (.int .i64 (f 5))).setCell ⟨r, 7, none⟩ (.int .i64 (f 6))).setCell ⟨r, 8, none⟩ (.int .i64 (f 7))) := by
  refine (((((((((h.setRead (k := 0) (by omega) (f 0)).setRead (k := 1) (by omega) (f 1)).setRead (k := 2) (by omega) (f 2)).setRead (k := 3) (by omega) (f 3)).setRead (k := 4) (by omega) (f 4)).setRead (k := 5) (by omega) (f 5)).setRead (k := 6) (by omega) (f 6)).setRead (k := 7) (by omega) (f 7)).readIs f ?_)
  intro k hk
  match k, hk with
  | 0, _ | 1, _ | 2, _ | 3, _ | 4, _ | 5, _ | 6, _ | 7, _ => simp [put]
theorem RefAt.setDirties {r tb : Nat} {sl : Value} {B : Nat} {m : M} {w : World} (h : RefAt r tb sl B m w) (f : Nat → Int) : RefAt r tb sl B { m with dirty := f }
    ((((((((w.setCell ⟨r, 11, none⟩ (.int .i64 (f 0))).setCell ⟨r, 12, none⟩ (.int .i64 (f 1))).setCell ⟨r, 13, none⟩ (.int .i64 (f 2))).setCell ⟨r, 14, none⟩ (.int .i64 (f 3))).setCell ⟨r, 15, none⟩ (.int .i64 (f 4))).setCell ⟨r, 16, none⟩ (.int .i64 (f 5))).setCell ⟨r, 17, none⟩ (.int .i64 (f 6))).setCell ⟨r, 18, none⟩ (.int .i64 (f 7))) := by
  refine (((((((((h.setDirty (k := 0) (by omega) (f 0)).setDirty (k := 1) (by omega) (f 1)).setDirty (k := 2) (by omega) (f 2)).setDirty (k := 3) (by omega) (f 3)).setDirty (k := 4) (by omega) (f 4)).setDirty (k := 5) (by omega) (f 5)).setDirty (k := 6) (by omega) (f 6)).setDirty (k := 7) (by omega) (f 7)).dirtyIs f ?_)
  intro k hk
  match k, hk with
  | 0, _ | 1, _ | 2, _ | 3, _ | 4, _ | 5, _ | 6, _ | 7, _ => simp [put]
theorem Kept.setReads {F : List Nat} {w0 w : World} {r : Nat} (h : Kept F w0 w) (hr : r ∈ F) (f : Nat → Int) : Kept F w0 ((((((((w.setCell ⟨r, 1, none⟩ (.int .i64 (f 0))).setCell ⟨r, 2, none⟩ (.int .i64 (f 1))).setCell ⟨r, 3, none⟩ (.int .i64 (f 2))).setCell ⟨r, 4, none⟩ (.int .i64 (f 3))).setCell ⟨r, 5, none⟩ (.int .i64 (f 4))).setCell ⟨r, 6, none⟩ (.int .i64 (f 5))).setCell ⟨r, 7, none⟩ (.int .i64 (f 6))).setCell ⟨r, 8, none⟩ (.int .i64 (f 7))) :=
  (((((((h.setCell (.inl hr) _).setCell (.inl hr) _).setCell (.inl hr) _).setCell (.inl hr) _).setCell (.inl hr) _).setCell (.inl hr) _).setCell (.inl hr) _).setCell (.inl hr) _
theorem Kept.setDirties {F : List Nat} {w0 w : World} {r : Nat} (h : Kept F w0 w) (hr : r ∈ F) (f : Nat → Int) : Kept F w0 ((((((((w.setCell ⟨r, 11, none⟩ (.int .i64 (f 0))).setCell ⟨r, 12, none⟩ (.int .i64 (f 1))).setCell ⟨r, 13, none⟩ (.int .i64 (f 2))).setCell ⟨r, 14, none⟩ (.int .i64 (f 3))).setCell ⟨r, 15, none⟩ (.int .i64 (f 4))).setCell ⟨r, 16, none⟩ (.int .i64 (f 5))).setCell ⟨r, 17, none⟩ (.int .i64 (f 6))).setCell ⟨r, 18, none⟩ (.int .i64 (f 7))) :=
  (((((((h.setCell (.inl hr) _).setCell (.inl hr) _).setCell (.inl hr) _).setCell (.inl hr) _).setCell (.inl hr) _).setCell (.inl hr) _).setCell (.inl hr) _).setCell (.inl hr) _
set_option maxRecDepth 100000 in
set_option maxHeartbeats 800000 in
theorem m_missed_a {r tb : Nat} {sl : Value} {B : Nat} {m : M} {w : World} (h : RefAt r tb sl B m w) {i : Nat} (hi : i < m.nth) (a free : Int) (h5 : 5 ≤ a) (h6 : a ≤ 6) (hat : (m.ths i).at_ = 10 * a + 1) :
    Calls Tryz.prog 54 #[.pointer (some ⟨r, 0, none⟩), .pointer (some ⟨tb, i * 9, none⟩), .int .i64 a, .int .i64 free] w fun e w' => e = .returned (res false false 0) ∧ RefAt r tb sl B ({ m with read := m.dirty, am := false }.thr i { m.ths i with at_ := 10 * a + 2 }) w' ∧ Kept [r, tb] w w' := by
  obtain ⟨hs, hf, -, -, -, -, c4, -⟩ := h.thCell hi
  obtain ⟨hsr, hfr, -, crd, c9, -, cdt, -⟩ := h.mapCell
  have d0 := cdt 0 (by omega)
  have e0 := crd 0 (by omega)
  have d1 := cdt 1 (by omega)
  have e1 := crd 1 (by omega)
  have d2 := cdt 2 (by omega)
  have e2 := crd 2 (by omega)
  have d3 := cdt 3 (by omega)
  have e3 := crd 3 (by omega)
  have d4 := cdt 4 (by omega)
  have e4 := crd 4 (by omega)
  have d5 := cdt 5 (by omega)
  have e5 := crd 5 (by omega)
  have d6 := cdt 6 (by omega)
  have e6 := crd 6 (by omega)
  have d7 := cdt 7 (by omega)
  have e7 := crd 7 (by omega)
  have hne := h.rne
  have H : Hid _ := h
  rw [hat] at c4
  clear h crd cdt hat
  go_enter Tryz.func54, Tryz.ntmps54
  go_wp2_with fail
  have h1 := ((H.out.setReads m.dirty).setAm false).alloc (.cells #[.bool false, .bool false, .int .i64 0] 52)
  have g1 := newRes0 (w := w) (w1 := (((((((((w.setCell ⟨r, 1, none⟩ (.int .i64 (m.dirty 0))).setCell ⟨r, 2, none⟩ (.int .i64 (m.dirty 1))).setCell ⟨r, 3, none⟩ (.int .i64 (m.dirty 2))).setCell ⟨r, 4, none⟩ (.int .i64 (m.dirty 3))).setCell ⟨r, 5, none⟩ (.int .i64 (m.dirty 4))).setCell ⟨r, 6, none⟩ (.int .i64 (m.dirty 5))).setCell ⟨r, 7, none⟩ (.int .i64 (m.dirty 6))).setCell ⟨r, 8, none⟩ (.int .i64 (m.dirty 7)))).setCell ⟨r, 9, none⟩ (.bool false)) (by simp only [size_set])
  have k1 := (((Kept.refl [r, tb] w).setReads (r := r) (by simp) m.dirty).setCell (p := ⟨r, 9, none⟩) (.inl (by simp)) (.bool false)).alloc (.cells #[.bool false, .bool false, .int .i64 0] 52)
  refine (m_goes h1 hi (10 * a + 2)).mono ?_
  rintro e w2 ⟨rfl, h2, k2⟩
  have r2 := k2.at g1 (by simp; omega)
  have hc2 : ∀ o, w2.cell? ⟨w.heap.size, o, none⟩ = #[.bool false, .bool false, .int .i64 0][o]? := cell_of r2
  have hf2 : ∀ o, w2.frozen? ⟨w.heap.size, o, none⟩ = false := frozen_of r2
  have K1 : Hid _ := k1.trans (k2.mono (by simp))
  have H2 : Hid _ := h2
  clear h1 k1 g1 k2 h2
  simp only [res]
  go_wp2
  refine bodyPost_ret (v := res false false 0) (by simp [results, Tryz.results54, go_sem, res, cell_of (resLaid r2 false false 0)]) rfl ⟨rfl, ?_, ?_⟩
  · have h3 := H2.out.resLaid r2 false false 0
    exact h3
  · exact ((K1.out.setCell (.inr (by simp)) _).setCell (.inr (by simp)) _).setCell (.inr (by simp)) _
set_option maxRecDepth 100000 in
set_option maxHeartbeats 800000 in
theorem m_missed_c {r tb : Nat} {sl : Value} {B : Nat} {m : M} {w : World} (h : RefAt r tb sl B m w) {i : Nat} (hi : i < m.nth) (a free : Int) (h5 : 5 ≤ a) (h6 : a ≤ 6) (hat : (m.ths i).at_ = 10 * a + 3) :
    Calls Tryz.prog 54 #[.pointer (some ⟨r, 0, none⟩), .pointer (some ⟨tb, i * 9, none⟩), .int .i64 a, .int .i64 free] w fun e w' => e = .returned (res false false 0) ∧ RefAt r tb sl B ({ m with mis := 0 }.thr i { m.ths i with at_ := free }) w' ∧ Kept [r, tb] w w' := by
  obtain ⟨hs, hf, -, -, -, -, c4, -⟩ := h.thCell hi
  obtain ⟨hsr, hfr, -, -, -, -, -, c19, -⟩ := h.mapCell
  have hne := h.rne
  have H : Hid _ := h
  rw [hat] at c4
  clear h hat
  go_enter Tryz.func54, Tryz.ntmps54
  go_wp2_with fail
  have h1 := (H.out.setMis 0).alloc (.cells #[.bool false, .bool false, .int .i64 0] 52)
  have g1 := newRes0 (w := w) (size_set w ⟨r, 19, none⟩ (.int .i64 0))
  have k1 := ((Kept.refl [r, tb] w).setCell (p := ⟨r, 19, none⟩) (.inl (by simp)) (.int .i64 0)).alloc (.cells #[.bool false, .bool false, .int .i64 0] 52)
  refine (m_goes h1 hi free).mono ?_
  rintro e w2 ⟨rfl, h2, k2⟩
  have r2 := k2.at g1 (by simp; omega)
  have hc2 : ∀ o, w2.cell? ⟨w.heap.size, o, none⟩ = #[.bool false, .bool false, .int .i64 0][o]? := cell_of r2
  have hf2 : ∀ o, w2.frozen? ⟨w.heap.size, o, none⟩ = false := frozen_of r2
  have K1 : Hid _ := k1.trans (k2.mono (by simp))
  have H2 : Hid _ := h2
  clear h1 k1 g1 k2 h2
  simp only [res]
  go_wp2
  refine bodyPost_ret (v := res false false 0) (by simp [results, Tryz.results54, go_sem, res, cell_of (resLaid r2 false false 0)]) rfl ⟨rfl, ?_, ?_⟩
  · have h3 := H2.out.resLaid r2 false false 0
    exact h3
  · exact ((K1.out.setCell (.inr (by simp)) _).setCell (.inr (by simp)) _).setCell (.inr (by simp)) _
end Go.Proofs.YtfgfpggjcfhccaaGreat
