import Derived.Test.YtfgfpggjcfhccaaGreatMc
namespace Go.Proofs.YtfgfpggjcfhccaaGreat
open Go.RowKit
set_option maxRecDepth 100000 in
set_option maxHeartbeats 800000 in
theorem m_third_in {r tb : Nat} {sl : Value} {B : Nat} {m : M} {w : World} (h : RefAt r tb sl B m w) {i : Nat} (hi : i < m.nth) {k : Int} (hk0 : 0 ≤ k) (hk7 : k < 8) (hkey : (m.ths i).key = k) (free : Int) (he : 0 ≤ m.read k.toNat) :
    Calls Tryz.prog 52 #[.pointer (some ⟨r, 0, none⟩), .pointer (some ⟨tb, i * 9, none⟩), .int .i64 free] w fun e w' => e = .returned (res false false 0) ∧ RefAt r tb sl B (m.thr i { m.ths i with e := m.read k.toNat, at_ := free }) w' ∧ Kept [tb] w w' := by
  obtain ⟨hs, hf, -, c1, -, -, -, c5, -⟩ := h.thCell hi
  obtain ⟨hsr, -, -, crd, c9, -⟩ := h.mapCell
  have ck := crd k.toNat (by omega)
  rw [hkey] at c1
  have hne := h.rne
  have H : Hid _ := h
  clear h crd hkey
  generalize hx : m.read k.toNat = x at *
  go_enter Tryz.func52, Tryz.ntmps52
  go_wp2
  go_region
  go_wp2_with fail
  have h1 := ((H.out.putE hi x).alloc (.cells #[.bool false, .bool false, .int .i64 0] 52)).drew
  have g1 := newRes (w := w) (size_set w ⟨tb, i * 9 + 5, none⟩ (.int .i64 x))
  have k1 := (((Kept.refl [tb] w).setCell (p := ⟨tb, i * 9 + 5, none⟩) (.inl (by simp)) (.int .i64 x)).alloc (.cells #[.bool false, .bool false, .int .i64 0] 52)).drew
  refine (m_goes h1 hi free).mono ?_
  rintro e w2 ⟨rfl, h2, k2⟩
  have r2 := k2.at g1 (by simp; omega)
  have hc2 : ∀ o, w2.cell? ⟨w.heap.size, o, none⟩ = #[.bool false, .bool false, .int .i64 0][o]? := cell_of r2
  have hf2 : ∀ o, w2.frozen? ⟨w.heap.size, o, none⟩ = false := frozen_of r2
  have K1 : Hid _ := k1.trans (k2.mono (by simp))
  have H2 : Hid _ := h2
  clear h1 k1 g1 k2 h2
  simp only [res]
  go_wp2
  refine bodyPost_ret (v := res false false 0) (by simp [results, Tryz.results52, go_sem, res, cell_of (resLaid r2 false false 0)]) rfl ⟨rfl, ?_, ?_⟩
  · have h3 := H2.out.resLaid r2 false false 0
    rw [show ∀ (m : M) (i : Nat) (t : Thr), ({ m with ths := put m.ths i t } : M) = m.thr i t from fun _ _ _ => rfl, thr_thr] at h3
    simp only [put_same] at h3
    exact h3
  · exact ((K1.out.setCell (.inr (by simp)) _).setCell (.inr (by simp)) _).setCell (.inr (by simp)) _
set_option maxRecDepth 100000 in
set_option maxHeartbeats 800000 in
theorem m_third_out {r tb : Nat} {sl : Value} {B : Nat} {m : M} {w : World} (h : RefAt r tb sl B m w) {i : Nat} (hi : i < m.nth) {k : Int} (hk0 : 0 ≤ k) (hk7 : k < 8) (hkey : (m.ths i).key = k) (free : Int) (he : m.read k.toNat < 0) (ha : m.am = false) :
    Calls Tryz.prog 52 #[.pointer (some ⟨r, 0, none⟩), .pointer (some ⟨tb, i * 9, none⟩), .int .i64 free] w fun e w' => e = .returned (res false false 0) ∧ RefAt r tb sl B (m.thr i { m.ths i with e := m.read k.toNat, at_ := free }) w' ∧ Kept [tb] w w' := by
  obtain ⟨hs, hf, -, c1, -, -, -, c5, -⟩ := h.thCell hi
  obtain ⟨hsr, -, -, crd, c9, -⟩ := h.mapCell
  have ck := crd k.toNat (by omega)
  rw [hkey] at c1
  have hne := h.rne
  have H : Hid _ := h
  clear h crd hkey
  generalize hx : m.read k.toNat = x at *
  rw [ha] at c9
  go_enter Tryz.func52, Tryz.ntmps52
  go_wp2
  go_region
  go_wp2_with fail
  have h1 := ((H.out.putE hi x).alloc (.cells #[.bool false, .bool false, .int .i64 0] 52)).drew
  have g1 := newRes (w := w) (size_set w ⟨tb, i * 9 + 5, none⟩ (.int .i64 x))
  have k1 := (((Kept.refl [tb] w).setCell (p := ⟨tb, i * 9 + 5, none⟩) (.inl (by simp)) (.int .i64 x)).alloc (.cells #[.bool false, .bool false, .int .i64 0] 52)).drew
  refine (m_goes h1 hi free).mono ?_
  rintro e w2 ⟨rfl, h2, k2⟩
  have r2 := k2.at g1 (by simp; omega)
  have hc2 : ∀ o, w2.cell? ⟨w.heap.size, o, none⟩ = #[.bool false, .bool false, .int .i64 0][o]? := cell_of r2
  have hf2 : ∀ o, w2.frozen? ⟨w.heap.size, o, none⟩ = false := frozen_of r2
  have K1 : Hid _ := k1.trans (k2.mono (by simp))
  have H2 : Hid _ := h2
  clear h1 k1 g1 k2 h2
  simp only [res]
  go_wp2
  refine bodyPost_ret (v := res false false 0) (by simp [results, Tryz.results52, go_sem, res, cell_of (resLaid r2 false false 0)]) rfl ⟨rfl, ?_, ?_⟩
  · have h3 := H2.out.resLaid r2 false false 0
    rw [show ∀ (m : M) (i : Nat) (t : Thr), ({ m with ths := put m.ths i t } : M) = m.thr i t from fun _ _ _ => rfl, thr_thr] at h3
    simp only [put_same] at h3
    exact h3
  · exact ((K1.out.setCell (.inr (by simp)) _).setCell (.inr (by simp)) _).setCell (.inr (by simp)) _
set_option maxRecDepth 100000 in
set_option maxHeartbeats 800000 in
theorem m_third_on {r tb : Nat} {sl : Value} {B : Nat} {m : M} {w : World} (h : RefAt r tb sl B m w) {i : Nat} (hi : i < m.nth) {k : Int} (hk0 : 0 ≤ k) (hk7 : k < 8) (hkey : (m.ths i).key = k) (free : Int) (he : m.read k.toNat < 0) (ha : m.am = true) :
    Calls Tryz.prog 52 #[.pointer (some ⟨r, 0, none⟩), .pointer (some ⟨tb, i * 9, none⟩), .int .i64 free] w fun e w' => e = .returned (res false false 0) ∧ RefAt r tb sl B (m.thr i { m.ths i with e := m.read k.toNat, at_ := 4 }) w' ∧ Kept [tb] w w' := by
  obtain ⟨hs, hf, -, c1, -, -, -, c5, -⟩ := h.thCell hi
  obtain ⟨hsr, -, -, crd, c9, -⟩ := h.mapCell
  have ck := crd k.toNat (by omega)
  rw [hkey] at c1
  have hne := h.rne
  have H : Hid _ := h
  clear h crd hkey
  generalize hx : m.read k.toNat = x at *
  rw [ha] at c9
  go_enter Tryz.func52, Tryz.ntmps52
  go_wp2
  go_region
  go_wp2_with fail
  have h1 := ((H.out.putE hi x).alloc (.cells #[.bool false, .bool false, .int .i64 0] 52)).drew
  have g1 := newRes (w := w) (size_set w ⟨tb, i * 9 + 5, none⟩ (.int .i64 x))
  have k1 := (((Kept.refl [tb] w).setCell (p := ⟨tb, i * 9 + 5, none⟩) (.inl (by simp)) (.int .i64 x)).alloc (.cells #[.bool false, .bool false, .int .i64 0] 52)).drew
  refine (m_goes h1 hi 4).mono ?_
  rintro e w2 ⟨rfl, h2, k2⟩
  have r2 := k2.at g1 (by simp; omega)
  have hc2 : ∀ o, w2.cell? ⟨w.heap.size, o, none⟩ = #[.bool false, .bool false, .int .i64 0][o]? := cell_of r2
  have hf2 : ∀ o, w2.frozen? ⟨w.heap.size, o, none⟩ = false := frozen_of r2
  have K1 : Hid _ := k1.trans (k2.mono (by simp))
  have H2 : Hid _ := h2
  clear h1 k1 g1 k2 h2
  simp only [res]
  go_wp2
  refine bodyPost_ret (v := res false false 0) (by simp [results, Tryz.results52, go_sem, res, cell_of (resLaid r2 false false 0)]) rfl ⟨rfl, ?_, ?_⟩
  · have h3 := H2.out.resLaid r2 false false 0
    rw [show ∀ (m : M) (i : Nat) (t : Thr), ({ m with ths := put m.ths i t } : M) = m.thr i t from fun _ _ _ => rfl, thr_thr] at h3
    simp only [put_same] at h3
    exact h3
  · exact ((K1.out.setCell (.inr (by simp)) _).setCell (.inr (by simp)) _).setCell (.inr (by simp)) _
end Go.Proofs.YtfgfpggjcfhccaaGreat
