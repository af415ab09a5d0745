import Derived.Test.YtmnkphenobfbfaaGreatXm
namespace Go.Proofs.YtmnkphenobfbfaaGreat
open Go.RowKit
set_option maxRecDepth 100000 in
set_option maxHeartbeats 800000 in
theorem e_first {r tb : Nat} {sl : Value} {B : Nat} {m : M} {w : World} (h : RefAt r tb sl B m w) {i : Nat} (hi : i < m.nth) (hk0 : 0 ≤ (m.ths i).key) (hk7 : (m.ths i).key < 8) (hat : (m.ths i).at_ = 1) :
    Does 39 #[.pointer (some ⟨r, 0, none⟩), .pointer (some ⟨tb, i * 9, none⟩)] r tb sl B (m.first i 8) w := by
  obtain ⟨hs, hf, -, -, -, c3, c4, -⟩ := h.thCell hi
  obtain ⟨hsr, -⟩ := h.mapCell
  have hne := h.rne
  have H : Hid _ := h
  rw [hat] at c4
  clear hat
  clear h
  generalize (m.ths i).old = y at *
  go_enter Tryz.func39, Tryz.ntmps39
  go_wp2_with fail
  have h1 := (H.out.alloc (.cells #[.bool false, .bool false, .int .i64 0] 52)).alloc (.cells #[Value.int .i64 0, .int .i64 y] 88)
  have g1 := two (w1 := w) (w := w) rfl (.cells #[.bool false, .bool false, .int .i64 0] 52) (.cells #[Value.int .i64 0, .int .i64 y] 88)
  have k1 := ((Kept.refl [r, tb] w).alloc (.cells #[.bool false, .bool false, .int .i64 0] 52)).alloc (.cells #[Value.int .i64 0, .int .i64 y] 88)
  refine Calls.mono (does_first h1 hi hk0 hk7 8) ?_
  rintro e w2 ⟨rfl, h2, k2⟩
  have r2 := k2.at g1 (by simp; omega)
  have hc2 : ∀ o, w2.cell? ⟨w.heap.size, o, none⟩ = #[.bool false, .bool false, .int .i64 0][o]? := cell_of r2
  have hf2 : ∀ o, w2.frozen? ⟨w.heap.size, o, none⟩ = false := frozen_of r2
  have K1 : Hid _ := k1.trans (k2.mono (by simp))
  have H2 : Hid _ := h2
  clear h1 k1 g1 k2 h2
  generalize hO : m.first i 8 = O at *
  obtain ⟨od, of, ov, om⟩ := O
  have HO : Hid _ := hO
  clear hO
  simp only [Out.val, res]
  go_wp2
  refine bodyPost_ret (v := res od of ov) (by simp [results, Tryz.results39, go_sem, res, cell_of (resLaid r2 od of ov)]) rfl ⟨by rw [HO.out]; rfl, ?_, ?_⟩
  · have h3 := H2.out.resLaid r2 od of ov
    rw [HO.out]
    exact h3
  · exact ((K1.out.setCell (.inr (by simp)) _).setCell (.inr (by simp)) _).setCell (.inr (by simp)) _
set_option maxRecDepth 100000 in
set_option maxHeartbeats 800000 in
theorem e_third {r tb : Nat} {sl : Value} {B : Nat} {m : M} {w : World} (h : RefAt r tb sl B m w) {i : Nat} (hi : i < m.nth) (hk0 : 0 ≤ (m.ths i).key) (hk7 : (m.ths i).key < 8) (hat : (m.ths i).at_ = 3) :
    Does 39 #[.pointer (some ⟨r, 0, none⟩), .pointer (some ⟨tb, i * 9, none⟩)] r tb sl B (m.third i 7) w := by
  obtain ⟨hs, hf, -, -, -, c3, c4, -⟩ := h.thCell hi
  obtain ⟨hsr, -⟩ := h.mapCell
  have hne := h.rne
  have H : Hid _ := h
  rw [hat] at c4
  clear hat
  clear h
  generalize (m.ths i).old = y at *
  go_enter Tryz.func39, Tryz.ntmps39
  go_wp2_with fail
  have h1 := (H.out.alloc (.cells #[.bool false, .bool false, .int .i64 0] 52)).alloc (.cells #[Value.int .i64 0, .int .i64 y] 88)
  have g1 := two (w1 := w) (w := w) rfl (.cells #[.bool false, .bool false, .int .i64 0] 52) (.cells #[Value.int .i64 0, .int .i64 y] 88)
  have k1 := ((Kept.refl [r, tb] w).alloc (.cells #[.bool false, .bool false, .int .i64 0] 52)).alloc (.cells #[Value.int .i64 0, .int .i64 y] 88)
  refine Calls.mono (does_third h1 hi hk0 hk7 7) ?_
  rintro e w2 ⟨rfl, h2, k2⟩
  have r2 := k2.at g1 (by simp; omega)
  have hc2 : ∀ o, w2.cell? ⟨w.heap.size, o, none⟩ = #[.bool false, .bool false, .int .i64 0][o]? := cell_of r2
  have hf2 : ∀ o, w2.frozen? ⟨w.heap.size, o, none⟩ = false := frozen_of r2
  have K1 : Hid _ := k1.trans (k2.mono (by simp))
  have H2 : Hid _ := h2
  clear h1 k1 g1 k2 h2
  generalize hO : m.third i 7 = O at *
  obtain ⟨od, of, ov, om⟩ := O
  have HO : Hid _ := hO
  clear hO
  simp only [Out.val, res]
  go_wp2
  refine bodyPost_ret (v := res od of ov) (by simp [results, Tryz.results39, go_sem, res, cell_of (resLaid r2 od of ov)]) rfl ⟨by rw [HO.out]; rfl, ?_, ?_⟩
  · have h3 := H2.out.resLaid r2 od of ov
    rw [HO.out]
    exact h3
  · exact ((K1.out.setCell (.inr (by simp)) _).setCell (.inr (by simp)) _).setCell (.inr (by simp)) _
set_option maxRecDepth 100000 in
set_option maxHeartbeats 800000 in
theorem e_frees {r tb : Nat} {sl : Value} {B : Nat} {m : M} {w : World} (h : RefAt r tb sl B m w) {i : Nat} (hi : i < m.nth) (hat : (m.ths i).at_ = 7) :
    Does 39 #[.pointer (some ⟨r, 0, none⟩), .pointer (some ⟨tb, i * 9, none⟩)] r tb sl B (m.frees i 8) w := by
  obtain ⟨hs, hf, -, -, -, c3, c4, -⟩ := h.thCell hi
  obtain ⟨hsr, -⟩ := h.mapCell
  have hne := h.rne
  have H : Hid _ := h
  rw [hat] at c4
  clear hat
  clear h
  generalize (m.ths i).old = y at *
  go_enter Tryz.func39, Tryz.ntmps39
  go_wp2_with fail
  have h1 := (H.out.alloc (.cells #[.bool false, .bool false, .int .i64 0] 52)).alloc (.cells #[Value.int .i64 0, .int .i64 y] 88)
  have g1 := two (w1 := w) (w := w) rfl (.cells #[.bool false, .bool false, .int .i64 0] 52) (.cells #[Value.int .i64 0, .int .i64 y] 88)
  have k1 := ((Kept.refl [r, tb] w).alloc (.cells #[.bool false, .bool false, .int .i64 0] 52)).alloc (.cells #[Value.int .i64 0, .int .i64 y] 88)
  refine Calls.mono (does_frees h1 hi 8) ?_
  rintro e w2 ⟨rfl, h2, k2⟩
  have r2 := k2.at g1 (by simp; omega)
  have hc2 : ∀ o, w2.cell? ⟨w.heap.size, o, none⟩ = #[.bool false, .bool false, .int .i64 0][o]? := cell_of r2
  have hf2 : ∀ o, w2.frozen? ⟨w.heap.size, o, none⟩ = false := frozen_of r2
  have K1 : Hid _ := k1.trans (k2.mono (by simp))
  have H2 : Hid _ := h2
  clear h1 k1 g1 k2 h2
  generalize hO : m.frees i 8 = O at *
  obtain ⟨od, of, ov, om⟩ := O
  have HO : Hid _ := hO
  clear hO
  simp only [Out.val, res]
  go_wp2
  refine bodyPost_ret (v := res od of ov) (by simp [results, Tryz.results39, go_sem, res, cell_of (resLaid r2 od of ov)]) rfl ⟨by rw [HO.out]; rfl, ?_, ?_⟩
  · have h3 := H2.out.resLaid r2 od of ov
    rw [HO.out]
    exact h3
  · exact ((K1.out.setCell (.inr (by simp)) _).setCell (.inr (by simp)) _).setCell (.inr (by simp)) _
set_option maxRecDepth 100000 in
set_option maxHeartbeats 800000 in
theorem e_missed0 {r tb : Nat} {sl : Value} {B : Nat} {m : M} {w : World} (h : RefAt r tb sl B m w) {i : Nat} (hi : i < m.nth) (hm0 : 0 ≤ m.mis) (hm1 : m.mis < 1000000) (hat : (m.ths i).at_ = 6) :
    Does 39 #[.pointer (some ⟨r, 0, none⟩), .pointer (some ⟨tb, i * 9, none⟩)] r tb sl B (m.missed i 6 7) w := by
  obtain ⟨hs, hf, -, -, -, c3, c4, -⟩ := h.thCell hi
  obtain ⟨hsr, -⟩ := h.mapCell
  have hne := h.rne
  have H : Hid _ := h
  rw [hat] at c4
  clear h
  generalize (m.ths i).old = y at *
  go_enter Tryz.func39, Tryz.ntmps39
  go_wp2_with fail
  have h1 := (H.out.alloc (.cells #[.bool false, .bool false, .int .i64 0] 52)).alloc (.cells #[Value.int .i64 0, .int .i64 y] 88)
  have g1 := two (w1 := w) (w := w) rfl (.cells #[.bool false, .bool false, .int .i64 0] 52) (.cells #[Value.int .i64 0, .int .i64 y] 88)
  have k1 := ((Kept.refl [r, tb] w).alloc (.cells #[.bool false, .bool false, .int .i64 0] 52)).alloc (.cells #[Value.int .i64 0, .int .i64 y] 88)
  refine Calls.mono (does_missed h1 hi 6 7 (by omega) (by omega) (by omega) hm0 hm1) ?_
  rintro e w2 ⟨rfl, h2, k2⟩
  have r2 := k2.at g1 (by simp; omega)
  have hc2 : ∀ o, w2.cell? ⟨w.heap.size, o, none⟩ = #[.bool false, .bool false, .int .i64 0][o]? := cell_of r2
  have hf2 : ∀ o, w2.frozen? ⟨w.heap.size, o, none⟩ = false := frozen_of r2
  have K1 : Hid _ := k1.trans (k2.mono (by simp))
  have H2 : Hid _ := h2
  clear h1 k1 g1 k2 h2
  generalize hO : m.missed i 6 7 = O at *
  obtain ⟨od, of, ov, om⟩ := O
  have HO : Hid _ := hO
  clear hO
  simp only [Out.val, res]
  go_wp2
  refine bodyPost_ret (v := res od of ov) (by simp [results, Tryz.results39, go_sem, res, cell_of (resLaid r2 od of ov)]) rfl ⟨by rw [HO.out]; rfl, ?_, ?_⟩
  · have h3 := H2.out.resLaid r2 od of ov
    rw [HO.out]
    exact h3
  · exact ((K1.out.setCell (.inr (by simp)) _).setCell (.inr (by simp)) _).setCell (.inr (by simp)) _
set_option maxRecDepth 100000 in
set_option maxHeartbeats 800000 in
theorem e_missed1 {r tb : Nat} {sl : Value} {B : Nat} {m : M} {w : World} (h : RefAt r tb sl B m w) {i : Nat} (hi : i < m.nth) (hm0 : 0 ≤ m.mis) (hm1 : m.mis < 1000000) (hat : (m.ths i).at_ = 61) :
    Does 39 #[.pointer (some ⟨r, 0, none⟩), .pointer (some ⟨tb, i * 9, none⟩)] r tb sl B (m.missed i 6 7) w := by
  obtain ⟨hs, hf, -, -, -, c3, c4, -⟩ := h.thCell hi
  obtain ⟨hsr, -⟩ := h.mapCell
  have hne := h.rne
  have H : Hid _ := h
  rw [hat] at c4
  clear h
  generalize (m.ths i).old = y at *
  go_enter Tryz.func39, Tryz.ntmps39
  go_wp2_with fail
  have h1 := (H.out.alloc (.cells #[.bool false, .bool false, .int .i64 0] 52)).alloc (.cells #[Value.int .i64 0, .int .i64 y] 88)
  have g1 := two (w1 := w) (w := w) rfl (.cells #[.bool false, .bool false, .int .i64 0] 52) (.cells #[Value.int .i64 0, .int .i64 y] 88)
  have k1 := ((Kept.refl [r, tb] w).alloc (.cells #[.bool false, .bool false, .int .i64 0] 52)).alloc (.cells #[Value.int .i64 0, .int .i64 y] 88)
  refine Calls.mono (does_missed h1 hi 6 7 (by omega) (by omega) (by omega) hm0 hm1) ?_
  rintro e w2 ⟨rfl, h2, k2⟩
  have r2 := k2.at g1 (by simp; omega)
  have hc2 : ∀ o, w2.cell? ⟨w.heap.size, o, none⟩ = #[.bool false, .bool false, .int .i64 0][o]? := cell_of r2
  have hf2 : ∀ o, w2.frozen? ⟨w.heap.size, o, none⟩ = false := frozen_of r2
  have K1 : Hid _ := k1.trans (k2.mono (by simp))
  have H2 : Hid _ := h2
  clear h1 k1 g1 k2 h2
  generalize hO : m.missed i 6 7 = O at *
  obtain ⟨od, of, ov, om⟩ := O
  have HO : Hid _ := hO
  clear hO
  simp only [Out.val, res]
  go_wp2
  refine bodyPost_ret (v := res od of ov) (by simp [results, Tryz.results39, go_sem, res, cell_of (resLaid r2 od of ov)]) rfl ⟨by rw [HO.out]; rfl, ?_, ?_⟩
  · have h3 := H2.out.resLaid r2 od of ov
    rw [HO.out]
    exact h3
  · exact ((K1.out.setCell (.inr (by simp)) _).setCell (.inr (by simp)) _).setCell (.inr (by simp)) _
set_option maxRecDepth 100000 in
set_option maxHeartbeats 800000 in
theorem e_missed2 {r tb : Nat} {sl : Value} {B : Nat} {m : M} {w : World} (h : RefAt r tb sl B m w) {i : Nat} (hi : i < m.nth) (hm0 : 0 ≤ m.mis) (hm1 : m.mis < 1000000) (hat : (m.ths i).at_ = 62) :
    Does 39 #[.pointer (some ⟨r, 0, none⟩), .pointer (some ⟨tb, i * 9, none⟩)] r tb sl B (m.missed i 6 7) w := by
  obtain ⟨hs, hf, -, -, -, c3, c4, -⟩ := h.thCell hi
  obtain ⟨hsr, -⟩ := h.mapCell
  have hne := h.rne
  have H : Hid _ := h
  rw [hat] at c4
  clear h
  generalize (m.ths i).old = y at *
  go_enter Tryz.func39, Tryz.ntmps39
  go_wp2_with fail
  have h1 := (H.out.alloc (.cells #[.bool false, .bool false, .int .i64 0] 52)).alloc (.cells #[Value.int .i64 0, .int .i64 y] 88)
  have g1 := two (w1 := w) (w := w) rfl (.cells #[.bool false, .bool false, .int .i64 0] 52) (.cells #[Value.int .i64 0, .int .i64 y] 88)
  have k1 := ((Kept.refl [r, tb] w).alloc (.cells #[.bool false, .bool false, .int .i64 0] 52)).alloc (.cells #[Value.int .i64 0, .int .i64 y] 88)
  refine Calls.mono (does_missed h1 hi 6 7 (by omega) (by omega) (by omega) hm0 hm1) ?_
  rintro e w2 ⟨rfl, h2, k2⟩
  have r2 := k2.at g1 (by simp; omega)
  have hc2 : ∀ o, w2.cell? ⟨w.heap.size, o, none⟩ = #[.bool false, .bool false, .int .i64 0][o]? := cell_of r2
  have hf2 : ∀ o, w2.frozen? ⟨w.heap.size, o, none⟩ = false := frozen_of r2
  have K1 : Hid _ := k1.trans (k2.mono (by simp))
  have H2 : Hid _ := h2
  clear h1 k1 g1 k2 h2
  generalize hO : m.missed i 6 7 = O at *
  obtain ⟨od, of, ov, om⟩ := O
  have HO : Hid _ := hO
  clear hO
  simp only [Out.val, res]
  go_wp2
  refine bodyPost_ret (v := res od of ov) (by simp [results, Tryz.results39, go_sem, res, cell_of (resLaid r2 od of ov)]) rfl ⟨by rw [HO.out]; rfl, ?_, ?_⟩
  · have h3 := H2.out.resLaid r2 od of ov
    rw [HO.out]
    exact h3
  · exact ((K1.out.setCell (.inr (by simp)) _).setCell (.inr (by simp)) _).setCell (.inr (by simp)) _
set_option maxRecDepth 100000 in
set_option maxHeartbeats 800000 in
theorem e_missed3 {r tb : Nat} {sl : Value} {B : Nat} {m : M} {w : World} (h : RefAt r tb sl B m w) {i : Nat} (hi : i < m.nth) (hm0 : 0 ≤ m.mis) (hm1 : m.mis < 1000000) (hat : (m.ths i).at_ = 63) :
    Does 39 #[.pointer (some ⟨r, 0, none⟩), .pointer (some ⟨tb, i * 9, none⟩)] r tb sl B (m.missed i 6 7) w := by
  obtain ⟨hs, hf, -, -, -, c3, c4, -⟩ := h.thCell hi
  obtain ⟨hsr, -⟩ := h.mapCell
  have hne := h.rne
  have H : Hid _ := h
  rw [hat] at c4
  clear h
  generalize (m.ths i).old = y at *
  go_enter Tryz.func39, Tryz.ntmps39
  go_wp2_with fail
  have h1 := (H.out.alloc (.cells #[.bool false, .bool false, .int .i64 0] 52)).alloc (.cells #[Value.int .i64 0, .int .i64 y] 88)
  have g1 := two (w1 := w) (w := w) rfl (.cells #[.bool false, .bool false, .int .i64 0] 52) (.cells #[Value.int .i64 0, .int .i64 y] 88)
  have k1 := ((Kept.refl [r, tb] w).alloc (.cells #[.bool false, .bool false, .int .i64 0] 52)).alloc (.cells #[Value.int .i64 0, .int .i64 y] 88)
  refine Calls.mono (does_missed h1 hi 6 7 (by omega) (by omega) (by omega) hm0 hm1) ?_
  rintro e w2 ⟨rfl, h2, k2⟩
  have r2 := k2.at g1 (by simp; omega)
  have hc2 : ∀ o, w2.cell? ⟨w.heap.size, o, none⟩ = #[.bool false, .bool false, .int .i64 0][o]? := cell_of r2
  have hf2 : ∀ o, w2.frozen? ⟨w.heap.size, o, none⟩ = false := frozen_of r2
  have K1 : Hid _ := k1.trans (k2.mono (by simp))
  have H2 : Hid _ := h2
  clear h1 k1 g1 k2 h2
  generalize hO : m.missed i 6 7 = O at *
  obtain ⟨od, of, ov, om⟩ := O
  have HO : Hid _ := hO
  clear hO
  simp only [Out.val, res]
  go_wp2
  refine bodyPost_ret (v := res od of ov) (by simp [results, Tryz.results39, go_sem, res, cell_of (resLaid r2 od of ov)]) rfl ⟨by rw [HO.out]; rfl, ?_, ?_⟩
  · have h3 := H2.out.resLaid r2 od of ov
    rw [HO.out]
    exact h3
  · exact ((K1.out.setCell (.inr (by simp)) _).setCell (.inr (by simp)) _).setCell (.inr (by simp)) _
set_option maxRecDepth 100000 in
set_option maxHeartbeats 800000 in
theorem e_dirty_no {r tb : Nat} {sl : Value} {B : Nat} {m : M} {w : World} (h : RefAt r tb sl B m w) {i : Nat} (hi : i < m.nth) (hk0 : 0 ≤ (m.ths i).key) (hk7 : (m.ths i).key < 8) (hat : (m.ths i).at_ = 4) (he : m.dirty (m.key i) < 0) :
    Does 39 #[.pointer (some ⟨r, 0, none⟩), .pointer (some ⟨tb, i * 9, none⟩)] r tb sl B ((m.sets i (m.dirty (m.key i))).goes i 7) w := by
  obtain ⟨hs, hf, -, c1, -, c3, c4, c5, -⟩ := h.thCell hi
  obtain ⟨hsr, -, -, -, -, -, cdt, -⟩ := h.mapCell
  have ck := cdt (m.ths i).key.toNat (by omega)
  have hne := h.rne
  have H : Hid _ := h
  rw [hat] at c4
  clear h cdt hat
  have hkk : m.key i = (m.ths i).key.toNat := rfl
  rw [hkk] at he ⊢
  clear hkk
  generalize hx : m.dirty (m.ths i).key.toNat = x at *
  generalize hkey : (m.ths i).key = k at *
  generalize (m.ths i).old = y at *
  have HX : Hid _ := hx
  clear hx hkey
  go_enter Tryz.func39, Tryz.ntmps39
  go_wp2_with fail
  go_region
  go_wp2_with fail
  have h1 := (((H.out.putE hi x).alloc (.cells #[.bool false, .bool false, .int .i64 0] 52)).alloc (.cells #[Value.int .i64 0, .int .i64 y] 88)).drew
  have g1 := twoD (w := w) (size_set w ⟨tb, i * 9 + 5, none⟩ (.int .i64 x)) (.cells #[.bool false, .bool false, .int .i64 0] 52) (.cells #[Value.int .i64 0, .int .i64 y] 88)
  have k1 := ((((Kept.refl [r, tb] w).setCell (p := ⟨tb, i * 9 + 5, none⟩) (.inl (by simp)) (.int .i64 x)).alloc (.cells #[.bool false, .bool false, .int .i64 0] 52)).alloc (.cells #[Value.int .i64 0, .int .i64 y] 88)).drew
  refine Calls.mono (does_of (n := 54) (by simp) (m_goes h1 hi 7)) ?_
  rintro e w2 ⟨rfl, h2, k2⟩
  have r2 := k2.at g1 (by simp; omega)
  have hc2 : ∀ o, w2.cell? ⟨w.heap.size, o, none⟩ = #[.bool false, .bool false, .int .i64 0][o]? := cell_of r2
  have hf2 : ∀ o, w2.frozen? ⟨w.heap.size, o, none⟩ = false := frozen_of r2
  have K1 : Hid _ := k1.trans (k2.mono (by simp))
  have H2 : Hid _ := h2
  clear h1 k1 g1 k2 h2
  simp only [Out.val, res]
  go_wp2
  refine bodyPost_ret (v := res false false 0) (by simp [results, Tryz.results39, go_sem, res, cell_of (resLaid r2 false false 0)]) rfl ⟨rfl, ?_, ?_⟩
  · have h3 := H2.out.resLaid r2 false false 0
    exact h3
  · exact ((K1.out.setCell (.inr (by simp)) _).setCell (.inr (by simp)) _).setCell (.inr (by simp)) _
set_option maxRecDepth 100000 in
set_option maxHeartbeats 800000 in
theorem e_dirty_in {r tb : Nat} {sl : Value} {B : Nat} {m : M} {w : World} (h : RefAt r tb sl B m w) {i : Nat} (hi : i < m.nth) (hk0 : 0 ≤ (m.ths i).key) (hk7 : (m.ths i).key < 8) (hat : (m.ths i).at_ = 4) (he : 0 ≤ m.dirty (m.key i)) :
    Does 39 #[.pointer (some ⟨r, 0, none⟩), .pointer (some ⟨tb, i * 9, none⟩)] r tb sl B ((m.sets i (m.dirty (m.key i))).goes i 6) w := by
  obtain ⟨hs, hf, -, c1, -, c3, c4, c5, -⟩ := h.thCell hi
  obtain ⟨hsr, -, -, -, -, -, cdt, -⟩ := h.mapCell
  have ck := cdt (m.ths i).key.toNat (by omega)
  have hne := h.rne
  have H : Hid _ := h
  rw [hat] at c4
  clear h cdt hat
  have hkk : m.key i = (m.ths i).key.toNat := rfl
  rw [hkk] at he ⊢
  clear hkk
  generalize hx : m.dirty (m.ths i).key.toNat = x at *
  generalize hkey : (m.ths i).key = k at *
  generalize (m.ths i).old = y at *
  have HX : Hid _ := hx
  clear hx hkey
  go_enter Tryz.func39, Tryz.ntmps39
  go_wp2_with fail
  go_region
  go_wp2_with fail
  have h1 := (((H.out.putE hi x).alloc (.cells #[.bool false, .bool false, .int .i64 0] 52)).alloc (.cells #[Value.int .i64 0, .int .i64 y] 88)).drew
  have g1 := twoD (w := w) (size_set w ⟨tb, i * 9 + 5, none⟩ (.int .i64 x)) (.cells #[.bool false, .bool false, .int .i64 0] 52) (.cells #[Value.int .i64 0, .int .i64 y] 88)
  have k1 := ((((Kept.refl [r, tb] w).setCell (p := ⟨tb, i * 9 + 5, none⟩) (.inl (by simp)) (.int .i64 x)).alloc (.cells #[.bool false, .bool false, .int .i64 0] 52)).alloc (.cells #[Value.int .i64 0, .int .i64 y] 88)).drew
  refine Calls.mono (does_of (n := 54) (by simp) (m_goes h1 hi 6)) ?_
  rintro e w2 ⟨rfl, h2, k2⟩
  have r2 := k2.at g1 (by simp; omega)
  have hc2 : ∀ o, w2.cell? ⟨w.heap.size, o, none⟩ = #[.bool false, .bool false, .int .i64 0][o]? := cell_of r2
  have hf2 : ∀ o, w2.frozen? ⟨w.heap.size, o, none⟩ = false := frozen_of r2
  have K1 : Hid _ := k1.trans (k2.mono (by simp))
  have H2 : Hid _ := h2
  clear h1 k1 g1 k2 h2
  simp only [Out.val, res]
  go_wp2
  refine bodyPost_ret (v := res false false 0) (by simp [results, Tryz.results39, go_sem, res, cell_of (resLaid r2 false false 0)]) rfl ⟨rfl, ?_, ?_⟩
  · have h3 := H2.out.resLaid r2 false false 0
    exact h3
  · exact ((K1.out.setCell (.inr (by simp)) _).setCell (.inr (by simp)) _).setCell (.inr (by simp)) _
set_option maxRecDepth 100000 in
set_option maxHeartbeats 800000 in
theorem e_9_no {r tb : Nat} {sl : Value} {B : Nat} {m : M} {w : World} (h : RefAt r tb sl B m w) {i : Nat} (hi : i < m.nth) (he0 : 0 ≤ (m.ths i).e) (hen : (m.ths i).e.toNat < m.nc) (hat : (m.ths i).at_ = 9) (hx : ¬ ((m.cells (m.ths i).e.toNat).st = 0 ∧ (m.cells (m.ths i).e.toNat).v = (m.ths i).old)) :
    Does 39 #[.pointer (some ⟨r, 0, none⟩), .pointer (some ⟨tb, i * 9, none⟩)] r tb sl B (m.goes i 8) w := by
  obtain ⟨hs, hf, -, -, c2, c3, c4, c5, -⟩ := h.thCell hi
  obtain ⟨hsr, hfr, c0, -⟩ := h.mapCell
  have hne := h.rne
  have H : Hid _ := h
  obtain ⟨g, cap, hsl, hg, hgr, hgt, hfg, q0, q1⟩ := h.entry hen
  rw [hsl] at c0
  have hin : (m.ths i).e < (m.nc : Int) := by omega
  have HSL : Hid _ := hsl
  have HEN : Hid _ := hen
  rw [hat] at c4
  clear h hat
  generalize (m.ths i).old = y at *
  generalize (m.ths i).val = nv at *
  clear hsl
  generalize (m.cells (m.ths i).e.toNat).st = x at *
  generalize (m.cells (m.ths i).e.toNat).v = v at *
  generalize (m.ths i).e = z at *
  go_enter Tryz.func39, Tryz.ntmps39
  go_wp2_with fail
  have hneq := neqNo hx
  have hgd := g88
  go_quiet (fail)
  go_wp2_with fail
  have h1 := ((H.out.alloc (.cells #[.bool false, .bool false, .int .i64 0] 52)).alloc (.cells #[Value.int .i64 0, .int .i64 y] 88)).drewN nq
  have g1 := twoN w (.cells #[.bool false, .bool false, .int .i64 0] 52) (.cells #[Value.int .i64 0, .int .i64 y] 88) nq
  have k1 := (((Kept.refl [r, tb] w).alloc (.cells #[.bool false, .bool false, .int .i64 0] 52)).alloc (.cells #[Value.int .i64 0, .int .i64 y] 88)).drewN nq
  refine Calls.mono (does_of (n := 54) (by simp) (m_goes h1 hi 8)) ?_
  rintro e w2 ⟨rfl, h2, k2⟩
  have r2 := k2.at g1 (by simp; omega)
  have hc2 : ∀ o, w2.cell? ⟨w.heap.size, o, none⟩ = #[.bool false, .bool false, .int .i64 0][o]? := cell_of r2
  have hf2 : ∀ o, w2.frozen? ⟨w.heap.size, o, none⟩ = false := frozen_of r2
  have K1 : Hid _ := k1.trans (k2.mono (by simp))
  have H2 : Hid _ := h2
  clear h1 k1 g1 k2 h2
  simp only [Out.val, res]
  go_wp2
  refine bodyPost_ret (v := res false false 0) (by simp [results, Tryz.results39, go_sem, res, cell_of (resLaid r2 false false 0)]) rfl ⟨rfl, ?_, ?_⟩
  · have h3 := H2.out.resLaid r2 false false 0
    exact h3
  · exact ((K1.out.setCell (.inr (by simp)) _).setCell (.inr (by simp)) _).setCell (.inr (by simp)) _
set_option maxRecDepth 100000 in
set_option maxHeartbeats 800000 in
theorem e_8_none {r tb : Nat} {sl : Value} {B : Nat} {m : M} {w : World} (h : RefAt r tb sl B m w) {i : Nat} (hi : i < m.nth) (he0 : 0 ≤ (m.ths i).e) (hen : (m.ths i).e.toNat < m.nc) (hat : (m.ths i).at_ = 8) (hx : ¬ ((m.cells (m.ths i).e.toNat).st = 0 ∧ (m.cells (m.ths i).e.toNat).v = (m.ths i).old)) :
    Does 39 #[.pointer (some ⟨r, 0, none⟩), .pointer (some ⟨tb, i * 9, none⟩)] r tb sl B (m.ends i false 0) w := by
  obtain ⟨hs, hf, -, -, c2, c3, c4, c5, -⟩ := h.thCell hi
  obtain ⟨hsr, hfr, c0, -⟩ := h.mapCell
  have hne := h.rne
  have H : Hid _ := h
  obtain ⟨g, cap, hsl, hg, hgr, hgt, hfg, q0, q1⟩ := h.entry hen
  rw [hsl] at c0
  have hin : (m.ths i).e < (m.nc : Int) := by omega
  have HSL : Hid _ := hsl
  have HEN : Hid _ := hen
  rw [hat] at c4
  clear h hat
  generalize (m.ths i).old = y at *
  generalize (m.ths i).val = nv at *
  clear hsl
  generalize (m.cells (m.ths i).e.toNat).st = x at *
  generalize (m.cells (m.ths i).e.toNat).v = v at *
  generalize (m.ths i).e = z at *
  go_enter Tryz.func39, Tryz.ntmps39
  go_wp2_with fail
  have hneq := neqNo hx
  have hgd := g88
  go_quiet (fail)
  go_wp2_with fail
  have h1 := ((H.out.alloc (.cells #[.bool false, .bool false, .int .i64 0] 52)).alloc (.cells #[Value.int .i64 0, .int .i64 y] 88)).drewN nq
  have g1 := twoN w (.cells #[.bool false, .bool false, .int .i64 0] 52) (.cells #[Value.int .i64 0, .int .i64 y] 88) nq
  have k1 := (((Kept.refl [r, tb] w).alloc (.cells #[.bool false, .bool false, .int .i64 0] 52)).alloc (.cells #[Value.int .i64 0, .int .i64 y] 88)).drewN nq
  refine Calls.mono (does_of (n := 57) (by simp) (m_ends h1 hi false 0)) ?_
  rintro e w2 ⟨rfl, h2, k2⟩
  have r2 := k2.at g1 (by simp; omega)
  have hc2 : ∀ o, w2.cell? ⟨w.heap.size, o, none⟩ = #[.bool false, .bool false, .int .i64 0][o]? := cell_of r2
  have hf2 : ∀ o, w2.frozen? ⟨w.heap.size, o, none⟩ = false := frozen_of r2
  have K1 : Hid _ := k1.trans (k2.mono (by simp))
  have H2 : Hid _ := h2
  clear h1 k1 g1 k2 h2
  simp only [Out.val, res]
  go_wp2
  refine bodyPost_ret (v := res true false 0) (by simp [results, Tryz.results39, go_sem, res, cell_of (resLaid r2 true false 0)]) rfl ⟨rfl, ?_, ?_⟩
  · have h3 := H2.out.resLaid r2 true false 0
    exact h3
  · exact ((K1.out.setCell (.inr (by simp)) _).setCell (.inr (by simp)) _).setCell (.inr (by simp)) _
set_option maxRecDepth 100000 in
set_option maxHeartbeats 800000 in
theorem e_8_on {r tb : Nat} {sl : Value} {B : Nat} {m : M} {w : World} (h : RefAt r tb sl B m w) {i : Nat} (hi : i < m.nth) (he0 : 0 ≤ (m.ths i).e) (hen : (m.ths i).e.toNat < m.nc) (hat : (m.ths i).at_ = 8) (hx : (m.cells (m.ths i).e.toNat).st = 0) (hy : (m.cells (m.ths i).e.toNat).v = (m.ths i).old) :
    Does 39 #[.pointer (some ⟨r, 0, none⟩), .pointer (some ⟨tb, i * 9, none⟩)] r tb sl B (m.goes i 9) w := by
  obtain ⟨hs, hf, -, -, c2, c3, c4, c5, -⟩ := h.thCell hi
  obtain ⟨hsr, hfr, c0, -⟩ := h.mapCell
  have hne := h.rne
  have H : Hid _ := h
  obtain ⟨g, cap, hsl, hg, hgr, hgt, hfg, q0, q1⟩ := h.entry hen
  rw [hsl] at c0
  have hin : (m.ths i).e < (m.nc : Int) := by omega
  have HSL : Hid _ := hsl
  have HEN : Hid _ := hen
  rw [hat] at c4
  clear h hat
  generalize (m.ths i).old = y at *
  generalize (m.ths i).val = nv at *
  clear hsl
  generalize (m.cells (m.ths i).e.toNat).st = x at *
  generalize (m.cells (m.ths i).e.toNat).v = v at *
  generalize (m.ths i).e = z at *
  go_enter Tryz.func39, Tryz.ntmps39
  go_wp2_with fail
  have hneq := neqYes hx hy
  have hgd := g88
  clear hx hy
  go_quiet (fail)
  go_wp2_with fail
  have h1 := ((H.out.alloc (.cells #[.bool false, .bool false, .int .i64 0] 52)).alloc (.cells #[Value.int .i64 0, .int .i64 y] 88)).drewN nq
  have g1 := twoN w (.cells #[.bool false, .bool false, .int .i64 0] 52) (.cells #[Value.int .i64 0, .int .i64 y] 88) nq
  have k1 := (((Kept.refl [r, tb] w).alloc (.cells #[.bool false, .bool false, .int .i64 0] 52)).alloc (.cells #[Value.int .i64 0, .int .i64 y] 88)).drewN nq
  refine Calls.mono (does_of (n := 54) (by simp) (m_goes h1 hi 9)) ?_
  rintro e w2 ⟨rfl, h2, k2⟩
  have r2 := k2.at g1 (by simp; omega)
  have hc2 : ∀ o, w2.cell? ⟨w.heap.size, o, none⟩ = #[.bool false, .bool false, .int .i64 0][o]? := cell_of r2
  have hf2 : ∀ o, w2.frozen? ⟨w.heap.size, o, none⟩ = false := frozen_of r2
  have K1 : Hid _ := k1.trans (k2.mono (by simp))
  have H2 : Hid _ := h2
  clear h1 k1 g1 k2 h2
  simp only [Out.val, res]
  go_wp2
  refine bodyPost_ret (v := res false false 0) (by simp [results, Tryz.results39, go_sem, res, cell_of (resLaid r2 false false 0)]) rfl ⟨rfl, ?_, ?_⟩
  · have h3 := H2.out.resLaid r2 false false 0
    exact h3
  · exact ((K1.out.setCell (.inr (by simp)) _).setCell (.inr (by simp)) _).setCell (.inr (by simp)) _
set_option maxRecDepth 100000 in
set_option maxHeartbeats 800000 in
theorem e_9_yes {r tb : Nat} {sl : Value} {B : Nat} {m : M} {w : World} (h : RefAt r tb sl B m w) {i : Nat} (hi : i < m.nth) (he0 : 0 ≤ (m.ths i).e) (hen : (m.ths i).e.toNat < m.nc) (hat : (m.ths i).at_ = 9) (hx : (m.cells (m.ths i).e.toNat).st = 0) (hy : (m.cells (m.ths i).e.toNat).v = (m.ths i).old) :
    DoesS 39 #[.pointer (some ⟨r, 0, none⟩), .pointer (some ⟨tb, i * 9, none⟩)] r tb sl B ({ m with cells := put m.cells (m.ths i).e.toNat ⟨0, (m.ths i).val⟩ }.ends i true (m.ths i).old) w := by
  obtain ⟨hs, hf, -, -, c2, c3, c4, c5, -⟩ := h.thCell hi
  obtain ⟨hsr, hfr, c0, -⟩ := h.mapCell
  have hne := h.rne
  have H : Hid _ := h
  obtain ⟨g, cap, hsl, hg, hgr, hgt, hfg, q0, q1⟩ := h.entry hen
  rw [hsl] at c0
  have hin : (m.ths i).e < (m.nc : Int) := by omega
  have HSL : Hid _ := hsl
  have HEN : Hid _ := hen
  rw [hat] at c4
  clear h hat
  generalize (m.ths i).old = y at *
  generalize (m.ths i).val = nv at *
  clear hsl
  generalize (m.cells (m.ths i).e.toNat).st = x at *
  generalize (m.cells (m.ths i).e.toNat).v = v at *
  generalize (m.ths i).e = z at *
  go_enter Tryz.func39, Tryz.ntmps39
  go_wp2_with fail
  have hneq := neqYes hx hy
  have hgd := g88
  clear hx hy
  go_quiet (fail)
  clear hneq hgd
  go_wp2_with fail
  go_region
  go_wp2_with fail
  have hob : sl.ownBlock = some g := by rw [HSL.out]; rfl
  have hmem : g ∈ r :: tb :: sl.ownBlock.toList := by rw [hob]; simp
  have h1 := (((H.out.alloc (.cells #[.bool false, .bool false, .int .i64 0] 52)).alloc (.cells #[Value.int .i64 0, .int .i64 y] 88)).drewN (nq + 1)).setEntry HSL.out hen 0 nv
  have g1 := block_set_ne (block_set_ne (twoN w (.cells #[.bool false, .bool false, .int .i64 0] 52) (.cells #[Value.int .i64 0, .int .i64 y] 88) (nq + 1)) (Nat.ne_of_gt hg) (z.toNat * 2) (.int .i64 0)) (Nat.ne_of_gt hg) (z.toNat * 2 + 1) (.int .i64 nv)
  have k1 := (((((Kept.refl (r :: tb :: sl.ownBlock.toList) w).alloc (.cells #[.bool false, .bool false, .int .i64 0] 52)).alloc (.cells #[Value.int .i64 0, .int .i64 y] 88)).drewN (nq + 1)).setCell (p := ⟨g, z.toNat * 2, none⟩) (.inl hmem) (.int .i64 0)).setCell (p := ⟨g, z.toNat * 2 + 1, none⟩) (.inl hmem) (.int .i64 nv)
  refine Calls.mono (does_of (n := 57) (F := [tb]) (by simp) (m_ends h1 hi true y)) ?_
  rintro e w2 ⟨rfl, h2, k2⟩
  have r2 := k2.at g1 (by simp; omega)
  have hc2 : ∀ o, w2.cell? ⟨w.heap.size, o, none⟩ = #[.bool false, .bool false, .int .i64 0][o]? := cell_of r2
  have hf2 : ∀ o, w2.frozen? ⟨w.heap.size, o, none⟩ = false := frozen_of r2
  have K1 : Hid _ := k1.trans (k2.mono (by simp))
  have H2 : Hid _ := h2
  clear hob hmem h1 k1 g1 k2 h2
  simp only [Out.val, res]
  go_wp2
  refine bodyPost_ret (v := res true true y) (by simp [results, Tryz.results39, go_sem, res, cell_of (resLaid r2 true true y)]) rfl ⟨rfl, ⟨sl, ?_, fun g hg => .inl hg⟩, ?_⟩
  · have h3 := H2.out.resLaid r2 true true y
    exact h3
  · exact ((K1.out.setCell (.inr (by simp)) _).setCell (.inr (by simp)) _).setCell (.inr (by simp)) _
/-- A step of Replace. -/
theorem does_replace {r tb : Nat} {sl : Value} {B : Nat} {m : M} {w : World} (h : RefAt r tb sl B m w) (hI : m.Inv) {i : Nat} (hi : i < m.nth) (ho : ThOk m (m.ths i)) (hk : (m.ths i).kind = 3) (h2 : ¬ (m.ths i).at_ = 2) :
    DoesS 39 #[.pointer (some ⟨r, 0, none⟩), .pointer (some ⟨tb, i * 9, none⟩)] r tb sl B (m.replace i) w := by
  have hak := ho.ak
  have hop := ho.op
  unfold OpOk at hop
  have hk0 : 0 ≤ (m.ths i).key := hop.2.2.1
  have hk7 : (m.ths i).key < 8 := by omega
  have hm0 := hI.mis.1
  have hm1 : m.mis < 1000000 := by rcases hI.mis.2 with c | ⟨c, _, _⟩ <;> omega
  have hE : NeedsE (m.ths i).kind (m.ths i).at_ → 0 ≤ (m.ths i).e ∧ (m.ths i).e.toNat < m.nc := fun q => ⟨ho.ne q, by have := ho.ne q; have := ho.e.2; omega⟩
  have ha : (m.ths i).at_ = 1 ∨ (m.ths i).at_ = 3 ∨ (m.ths i).at_ = 4 ∨ (m.ths i).at_ = 6 ∨ (m.ths i).at_ = 61 ∨ (m.ths i).at_ = 62 ∨ (m.ths i).at_ = 63 ∨ (m.ths i).at_ = 7 ∨ (m.ths i).at_ = 8 ∨ (m.ths i).at_ = 9 := by
    have : (1 ≤ (m.ths i).at_ ∧ (m.ths i).at_ ≤ 4) ∨ (6 ≤ (m.ths i).at_ ∧ (m.ths i).at_ ≤ 9) ∨ (61 ≤ (m.ths i).at_ ∧ (m.ths i).at_ ≤ 63) := by simpa [AtOk, hk] using hak
    omega
  rcases ha with e | e | e | e | e | e | e | e | e | e
  · rw [show m.replace i = m.first i 8 by simp [M.replace, e]]
    exact (e_first h hi hk0 hk7 e).s
  · rw [show m.replace i = m.third i 7 by simp [M.replace, e]]
    exact (e_third h hi hk0 hk7 e).s
  · by_cases hr : m.dirty (m.key i) < 0
    · rw [show m.replace i = (m.sets i (m.dirty (m.key i))).goes i 7 by simp [M.replace, e, hr]]
      exact (e_dirty_no h hi hk0 hk7 e hr).s
    · rw [show m.replace i = (m.sets i (m.dirty (m.key i))).goes i 6 by simp [M.replace, e, hr]]
      exact (e_dirty_in h hi hk0 hk7 e (Int.not_lt.1 hr)).s
  · rw [show m.replace i = m.missed i 6 7 by simp [M.replace, e]]
    exact (e_missed0 h hi hm0 hm1 e).s
  · rw [show m.replace i = m.missed i 6 7 by simp [M.replace, e]]
    exact (e_missed1 h hi hm0 hm1 e).s
  · rw [show m.replace i = m.missed i 6 7 by simp [M.replace, e]]
    exact (e_missed2 h hi hm0 hm1 e).s
  · rw [show m.replace i = m.missed i 6 7 by simp [M.replace, e]]
    exact (e_missed3 h hi hm0 hm1 e).s
  · rw [show m.replace i = m.frees i 8 by simp [M.replace, e]]
    exact (e_frees h hi e).s
  · obtain ⟨a, b⟩ := hE (by simp [NeedsE, hk, e])
    by_cases hr : (m.cells (m.ths i).e.toNat).st = 0 ∧ (m.cells (m.ths i).e.toNat).v = (m.ths i).old
    · rw [show m.replace i = m.goes i 9 by simp [M.replace, e, hr]]
      exact (e_8_on h hi a b e hr.1 hr.2).s
    · rw [show m.replace i = m.ends i false 0 by simp [M.replace, e, hr]]
      exact (e_8_none h hi a b e hr).s
  · obtain ⟨a, b⟩ := hE (by simp [NeedsE, hk, e])
    by_cases hr : (m.cells (m.ths i).e.toNat).st = 0 ∧ (m.cells (m.ths i).e.toNat).v = (m.ths i).old
    · rw [show m.replace i = { m with cells := put m.cells (m.ths i).e.toNat ⟨0, (m.ths i).val⟩ }.ends i true (m.ths i).old by simp [M.replace, e, hr]]
      exact e_9_yes h hi a b e hr.1 hr.2
    · rw [show m.replace i = m.goes i 8 by simp [M.replace, e, hr]]
      exact (e_9_no h hi a b e hr).s
end Go.Proofs.YtmnkphenobfbfaaGreat
