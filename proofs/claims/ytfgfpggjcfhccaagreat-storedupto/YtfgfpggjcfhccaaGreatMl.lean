import Derived.Test.YtfgfpggjcfhccaaGreatMk
namespace Go.Proofs.YtfgfpggjcfhccaaGreat
open Go.RowKit
theorem two {w1 w : World} (h : w1.heap.size = w.heap.size) (o1 o2 : Obj) : ((w1.alloc o1).alloc o2).heap[w.heap.size]? = some o1 := by
  rw [← h]
  exact block_alloc_lt (block_alloc_new w1 o1) o2
set_option maxRecDepth 100000 in
set_option maxHeartbeats 800000 in
theorem s_1_no {r tb : Nat} {sl : Value} {B : Nat} {m : M} {w : World} (h : RefAt r tb sl B m w) {i : Nat} (hi : i < m.nth) (hk0 : 0 ≤ (m.ths i).key) (hk7 : (m.ths i).key < 8) (hat : (m.ths i).at_ = 1) (he : m.read (m.key i) < 0) :
    Does 36 #[.pointer (some ⟨r, 0, none⟩), .pointer (some ⟨tb, i * 9, none⟩)] r tb sl B ((m.sets i (m.read (m.key i))).goes i 4) w := by
  obtain ⟨hs, hf, -, c1, c2, -, c4, c5, -⟩ := h.thCell hi
  obtain ⟨hsr, hfr, -, crd, -⟩ := h.mapCell
  have hne := h.rne
  have H : Hid _ := h
  have ck := crd (m.ths i).key.toNat (by omega)
  rw [hat] at c4
  clear h hat
  generalize (m.ths i).val = y at *
  clear crd
  simp only [M.key] at he ⊢
  generalize m.read (m.ths i).key.toNat = x at *
  generalize (m.ths i).key = k at *
  go_enter Tryz.func36, Tryz.ntmps36
  go_wp2_with fail
  have h1 := ((H.out.putE hi x).alloc (.cells #[.bool false, .bool false, .int .i64 0] 52)).alloc (.cells #[Value.int .i64 0, .int .i64 y] 88)
  have g1 := two (size_set w ⟨tb, i * 9 + 5, none⟩ (.int .i64 x)) (.cells #[.bool false, .bool false, .int .i64 0] 52) (.cells #[Value.int .i64 0, .int .i64 y] 88)
  have k1 := (((Kept.refl [r, tb] w).setCell (p := ⟨tb, i * 9 + 5, none⟩) (.inl (by simp)) (.int .i64 x)).alloc (.cells #[.bool false, .bool false, .int .i64 0] 52)).alloc (.cells #[Value.int .i64 0, .int .i64 y] 88)
  refine Calls.mono (does_of (n := 53) (by simp) (m_goes h1 hi 4)) ?_
  rintro e w2 ⟨rfl, h2, k2⟩
  have r2 := k2.at g1 (by simp; omega)
  have hc2 : ∀ o, w2.cell? ⟨w.heap.size, o, none⟩ = #[.bool false, .bool false, .int .i64 0][o]? := cell_of r2
  have hf2 : ∀ o, w2.frozen? ⟨w.heap.size, o, none⟩ = false := frozen_of r2
  have K1 : Hid _ := k1.trans (k2.mono (by simp))
  have H2 : Hid _ := h2
  clear h1 k1 g1 k2 h2
  simp only [Out.val, res]
  go_wp2
  refine bodyPost_ret (v := res false false 0) (by simp [results, Tryz.results36, go_sem, res, cell_of (resLaid r2 false false 0)]) rfl ⟨rfl, ?_, ?_⟩
  · have h3 := H2.out.resLaid r2 false false 0
    exact h3
  · exact ((K1.out.setCell (.inr (by simp)) _).setCell (.inr (by simp)) _).setCell (.inr (by simp)) _
set_option maxRecDepth 100000 in
set_option maxHeartbeats 800000 in
theorem s_1_in {r tb : Nat} {sl : Value} {B : Nat} {m : M} {w : World} (h : RefAt r tb sl B m w) {i : Nat} (hi : i < m.nth) (hk0 : 0 ≤ (m.ths i).key) (hk7 : (m.ths i).key < 8) (hat : (m.ths i).at_ = 1) (he : 0 ≤ m.read (m.key i)) :
    Does 36 #[.pointer (some ⟨r, 0, none⟩), .pointer (some ⟨tb, i * 9, none⟩)] r tb sl B ((m.sets i (m.read (m.key i))).goes i 2) w := by
  obtain ⟨hs, hf, -, c1, c2, -, c4, c5, -⟩ := h.thCell hi
  obtain ⟨hsr, hfr, -, crd, -⟩ := h.mapCell
  have hne := h.rne
  have H : Hid _ := h
  have ck := crd (m.ths i).key.toNat (by omega)
  rw [hat] at c4
  clear h hat
  generalize (m.ths i).val = y at *
  clear crd
  simp only [M.key] at he ⊢
  generalize m.read (m.ths i).key.toNat = x at *
  generalize (m.ths i).key = k at *
  go_enter Tryz.func36, Tryz.ntmps36
  go_wp2_with fail
  have h1 := ((H.out.putE hi x).alloc (.cells #[.bool false, .bool false, .int .i64 0] 52)).alloc (.cells #[Value.int .i64 0, .int .i64 y] 88)
  have g1 := two (size_set w ⟨tb, i * 9 + 5, none⟩ (.int .i64 x)) (.cells #[.bool false, .bool false, .int .i64 0] 52) (.cells #[Value.int .i64 0, .int .i64 y] 88)
  have k1 := (((Kept.refl [r, tb] w).setCell (p := ⟨tb, i * 9 + 5, none⟩) (.inl (by simp)) (.int .i64 x)).alloc (.cells #[.bool false, .bool false, .int .i64 0] 52)).alloc (.cells #[Value.int .i64 0, .int .i64 y] 88)
  refine Calls.mono (does_of (n := 53) (by simp) (m_goes h1 hi 2)) ?_
  rintro e w2 ⟨rfl, h2, k2⟩
  have r2 := k2.at g1 (by simp; omega)
  have hc2 : ∀ o, w2.cell? ⟨w.heap.size, o, none⟩ = #[.bool false, .bool false, .int .i64 0][o]? := cell_of r2
  have hf2 : ∀ o, w2.frozen? ⟨w.heap.size, o, none⟩ = false := frozen_of r2
  have K1 : Hid _ := k1.trans (k2.mono (by simp))
  have H2 : Hid _ := h2
  clear h1 k1 g1 k2 h2
  simp only [Out.val, res]
  go_wp2
  refine bodyPost_ret (v := res false false 0) (by simp [results, Tryz.results36, go_sem, res, cell_of (resLaid r2 false false 0)]) rfl ⟨rfl, ?_, ?_⟩
  · have h3 := H2.out.resLaid r2 false false 0
    exact h3
  · exact ((K1.out.setCell (.inr (by simp)) _).setCell (.inr (by simp)) _).setCell (.inr (by simp)) _
set_option maxRecDepth 100000 in
set_option maxHeartbeats 800000 in
theorem s_5_no {r tb : Nat} {sl : Value} {B : Nat} {m : M} {w : World} (h : RefAt r tb sl B m w) {i : Nat} (hi : i < m.nth) (hk0 : 0 ≤ (m.ths i).key) (hk7 : (m.ths i).key < 8) (hat : (m.ths i).at_ = 5) (he : m.read (m.key i) < 0) :
    Does 36 #[.pointer (some ⟨r, 0, none⟩), .pointer (some ⟨tb, i * 9, none⟩)] r tb sl B ((m.sets i (m.read (m.key i))).goes i 8) w := by
  obtain ⟨hs, hf, -, c1, c2, -, c4, c5, -⟩ := h.thCell hi
  obtain ⟨hsr, hfr, -, crd, -⟩ := h.mapCell
  have hne := h.rne
  have H : Hid _ := h
  have ck := crd (m.ths i).key.toNat (by omega)
  rw [hat] at c4
  clear h hat
  generalize (m.ths i).val = y at *
  clear crd
  simp only [M.key] at he ⊢
  generalize m.read (m.ths i).key.toNat = x at *
  generalize (m.ths i).key = k at *
  go_enter Tryz.func36, Tryz.ntmps36
  go_wp2_with fail
  have h1 := ((H.out.putE hi x).alloc (.cells #[.bool false, .bool false, .int .i64 0] 52)).alloc (.cells #[Value.int .i64 0, .int .i64 y] 88)
  have g1 := two (size_set w ⟨tb, i * 9 + 5, none⟩ (.int .i64 x)) (.cells #[.bool false, .bool false, .int .i64 0] 52) (.cells #[Value.int .i64 0, .int .i64 y] 88)
  have k1 := (((Kept.refl [r, tb] w).setCell (p := ⟨tb, i * 9 + 5, none⟩) (.inl (by simp)) (.int .i64 x)).alloc (.cells #[.bool false, .bool false, .int .i64 0] 52)).alloc (.cells #[Value.int .i64 0, .int .i64 y] 88)
  refine Calls.mono (does_of (n := 53) (by simp) (m_goes h1 hi 8)) ?_
  rintro e w2 ⟨rfl, h2, k2⟩
  have r2 := k2.at g1 (by simp; omega)
  have hc2 : ∀ o, w2.cell? ⟨w.heap.size, o, none⟩ = #[.bool false, .bool false, .int .i64 0][o]? := cell_of r2
  have hf2 : ∀ o, w2.frozen? ⟨w.heap.size, o, none⟩ = false := frozen_of r2
  have K1 : Hid _ := k1.trans (k2.mono (by simp))
  have H2 : Hid _ := h2
  clear h1 k1 g1 k2 h2
  simp only [Out.val, res]
  go_wp2
  refine bodyPost_ret (v := res false false 0) (by simp [results, Tryz.results36, go_sem, res, cell_of (resLaid r2 false false 0)]) rfl ⟨rfl, ?_, ?_⟩
  · have h3 := H2.out.resLaid r2 false false 0
    exact h3
  · exact ((K1.out.setCell (.inr (by simp)) _).setCell (.inr (by simp)) _).setCell (.inr (by simp)) _
set_option maxRecDepth 100000 in
set_option maxHeartbeats 800000 in
theorem s_5_in {r tb : Nat} {sl : Value} {B : Nat} {m : M} {w : World} (h : RefAt r tb sl B m w) {i : Nat} (hi : i < m.nth) (hk0 : 0 ≤ (m.ths i).key) (hk7 : (m.ths i).key < 8) (hat : (m.ths i).at_ = 5) (he : 0 ≤ m.read (m.key i)) :
    Does 36 #[.pointer (some ⟨r, 0, none⟩), .pointer (some ⟨tb, i * 9, none⟩)] r tb sl B ((m.sets i (m.read (m.key i))).goes i 6) w := by
  obtain ⟨hs, hf, -, c1, c2, -, c4, c5, -⟩ := h.thCell hi
  obtain ⟨hsr, hfr, -, crd, -⟩ := h.mapCell
  have hne := h.rne
  have H : Hid _ := h
  have ck := crd (m.ths i).key.toNat (by omega)
  rw [hat] at c4
  clear h hat
  generalize (m.ths i).val = y at *
  clear crd
  simp only [M.key] at he ⊢
  generalize m.read (m.ths i).key.toNat = x at *
  generalize (m.ths i).key = k at *
  go_enter Tryz.func36, Tryz.ntmps36
  go_wp2_with fail
  have h1 := ((H.out.putE hi x).alloc (.cells #[.bool false, .bool false, .int .i64 0] 52)).alloc (.cells #[Value.int .i64 0, .int .i64 y] 88)
  have g1 := two (size_set w ⟨tb, i * 9 + 5, none⟩ (.int .i64 x)) (.cells #[.bool false, .bool false, .int .i64 0] 52) (.cells #[Value.int .i64 0, .int .i64 y] 88)
  have k1 := (((Kept.refl [r, tb] w).setCell (p := ⟨tb, i * 9 + 5, none⟩) (.inl (by simp)) (.int .i64 x)).alloc (.cells #[.bool false, .bool false, .int .i64 0] 52)).alloc (.cells #[Value.int .i64 0, .int .i64 y] 88)
  refine Calls.mono (does_of (n := 53) (by simp) (m_goes h1 hi 6)) ?_
  rintro e w2 ⟨rfl, h2, k2⟩
  have r2 := k2.at g1 (by simp; omega)
  have hc2 : ∀ o, w2.cell? ⟨w.heap.size, o, none⟩ = #[.bool false, .bool false, .int .i64 0][o]? := cell_of r2
  have hf2 : ∀ o, w2.frozen? ⟨w.heap.size, o, none⟩ = false := frozen_of r2
  have K1 : Hid _ := k1.trans (k2.mono (by simp))
  have H2 : Hid _ := h2
  clear h1 k1 g1 k2 h2
  simp only [Out.val, res]
  go_wp2
  refine bodyPost_ret (v := res false false 0) (by simp [results, Tryz.results36, go_sem, res, cell_of (resLaid r2 false false 0)]) rfl ⟨rfl, ?_, ?_⟩
  · have h3 := H2.out.resLaid r2 false false 0
    exact h3
  · exact ((K1.out.setCell (.inr (by simp)) _).setCell (.inr (by simp)) _).setCell (.inr (by simp)) _
set_option maxRecDepth 100000 in
set_option maxHeartbeats 800000 in
theorem s_8_in {r tb : Nat} {sl : Value} {B : Nat} {m : M} {w : World} (h : RefAt r tb sl B m w) {i : Nat} (hi : i < m.nth) (hk0 : 0 ≤ (m.ths i).key) (hk7 : (m.ths i).key < 8) (hat : (m.ths i).at_ = 8) (he : 0 ≤ m.dirty (m.key i)) :
    Does 36 #[.pointer (some ⟨r, 0, none⟩), .pointer (some ⟨tb, i * 9, none⟩)] r tb sl B ((m.sets i (m.dirty (m.key i))).goes i 13) w := by
  obtain ⟨hs, hf, -, c1, c2, -, c4, c5, -⟩ := h.thCell hi
  obtain ⟨hsr, hfr, -, -, c9, -, crd, -⟩ := h.mapCell
  have hne := h.rne
  have H : Hid _ := h
  have ck := crd (m.ths i).key.toNat (by omega)
  rw [hat] at c4
  clear h hat
  generalize (m.ths i).val = y at *
  clear crd
  simp only [M.key] at he ⊢
  generalize m.dirty (m.ths i).key.toNat = x at *
  generalize (m.ths i).key = k at *
  go_enter Tryz.func36, Tryz.ntmps36
  go_wp2_with fail
  have h1 := ((H.out.putE hi x).alloc (.cells #[.bool false, .bool false, .int .i64 0] 52)).alloc (.cells #[Value.int .i64 0, .int .i64 y] 88)
  have g1 := two (size_set w ⟨tb, i * 9 + 5, none⟩ (.int .i64 x)) (.cells #[.bool false, .bool false, .int .i64 0] 52) (.cells #[Value.int .i64 0, .int .i64 y] 88)
  have k1 := (((Kept.refl [r, tb] w).setCell (p := ⟨tb, i * 9 + 5, none⟩) (.inl (by simp)) (.int .i64 x)).alloc (.cells #[.bool false, .bool false, .int .i64 0] 52)).alloc (.cells #[Value.int .i64 0, .int .i64 y] 88)
  refine Calls.mono (does_of (n := 53) (by simp) (m_goes h1 hi 13)) ?_
  rintro e w2 ⟨rfl, h2, k2⟩
  have r2 := k2.at g1 (by simp; omega)
  have hc2 : ∀ o, w2.cell? ⟨w.heap.size, o, none⟩ = #[.bool false, .bool false, .int .i64 0][o]? := cell_of r2
  have hf2 : ∀ o, w2.frozen? ⟨w.heap.size, o, none⟩ = false := frozen_of r2
  have K1 : Hid _ := k1.trans (k2.mono (by simp))
  have H2 : Hid _ := h2
  clear h1 k1 g1 k2 h2
  simp only [Out.val, res]
  go_wp2
  refine bodyPost_ret (v := res false false 0) (by simp [results, Tryz.results36, go_sem, res, cell_of (resLaid r2 false false 0)]) rfl ⟨rfl, ?_, ?_⟩
  · have h3 := H2.out.resLaid r2 false false 0
    exact h3
  · exact ((K1.out.setCell (.inr (by simp)) _).setCell (.inr (by simp)) _).setCell (.inr (by simp)) _
set_option maxRecDepth 100000 in
set_option maxHeartbeats 800000 in
theorem s_8_am {r tb : Nat} {sl : Value} {B : Nat} {m : M} {w : World} (h : RefAt r tb sl B m w) {i : Nat} (hi : i < m.nth) (hk0 : 0 ≤ (m.ths i).key) (hk7 : (m.ths i).key < 8) (hat : (m.ths i).at_ = 8) (he : m.dirty (m.key i) < 0) (ha : m.am = true) :
    Does 36 #[.pointer (some ⟨r, 0, none⟩), .pointer (some ⟨tb, i * 9, none⟩)] r tb sl B ((m.sets i (m.dirty (m.key i))).goes i 12) w := by
  obtain ⟨hs, hf, -, c1, c2, -, c4, c5, -⟩ := h.thCell hi
  obtain ⟨hsr, hfr, -, -, c9, -, crd, -⟩ := h.mapCell
  have hne := h.rne
  have H : Hid _ := h
  have ck := crd (m.ths i).key.toNat (by omega)
  rw [ha] at c9
  rw [hat] at c4
  clear h hat
  generalize (m.ths i).val = y at *
  clear crd
  simp only [M.key] at he ⊢
  generalize m.dirty (m.ths i).key.toNat = x at *
  generalize (m.ths i).key = k at *
  go_enter Tryz.func36, Tryz.ntmps36
  go_wp2_with fail
  have h1 := ((H.out.putE hi x).alloc (.cells #[.bool false, .bool false, .int .i64 0] 52)).alloc (.cells #[Value.int .i64 0, .int .i64 y] 88)
  have g1 := two (size_set w ⟨tb, i * 9 + 5, none⟩ (.int .i64 x)) (.cells #[.bool false, .bool false, .int .i64 0] 52) (.cells #[Value.int .i64 0, .int .i64 y] 88)
  have k1 := (((Kept.refl [r, tb] w).setCell (p := ⟨tb, i * 9 + 5, none⟩) (.inl (by simp)) (.int .i64 x)).alloc (.cells #[.bool false, .bool false, .int .i64 0] 52)).alloc (.cells #[Value.int .i64 0, .int .i64 y] 88)
  refine Calls.mono (does_of (n := 53) (by simp) (m_goes h1 hi 12)) ?_
  rintro e w2 ⟨rfl, h2, k2⟩
  have r2 := k2.at g1 (by simp; omega)
  have hc2 : ∀ o, w2.cell? ⟨w.heap.size, o, none⟩ = #[.bool false, .bool false, .int .i64 0][o]? := cell_of r2
  have hf2 : ∀ o, w2.frozen? ⟨w.heap.size, o, none⟩ = false := frozen_of r2
  have K1 : Hid _ := k1.trans (k2.mono (by simp))
  have H2 : Hid _ := h2
  clear h1 k1 g1 k2 h2
  simp only [Out.val, res]
  go_wp2
  refine bodyPost_ret (v := res false false 0) (by simp [results, Tryz.results36, go_sem, res, cell_of (resLaid r2 false false 0)]) rfl ⟨rfl, ?_, ?_⟩
  · have h3 := H2.out.resLaid r2 false false 0
    exact h3
  · exact ((K1.out.setCell (.inr (by simp)) _).setCell (.inr (by simp)) _).setCell (.inr (by simp)) _
set_option maxRecDepth 100000 in
set_option maxHeartbeats 800000 in
theorem s_8_no {r tb : Nat} {sl : Value} {B : Nat} {m : M} {w : World} (h : RefAt r tb sl B m w) {i : Nat} (hi : i < m.nth) (hk0 : 0 ≤ (m.ths i).key) (hk7 : (m.ths i).key < 8) (hat : (m.ths i).at_ = 8) (he : m.dirty (m.key i) < 0) (ha : m.am = false) :
    Does 36 #[.pointer (some ⟨r, 0, none⟩), .pointer (some ⟨tb, i * 9, none⟩)] r tb sl B ((m.sets i (m.dirty (m.key i))).goes i 9) w := by
  obtain ⟨hs, hf, -, c1, c2, -, c4, c5, -⟩ := h.thCell hi
  obtain ⟨hsr, hfr, -, -, c9, -, crd, -⟩ := h.mapCell
  have hne := h.rne
  have H : Hid _ := h
  have ck := crd (m.ths i).key.toNat (by omega)
  rw [ha] at c9
  rw [hat] at c4
  clear h hat
  generalize (m.ths i).val = y at *
  clear crd
  simp only [M.key] at he ⊢
  generalize m.dirty (m.ths i).key.toNat = x at *
  generalize (m.ths i).key = k at *
  go_enter Tryz.func36, Tryz.ntmps36
  go_wp2_with fail
  have h1 := ((H.out.putE hi x).alloc (.cells #[.bool false, .bool false, .int .i64 0] 52)).alloc (.cells #[Value.int .i64 0, .int .i64 y] 88)
  have g1 := two (size_set w ⟨tb, i * 9 + 5, none⟩ (.int .i64 x)) (.cells #[.bool false, .bool false, .int .i64 0] 52) (.cells #[Value.int .i64 0, .int .i64 y] 88)
  have k1 := (((Kept.refl [r, tb] w).setCell (p := ⟨tb, i * 9 + 5, none⟩) (.inl (by simp)) (.int .i64 x)).alloc (.cells #[.bool false, .bool false, .int .i64 0] 52)).alloc (.cells #[Value.int .i64 0, .int .i64 y] 88)
  refine Calls.mono (does_of (n := 53) (by simp) (m_goes h1 hi 9)) ?_
  rintro e w2 ⟨rfl, h2, k2⟩
  have r2 := k2.at g1 (by simp; omega)
  have hc2 : ∀ o, w2.cell? ⟨w.heap.size, o, none⟩ = #[.bool false, .bool false, .int .i64 0][o]? := cell_of r2
  have hf2 : ∀ o, w2.frozen? ⟨w.heap.size, o, none⟩ = false := frozen_of r2
  have K1 : Hid _ := k1.trans (k2.mono (by simp))
  have H2 : Hid _ := h2
  clear h1 k1 g1 k2 h2
  simp only [Out.val, res]
  go_wp2
  refine bodyPost_ret (v := res false false 0) (by simp [results, Tryz.results36, go_sem, res, cell_of (resLaid r2 false false 0)]) rfl ⟨rfl, ?_, ?_⟩
  · have h3 := H2.out.resLaid r2 false false 0
    exact h3
  · exact ((K1.out.setCell (.inr (by simp)) _).setCell (.inr (by simp)) _).setCell (.inr (by simp)) _
set_option maxRecDepth 100000 in
set_option maxHeartbeats 800000 in
theorem s_11 {r tb : Nat} {sl : Value} {B : Nat} {m : M} {w : World} (h : RefAt r tb sl B m w) {i : Nat} (hi : i < m.nth) (hat : (m.ths i).at_ = 11) :
    Does 36 #[.pointer (some ⟨r, 0, none⟩), .pointer (some ⟨tb, i * 9, none⟩)] r tb sl B ({ m with am := true }.goes i 12) w := by
  obtain ⟨hs, hf, -, c1, c2, -, c4, c5, -⟩ := h.thCell hi
  obtain ⟨hsr, hfr, -, -, c9, -⟩ := h.mapCell
  have hne := h.rne
  have H : Hid _ := h
  rw [hat] at c4
  clear h hat
  generalize (m.ths i).val = y at *
  go_enter Tryz.func36, Tryz.ntmps36
  go_wp2_with fail
  have h1 := ((H.out.setAm true).alloc (.cells #[.bool false, .bool false, .int .i64 0] 52)).alloc (.cells #[Value.int .i64 0, .int .i64 y] 88)
  have g1 := two (size_set w ⟨r, 9, none⟩ (.bool true)) (.cells #[.bool false, .bool false, .int .i64 0] 52) (.cells #[Value.int .i64 0, .int .i64 y] 88)
  have k1 := (((Kept.refl [r, tb] w).setCell (p := ⟨r, 9, none⟩) (.inl (by simp)) (.bool true)).alloc (.cells #[.bool false, .bool false, .int .i64 0] 52)).alloc (.cells #[Value.int .i64 0, .int .i64 y] 88)
  refine Calls.mono (does_of (n := 53) (by simp) (m_goes h1 hi 12)) ?_
  rintro e w2 ⟨rfl, h2, k2⟩
  have r2 := k2.at g1 (by simp; omega)
  have hc2 : ∀ o, w2.cell? ⟨w.heap.size, o, none⟩ = #[.bool false, .bool false, .int .i64 0][o]? := cell_of r2
  have hf2 : ∀ o, w2.frozen? ⟨w.heap.size, o, none⟩ = false := frozen_of r2
  have K1 : Hid _ := k1.trans (k2.mono (by simp))
  have H2 : Hid _ := h2
  clear h1 k1 g1 k2 h2
  simp only [Out.val, res]
  go_wp2
  refine bodyPost_ret (v := res false false 0) (by simp [results, Tryz.results36, go_sem, res, cell_of (resLaid r2 false false 0)]) rfl ⟨rfl, ?_, ?_⟩
  · have h3 := H2.out.resLaid r2 false false 0
    exact h3
  · exact ((K1.out.setCell (.inr (by simp)) _).setCell (.inr (by simp)) _).setCell (.inr (by simp)) _
set_option maxRecDepth 100000 in
set_option maxHeartbeats 800000 in
theorem s_14 {r tb : Nat} {sl : Value} {B : Nat} {m : M} {w : World} (h : RefAt r tb sl B m w) {i : Nat} (hi : i < m.nth) (hat : (m.ths i).at_ = 14) :
    Does 36 #[.pointer (some ⟨r, 0, none⟩), .pointer (some ⟨tb, i * 9, none⟩)] r tb sl B ({ m with hol := -1 }.ends i true (m.ths i).val) w := by
  obtain ⟨hs, hf, -, c1, c2, -, c4, c5, -⟩ := h.thCell hi
  obtain ⟨hsr, hfr, -, -, -, -, -, -, c20, -⟩ := h.mapCell
  have hne := h.rne
  have H : Hid _ := h
  rw [hat] at c4
  clear h hat
  generalize (m.ths i).val = y at *
  go_enter Tryz.func36, Tryz.ntmps36
  go_wp2_with fail
  have h1 := ((H.out.setHol (-1)).alloc (.cells #[.bool false, .bool false, .int .i64 0] 52)).alloc (.cells #[Value.int .i64 0, .int .i64 y] 88)
  have g1 := two (size_set w ⟨r, 20, none⟩ (.int .i64 (-1))) (.cells #[.bool false, .bool false, .int .i64 0] 52) (.cells #[Value.int .i64 0, .int .i64 y] 88)
  have k1 := (((Kept.refl [r, tb] w).setCell (p := ⟨r, 20, none⟩) (.inl (by simp)) (.int .i64 (-1))).alloc (.cells #[.bool false, .bool false, .int .i64 0] 52)).alloc (.cells #[Value.int .i64 0, .int .i64 y] 88)
  refine Calls.mono (does_of (n := 56) (by simp) (m_ends h1 hi true y)) ?_
  rintro e w2 ⟨rfl, h2, k2⟩
  have r2 := k2.at g1 (by simp; omega)
  have hc2 : ∀ o, w2.cell? ⟨w.heap.size, o, none⟩ = #[.bool false, .bool false, .int .i64 0][o]? := cell_of r2
  have hf2 : ∀ o, w2.frozen? ⟨w.heap.size, o, none⟩ = false := frozen_of r2
  have K1 : Hid _ := k1.trans (k2.mono (by simp))
  have H2 : Hid _ := h2
  clear h1 k1 g1 k2 h2
  simp only [Out.val, res]
  go_wp2
  refine bodyPost_ret (v := res true true y) (by simp [results, Tryz.results36, go_sem, res, cell_of (resLaid r2 true true y)]) rfl ⟨rfl, ?_, ?_⟩
  · have h3 := H2.out.resLaid r2 true true y
    exact h3
  · exact ((K1.out.setCell (.inr (by simp)) _).setCell (.inr (by simp)) _).setCell (.inr (by simp)) _
end Go.Proofs.YtfgfpggjcfhccaaGreat
