import Derived.Test.YtmnkphenobfbfaaGreatXj
import Derived.BigQuiet
namespace Go.Proofs.YtmnkphenobfbfaaGreat
open Go.RowKit
theorem two {w1 w : World} (h : w1.heap.size = w.heap.size) (o1 o2 : Obj) : ((w1.alloc o1).alloc o2).heap[w.heap.size]? = some o1 := by
  rw [← h]
  exact block_alloc_lt (block_alloc_new w1 o1) o2
set_option maxRecDepth 100000 in
set_option maxHeartbeats 800000 in
theorem s_1_no {r tb : Nat} {sl : Value} {B : Nat} {m : M} {w : World} (h : RefAt r tb sl B m w) {i : Nat} (hi : i < m.nth) (hk0 : 0 ≤ (m.ths i).key) (hk7 : (m.ths i).key < 8) (hat : (m.ths i).at_ = 1) (he : m.read (m.key i) < 0) :
    Does 37 #[.pointer (some ⟨r, 0, none⟩), .pointer (some ⟨tb, i * 9, none⟩)] r tb sl B ((m.sets i (m.read (m.key i))).goes i 4) w := by
  obtain ⟨hs, hf, -, c1, c2, -, c4, c5, -⟩ := h.thCell hi
  obtain ⟨hsr, hfr, -, crd, -⟩ := h.mapCell
  have hne := h.rne
  have H : Hid _ := h
  have ck := crd (m.ths i).key.toNat (by omega)
  rw [hat] at c4
  clear h hat
  generalize (m.ths i).val = y at *
  clear crd
  simp only [M.key] at he ⊢
  generalize m.read (m.ths i).key.toNat = x at *
  generalize (m.ths i).key = k at *
  go_enter Tryz.func37, Tryz.ntmps37
  go_wp2_with fail
  have h1 := ((H.out.putE hi x).alloc (.cells #[.bool false, .bool false, .int .i64 0] 52)).alloc (.cells #[Value.int .i64 0, .int .i64 y] 88)
  have g1 := two (size_set w ⟨tb, i * 9 + 5, none⟩ (.int .i64 x)) (.cells #[.bool false, .bool false, .int .i64 0] 52) (.cells #[Value.int .i64 0, .int .i64 y] 88)
  have k1 := (((Kept.refl [r, tb] w).setCell (p := ⟨tb, i * 9 + 5, none⟩) (.inl (by simp)) (.int .i64 x)).alloc (.cells #[.bool false, .bool false, .int .i64 0] 52)).alloc (.cells #[Value.int .i64 0, .int .i64 y] 88)
  refine Calls.mono (does_of (n := 54) (by simp) (m_goes h1 hi 4)) ?_
  rintro e w2 ⟨rfl, h2, k2⟩
  have r2 := k2.at g1 (by simp; omega)
  have hc2 : ∀ o, w2.cell? ⟨w.heap.size, o, none⟩ = #[.bool false, .bool false, .int .i64 0][o]? := cell_of r2
  have hf2 : ∀ o, w2.frozen? ⟨w.heap.size, o, none⟩ = false := frozen_of r2
  have K1 : Hid _ := k1.trans (k2.mono (by simp))
  have H2 : Hid _ := h2
  clear h1 k1 g1 k2 h2
  simp only [Out.val, res]
  go_wp2
  refine bodyPost_ret (v := res false false 0) (by simp [results, Tryz.results37, go_sem, res, cell_of (resLaid r2 false false 0)]) rfl ⟨rfl, ?_, ?_⟩
  · have h3 := H2.out.resLaid r2 false false 0
    exact h3
  · exact ((K1.out.setCell (.inr (by simp)) _).setCell (.inr (by simp)) _).setCell (.inr (by simp)) _
set_option maxRecDepth 100000 in
set_option maxHeartbeats 800000 in
theorem s_1_in {r tb : Nat} {sl : Value} {B : Nat} {m : M} {w : World} (h : RefAt r tb sl B m w) {i : Nat} (hi : i < m.nth) (hk0 : 0 ≤ (m.ths i).key) (hk7 : (m.ths i).key < 8) (hat : (m.ths i).at_ = 1) (he : 0 ≤ m.read (m.key i)) :
    Does 37 #[.pointer (some ⟨r, 0, none⟩), .pointer (some ⟨tb, i * 9, none⟩)] r tb sl B ((m.sets i (m.read (m.key i))).goes i 2) w := by
  obtain ⟨hs, hf, -, c1, c2, -, c4, c5, -⟩ := h.thCell hi
  obtain ⟨hsr, hfr, -, crd, -⟩ := h.mapCell
  have hne := h.rne
  have H : Hid _ := h
  have ck := crd (m.ths i).key.toNat (by omega)
  rw [hat] at c4
  clear h hat
  generalize (m.ths i).val = y at *
  clear crd
  simp only [M.key] at he ⊢
  generalize m.read (m.ths i).key.toNat = x at *
  generalize (m.ths i).key = k at *
  go_enter Tryz.func37, Tryz.ntmps37
  go_wp2_with fail
  have h1 := ((H.out.putE hi x).alloc (.cells #[.bool false, .bool false, .int .i64 0] 52)).alloc (.cells #[Value.int .i64 0, .int .i64 y] 88)
  have g1 := two (size_set w ⟨tb, i * 9 + 5, none⟩ (.int .i64 x)) (.cells #[.bool false, .bool false, .int .i64 0] 52) (.cells #[Value.int .i64 0, .int .i64 y] 88)
  have k1 := (((Kept.refl [r, tb] w).setCell (p := ⟨tb, i * 9 + 5, none⟩) (.inl (by simp)) (.int .i64 x)).alloc (.cells #[.bool false, .bool false, .int .i64 0] 52)).alloc (.cells #[Value.int .i64 0, .int .i64 y] 88)
  refine Calls.mono (does_of (n := 54) (by simp) (m_goes h1 hi 2)) ?_
  rintro e w2 ⟨rfl, h2, k2⟩
  have r2 := k2.at g1 (by simp; omega)
  have hc2 : ∀ o, w2.cell? ⟨w.heap.size, o, none⟩ = #[.bool false, .bool false, .int .i64 0][o]? := cell_of r2
  have hf2 : ∀ o, w2.frozen? ⟨w.heap.size, o, none⟩ = false := frozen_of r2
  have K1 : Hid _ := k1.trans (k2.mono (by simp))
  have H2 : Hid _ := h2
  clear h1 k1 g1 k2 h2
  simp only [Out.val, res]
  go_wp2
  refine bodyPost_ret (v := res false false 0) (by simp [results, Tryz.results37, go_sem, res, cell_of (resLaid r2 false false 0)]) rfl ⟨rfl, ?_, ?_⟩
  · have h3 := H2.out.resLaid r2 false false 0
    exact h3
  · exact ((K1.out.setCell (.inr (by simp)) _).setCell (.inr (by simp)) _).setCell (.inr (by simp)) _
set_option maxRecDepth 100000 in
set_option maxHeartbeats 800000 in
theorem s_5_no {r tb : Nat} {sl : Value} {B : Nat} {m : M} {w : World} (h : RefAt r tb sl B m w) {i : Nat} (hi : i < m.nth) (hk0 : 0 ≤ (m.ths i).key) (hk7 : (m.ths i).key < 8) (hat : (m.ths i).at_ = 5) (he : m.read (m.key i) < 0) :
    Does 37 #[.pointer (some ⟨r, 0, none⟩), .pointer (some ⟨tb, i * 9, none⟩)] r tb sl B ((m.sets i (m.read (m.key i))).goes i 8) w := by
  obtain ⟨hs, hf, -, c1, c2, -, c4, c5, -⟩ := h.thCell hi
  obtain ⟨hsr, hfr, -, crd, -⟩ := h.mapCell
  have hne := h.rne
  have H : Hid _ := h
  have ck := crd (m.ths i).key.toNat (by omega)
  rw [hat] at c4
  clear h hat
  generalize (m.ths i).val = y at *
  clear crd
  simp only [M.key] at he ⊢
  generalize m.read (m.ths i).key.toNat = x at *
  generalize (m.ths i).key = k at *
  go_enter Tryz.func37, Tryz.ntmps37
  go_wp2_with fail
  have h1 := ((H.out.putE hi x).alloc (.cells #[.bool false, .bool false, .int .i64 0] 52)).alloc (.cells #[Value.int .i64 0, .int .i64 y] 88)
  have g1 := two (size_set w ⟨tb, i * 9 + 5, none⟩ (.int .i64 x)) (.cells #[.bool false, .bool false, .int .i64 0] 52) (.cells #[Value.int .i64 0, .int .i64 y] 88)
  have k1 := (((Kept.refl [r, tb] w).setCell (p := ⟨tb, i * 9 + 5, none⟩) (.inl (by simp)) (.int .i64 x)).alloc (.cells #[.bool false, .bool false, .int .i64 0] 52)).alloc (.cells #[Value.int .i64 0, .int .i64 y] 88)
  refine Calls.mono (does_of (n := 54) (by simp) (m_goes h1 hi 8)) ?_
  rintro e w2 ⟨rfl, h2, k2⟩
  have r2 := k2.at g1 (by simp; omega)
  have hc2 : ∀ o, w2.cell? ⟨w.heap.size, o, none⟩ = #[.bool false, .bool false, .int .i64 0][o]? := cell_of r2
  have hf2 : ∀ o, w2.frozen? ⟨w.heap.size, o, none⟩ = false := frozen_of r2
  have K1 : Hid _ := k1.trans (k2.mono (by simp))
  have H2 : Hid _ := h2
  clear h1 k1 g1 k2 h2
  simp only [Out.val, res]
  go_wp2
  refine bodyPost_ret (v := res false false 0) (by simp [results, Tryz.results37, go_sem, res, cell_of (resLaid r2 false false 0)]) rfl ⟨rfl, ?_, ?_⟩
  · have h3 := H2.out.resLaid r2 false false 0
    exact h3
  · exact ((K1.out.setCell (.inr (by simp)) _).setCell (.inr (by simp)) _).setCell (.inr (by simp)) _
set_option maxRecDepth 100000 in
set_option maxHeartbeats 800000 in
theorem s_5_in {r tb : Nat} {sl : Value} {B : Nat} {m : M} {w : World} (h : RefAt r tb sl B m w) {i : Nat} (hi : i < m.nth) (hk0 : 0 ≤ (m.ths i).key) (hk7 : (m.ths i).key < 8) (hat : (m.ths i).at_ = 5) (he : 0 ≤ m.read (m.key i)) :
    Does 37 #[.pointer (some ⟨r, 0, none⟩), .pointer (some ⟨tb, i * 9, none⟩)] r tb sl B ((m.sets i (m.read (m.key i))).goes i 6) w := by
  obtain ⟨hs, hf, -, c1, c2, -, c4, c5, -⟩ := h.thCell hi
  obtain ⟨hsr, hfr, -, crd, -⟩ := h.mapCell
  have hne := h.rne
  have H : Hid _ := h
  have ck := crd (m.ths i).key.toNat (by omega)
  rw [hat] at c4
  clear h hat
  generalize (m.ths i).val = y at *
  clear crd
  simp only [M.key] at he ⊢
  generalize m.read (m.ths i).key.toNat = x at *
  generalize (m.ths i).key = k at *
  go_enter Tryz.func37, Tryz.ntmps37
  go_wp2_with fail
  have h1 := ((H.out.putE hi x).alloc (.cells #[.bool false, .bool false, .int .i64 0] 52)).alloc (.cells #[Value.int .i64 0, .int .i64 y] 88)
  have g1 := two (size_set w ⟨tb, i * 9 + 5, none⟩ (.int .i64 x)) (.cells #[.bool false, .bool false, .int .i64 0] 52) (.cells #[Value.int .i64 0, .int .i64 y] 88)
  have k1 := (((Kept.refl [r, tb] w).setCell (p := ⟨tb, i * 9 + 5, none⟩) (.inl (by simp)) (.int .i64 x)).alloc (.cells #[.bool false, .bool false, .int .i64 0] 52)).alloc (.cells #[Value.int .i64 0, .int .i64 y] 88)
  refine Calls.mono (does_of (n := 54) (by simp) (m_goes h1 hi 6)) ?_
  rintro e w2 ⟨rfl, h2, k2⟩
  have r2 := k2.at g1 (by simp; omega)
  have hc2 : ∀ o, w2.cell? ⟨w.heap.size, o, none⟩ = #[.bool false, .bool false, .int .i64 0][o]? := cell_of r2
  have hf2 : ∀ o, w2.frozen? ⟨w.heap.size, o, none⟩ = false := frozen_of r2
  have K1 : Hid _ := k1.trans (k2.mono (by simp))
  have H2 : Hid _ := h2
  clear h1 k1 g1 k2 h2
  simp only [Out.val, res]
  go_wp2
  refine bodyPost_ret (v := res false false 0) (by simp [results, Tryz.results37, go_sem, res, cell_of (resLaid r2 false false 0)]) rfl ⟨rfl, ?_, ?_⟩
  · have h3 := H2.out.resLaid r2 false false 0
    exact h3
  · exact ((K1.out.setCell (.inr (by simp)) _).setCell (.inr (by simp)) _).setCell (.inr (by simp)) _
set_option maxRecDepth 100000 in
set_option maxHeartbeats 800000 in
theorem s_8_in {r tb : Nat} {sl : Value} {B : Nat} {m : M} {w : World} (h : RefAt r tb sl B m w) {i : Nat} (hi : i < m.nth) (hk0 : 0 ≤ (m.ths i).key) (hk7 : (m.ths i).key < 8) (hat : (m.ths i).at_ = 8) (he : 0 ≤ m.dirty (m.key i)) :
    Does 37 #[.pointer (some ⟨r, 0, none⟩), .pointer (some ⟨tb, i * 9, none⟩)] r tb sl B ((m.sets i (m.dirty (m.key i))).goes i 13) w := by
  obtain ⟨hs, hf, -, c1, c2, -, c4, c5, -⟩ := h.thCell hi
  obtain ⟨hsr, hfr, -, -, c9, -, crd, -⟩ := h.mapCell
  have hne := h.rne
  have H : Hid _ := h
  have ck := crd (m.ths i).key.toNat (by omega)
  rw [hat] at c4
  clear h hat
  generalize (m.ths i).val = y at *
  clear crd
  simp only [M.key] at he ⊢
  generalize m.dirty (m.ths i).key.toNat = x at *
  generalize (m.ths i).key = k at *
  go_enter Tryz.func37, Tryz.ntmps37
  go_wp2_with fail
  have h1 := ((H.out.putE hi x).alloc (.cells #[.bool false, .bool false, .int .i64 0] 52)).alloc (.cells #[Value.int .i64 0, .int .i64 y] 88)
  have g1 := two (size_set w ⟨tb, i * 9 + 5, none⟩ (.int .i64 x)) (.cells #[.bool false, .bool false, .int .i64 0] 52) (.cells #[Value.int .i64 0, .int .i64 y] 88)
  have k1 := (((Kept.refl [r, tb] w).setCell (p := ⟨tb, i * 9 + 5, none⟩) (.inl (by simp)) (.int .i64 x)).alloc (.cells #[.bool false, .bool false, .int .i64 0] 52)).alloc (.cells #[Value.int .i64 0, .int .i64 y] 88)
  refine Calls.mono (does_of (n := 54) (by simp) (m_goes h1 hi 13)) ?_
  rintro e w2 ⟨rfl, h2, k2⟩
  have r2 := k2.at g1 (by simp; omega)
  have hc2 : ∀ o, w2.cell? ⟨w.heap.size, o, none⟩ = #[.bool false, .bool false, .int .i64 0][o]? := cell_of r2
  have hf2 : ∀ o, w2.frozen? ⟨w.heap.size, o, none⟩ = false := frozen_of r2
  have K1 : Hid _ := k1.trans (k2.mono (by simp))
  have H2 : Hid _ := h2
  clear h1 k1 g1 k2 h2
  simp only [Out.val, res]
  go_wp2
  refine bodyPost_ret (v := res false false 0) (by simp [results, Tryz.results37, go_sem, res, cell_of (resLaid r2 false false 0)]) rfl ⟨rfl, ?_, ?_⟩
  · have h3 := H2.out.resLaid r2 false false 0
    exact h3
  · exact ((K1.out.setCell (.inr (by simp)) _).setCell (.inr (by simp)) _).setCell (.inr (by simp)) _
set_option maxRecDepth 100000 in
set_option maxHeartbeats 800000 in
theorem s_8_am {r tb : Nat} {sl : Value} {B : Nat} {m : M} {w : World} (h : RefAt r tb sl B m w) {i : Nat} (hi : i < m.nth) (hk0 : 0 ≤ (m.ths i).key) (hk7 : (m.ths i).key < 8) (hat : (m.ths i).at_ = 8) (he : m.dirty (m.key i) < 0) (ha : m.am = true) :
    Does 37 #[.pointer (some ⟨r, 0, none⟩), .pointer (some ⟨tb, i * 9, none⟩)] r tb sl B ((m.sets i (m.dirty (m.key i))).goes i 12) w := by
  obtain ⟨hs, hf, -, c1, c2, -, c4, c5, -⟩ := h.thCell hi
  obtain ⟨hsr, hfr, -, -, c9, -, crd, -⟩ := h.mapCell
  have hne := h.rne
  have H : Hid _ := h
  have ck := crd (m.ths i).key.toNat (by omega)
  rw [ha] at c9
  rw [hat] at c4
  clear h hat
  generalize (m.ths i).val = y at *
  clear crd
  simp only [M.key] at he ⊢
  generalize m.dirty (m.ths i).key.toNat = x at *
  generalize (m.ths i).key = k at *
  go_enter Tryz.func37, Tryz.ntmps37
  go_wp2_with fail
  have h1 := ((H.out.putE hi x).alloc (.cells #[.bool false, .bool false, .int .i64 0] 52)).alloc (.cells #[Value.int .i64 0, .int .i64 y] 88)
  have g1 := two (size_set w ⟨tb, i * 9 + 5, none⟩ (.int .i64 x)) (.cells #[.bool false, .bool false, .int .i64 0] 52) (.cells #[Value.int .i64 0, .int .i64 y] 88)
  have k1 := (((Kept.refl [r, tb] w).setCell (p := ⟨tb, i * 9 + 5, none⟩) (.inl (by simp)) (.int .i64 x)).alloc (.cells #[.bool false, .bool false, .int .i64 0] 52)).alloc (.cells #[Value.int .i64 0, .int .i64 y] 88)
  refine Calls.mono (does_of (n := 54) (by simp) (m_goes h1 hi 12)) ?_
  rintro e w2 ⟨rfl, h2, k2⟩
  have r2 := k2.at g1 (by simp; omega)
  have hc2 : ∀ o, w2.cell? ⟨w.heap.size, o, none⟩ = #[.bool false, .bool false, .int .i64 0][o]? := cell_of r2
  have hf2 : ∀ o, w2.frozen? ⟨w.heap.size, o, none⟩ = false := frozen_of r2
  have K1 : Hid _ := k1.trans (k2.mono (by simp))
  have H2 : Hid _ := h2
  clear h1 k1 g1 k2 h2
  simp only [Out.val, res]
  go_wp2
  refine bodyPost_ret (v := res false false 0) (by simp [results, Tryz.results37, go_sem, res, cell_of (resLaid r2 false false 0)]) rfl ⟨rfl, ?_, ?_⟩
  · have h3 := H2.out.resLaid r2 false false 0
    exact h3
  · exact ((K1.out.setCell (.inr (by simp)) _).setCell (.inr (by simp)) _).setCell (.inr (by simp)) _
set_option maxRecDepth 100000 in
set_option maxHeartbeats 800000 in
theorem s_8_no {r tb : Nat} {sl : Value} {B : Nat} {m : M} {w : World} (h : RefAt r tb sl B m w) {i : Nat} (hi : i < m.nth) (hk0 : 0 ≤ (m.ths i).key) (hk7 : (m.ths i).key < 8) (hat : (m.ths i).at_ = 8) (he : m.dirty (m.key i) < 0) (ha : m.am = false) :
    Does 37 #[.pointer (some ⟨r, 0, none⟩), .pointer (some ⟨tb, i * 9, none⟩)] r tb sl B ((m.sets i (m.dirty (m.key i))).goes i 9) w := by
  obtain ⟨hs, hf, -, c1, c2, -, c4, c5, -⟩ := h.thCell hi
  obtain ⟨hsr, hfr, -, -, c9, -, crd, -⟩ := h.mapCell
  have hne := h.rne
  have H : Hid _ := h
  have ck := crd (m.ths i).key.toNat (by omega)
  rw [ha] at c9
  rw [hat] at c4
  clear h hat
  generalize (m.ths i).val = y at *
  clear crd
  simp only [M.key] at he ⊢
  generalize m.dirty (m.ths i).key.toNat = x at *
  generalize (m.ths i).key = k at *
  go_enter Tryz.func37, Tryz.ntmps37
  go_wp2_with fail
  have h1 := ((H.out.putE hi x).alloc (.cells #[.bool false, .bool false, .int .i64 0] 52)).alloc (.cells #[Value.int .i64 0, .int .i64 y] 88)
  have g1 := two (size_set w ⟨tb, i * 9 + 5, none⟩ (.int .i64 x)) (.cells #[.bool false, .bool false, .int .i64 0] 52) (.cells #[Value.int .i64 0, .int .i64 y] 88)
  have k1 := (((Kept.refl [r, tb] w).setCell (p := ⟨tb, i * 9 + 5, none⟩) (.inl (by simp)) (.int .i64 x)).alloc (.cells #[.bool false, .bool false, .int .i64 0] 52)).alloc (.cells #[Value.int .i64 0, .int .i64 y] 88)
  refine Calls.mono (does_of (n := 54) (by simp) (m_goes h1 hi 9)) ?_
  rintro e w2 ⟨rfl, h2, k2⟩
  have r2 := k2.at g1 (by simp; omega)
  have hc2 : ∀ o, w2.cell? ⟨w.heap.size, o, none⟩ = #[.bool false, .bool false, .int .i64 0][o]? := cell_of r2
  have hf2 : ∀ o, w2.frozen? ⟨w.heap.size, o, none⟩ = false := frozen_of r2
  have K1 : Hid _ := k1.trans (k2.mono (by simp))
  have H2 : Hid _ := h2
  clear h1 k1 g1 k2 h2
  simp only [Out.val, res]
  go_wp2
  refine bodyPost_ret (v := res false false 0) (by simp [results, Tryz.results37, go_sem, res, cell_of (resLaid r2 false false 0)]) rfl ⟨rfl, ?_, ?_⟩
  · have h3 := H2.out.resLaid r2 false false 0
    exact h3
  · exact ((K1.out.setCell (.inr (by simp)) _).setCell (.inr (by simp)) _).setCell (.inr (by simp)) _
set_option maxRecDepth 100000 in
set_option maxHeartbeats 800000 in
theorem s_11 {r tb : Nat} {sl : Value} {B : Nat} {m : M} {w : World} (h : RefAt r tb sl B m w) {i : Nat} (hi : i < m.nth) (hat : (m.ths i).at_ = 11) :
    Does 37 #[.pointer (some ⟨r, 0, none⟩), .pointer (some ⟨tb, i * 9, none⟩)] r tb sl B ({ m with am := true }.goes i 12) w := by
  obtain ⟨hs, hf, -, c1, c2, -, c4, c5, -⟩ := h.thCell hi
  obtain ⟨hsr, hfr, -, -, c9, -⟩ := h.mapCell
  have hne := h.rne
  have H : Hid _ := h
  rw [hat] at c4
  clear h hat
  generalize (m.ths i).val = y at *
  go_enter Tryz.func37, Tryz.ntmps37
  go_wp2_with fail
  have h1 := ((H.out.setAm true).alloc (.cells #[.bool false, .bool false, .int .i64 0] 52)).alloc (.cells #[Value.int .i64 0, .int .i64 y] 88)
  have g1 := two (size_set w ⟨r, 9, none⟩ (.bool true)) (.cells #[.bool false, .bool false, .int .i64 0] 52) (.cells #[Value.int .i64 0, .int .i64 y] 88)
  have k1 := (((Kept.refl [r, tb] w).setCell (p := ⟨r, 9, none⟩) (.inl (by simp)) (.bool true)).alloc (.cells #[.bool false, .bool false, .int .i64 0] 52)).alloc (.cells #[Value.int .i64 0, .int .i64 y] 88)
  refine Calls.mono (does_of (n := 54) (by simp) (m_goes h1 hi 12)) ?_
  rintro e w2 ⟨rfl, h2, k2⟩
  have r2 := k2.at g1 (by simp; omega)
  have hc2 : ∀ o, w2.cell? ⟨w.heap.size, o, none⟩ = #[.bool false, .bool false, .int .i64 0][o]? := cell_of r2
  have hf2 : ∀ o, w2.frozen? ⟨w.heap.size, o, none⟩ = false := frozen_of r2
  have K1 : Hid _ := k1.trans (k2.mono (by simp))
  have H2 : Hid _ := h2
  clear h1 k1 g1 k2 h2
  simp only [Out.val, res]
  go_wp2
  refine bodyPost_ret (v := res false false 0) (by simp [results, Tryz.results37, go_sem, res, cell_of (resLaid r2 false false 0)]) rfl ⟨rfl, ?_, ?_⟩
  · have h3 := H2.out.resLaid r2 false false 0
    exact h3
  · exact ((K1.out.setCell (.inr (by simp)) _).setCell (.inr (by simp)) _).setCell (.inr (by simp)) _
set_option maxRecDepth 100000 in
set_option maxHeartbeats 800000 in
theorem s_14 {r tb : Nat} {sl : Value} {B : Nat} {m : M} {w : World} (h : RefAt r tb sl B m w) {i : Nat} (hi : i < m.nth) (hat : (m.ths i).at_ = 14) :
    Does 37 #[.pointer (some ⟨r, 0, none⟩), .pointer (some ⟨tb, i * 9, none⟩)] r tb sl B ({ m with hol := -1 }.ends i true (m.ths i).val) w := by
  obtain ⟨hs, hf, -, c1, c2, -, c4, c5, -⟩ := h.thCell hi
  obtain ⟨hsr, hfr, -, -, -, -, -, -, c20, -⟩ := h.mapCell
  have hne := h.rne
  have H : Hid _ := h
  rw [hat] at c4
  clear h hat
  generalize (m.ths i).val = y at *
  go_enter Tryz.func37, Tryz.ntmps37
  go_wp2_with fail
  have h1 := ((H.out.setHol (-1)).alloc (.cells #[.bool false, .bool false, .int .i64 0] 52)).alloc (.cells #[Value.int .i64 0, .int .i64 y] 88)
  have g1 := two (size_set w ⟨r, 20, none⟩ (.int .i64 (-1))) (.cells #[.bool false, .bool false, .int .i64 0] 52) (.cells #[Value.int .i64 0, .int .i64 y] 88)
  have k1 := (((Kept.refl [r, tb] w).setCell (p := ⟨r, 20, none⟩) (.inl (by simp)) (.int .i64 (-1))).alloc (.cells #[.bool false, .bool false, .int .i64 0] 52)).alloc (.cells #[Value.int .i64 0, .int .i64 y] 88)
  refine Calls.mono (does_of (n := 57) (by simp) (m_ends h1 hi true y)) ?_
  rintro e w2 ⟨rfl, h2, k2⟩
  have r2 := k2.at g1 (by simp; omega)
  have hc2 : ∀ o, w2.cell? ⟨w.heap.size, o, none⟩ = #[.bool false, .bool false, .int .i64 0][o]? := cell_of r2
  have hf2 : ∀ o, w2.frozen? ⟨w.heap.size, o, none⟩ = false := frozen_of r2
  have K1 : Hid _ := k1.trans (k2.mono (by simp))
  have H2 : Hid _ := h2
  clear h1 k1 g1 k2 h2
  simp only [Out.val, res]
  go_wp2
  refine bodyPost_ret (v := res true true y) (by simp [results, Tryz.results37, go_sem, res, cell_of (resLaid r2 true true y)]) rfl ⟨rfl, ?_, ?_⟩
  · have h3 := H2.out.resLaid r2 true true y
    exact h3
  · exact ((K1.out.setCell (.inr (by simp)) _).setCell (.inr (by simp)) _).setCell (.inr (by simp)) _
end Go.Proofs.YtmnkphenobfbfaaGreat
namespace Go.Proofs.YtmnkphenobfbfaaGreat
open Go.RowKit
/-- A row is the entries' list if it has their cells. -/
theorem cellList_eq (c : Nat → Cel) (n : Nat) (l : List Value) (hl : l.length = n * 2) (h : ∀ a, a < n → l[a * 2]? = some (.int .i64 (c a).st) ∧ l[a * 2 + 1]? = some (.int .i64 (c a).v)) : l = cellList c n := by
  apply List.ext_getElem?
  intro q
  by_cases hq : q < n * 2
  · have ha : q / 2 < n := by omega
    have h1 := h (q / 2) ha
    have h2 := cellList_at c ha
    rcases (by omega : q = q / 2 * 2 ∨ q = q / 2 * 2 + 1) with e | e
    · rw [e, h1.1, h2.1]
    · rw [e, h1.2, h2.2]
  · rw [List.getElem?_eq_none (by omega), List.getElem?_eq_none (by rw [cellList_length]; omega)]
theorem cur_at {cur : Array Value} {c : Nat → Cel} {n : Nat} (h : cur.toList.take (n * 2) = cellList c n) {a : Nat} (ha : a < n) : cur[a * 2]? = some (.int .i64 (c a).st) ∧ cur[a * 2 + 1]? = some (.int .i64 (c a).v) := by
  have hc := cellList_at c ha
  constructor
  · rw [← Array.getElem?_toList, ← hc.1, ← h, List.getElem?_take, if_pos (by omega)]
  · rw [← Array.getElem?_toList, ← hc.2, ← h, List.getElem?_take, if_pos (by omega)]
/-- One entry is set. -/
theorem RefAt.setEntry {r tb : Nat} {sl : Value} {B : Nat} {m : M} {w : World} (h : RefAt r tb sl B m w) {g cap : Nat} (hsl : sl = .slice (some ⟨g, 0, none⟩) m.nc cap) {j : Nat} (hj : j < m.nc) (x y : Int) :
    RefAt r tb sl B { m with cells := put m.cells j ⟨x, y⟩ } ((w.setCell ⟨g, j * 2, none⟩ (.int .i64 x)).setCell ⟨g, j * 2 + 1, none⟩ (.int .i64 y)) := by
  have hn := h.own_ne (g := g) (by rw [hsl]; rfl)
  obtain ⟨cs, a1, a2⟩ := h.own
  obtain ⟨ct, b1, b2⟩ := h.ths
  refine ⟨h.nth, ⟨cs, block_set_ne (block_set_ne a1 (Ne.symm hn.1) _ _) (Ne.symm hn.1) _ _, ⟨a2.size, a2.c0, a2.rd, a2.am, a2.hd, a2.dt, a2.mis, a2.hol, a2.cl, a2.th⟩⟩, ⟨ct, block_set_ne (block_set_ne b1 (Ne.symm hn.2) _ _) (Ne.symm hn.2) _ _, b2⟩, ⟨cellList_length _ _, ?_⟩⟩
  rcases h.row.2 with ⟨_, h0⟩ | ⟨g', cap', cur, e1, e2, e3, e4, e5, e6, e7⟩
  · omega
  · rw [hsl] at e1
    injection e1 with e1 _ e1'
    injection e1 with e1
    injection e1 with e1
    subst e1 e1'
    refine .inr ⟨g, cap, _, hsl, e2, block_set_same (block_set_same e3 _ _) _ _, e4, e5, by simpa using e6, ?_⟩
    refine cellList_eq _ _ _ (by simp; omega) fun a ha => ?_
    have hc := cur_at e7 ha
    show _ = some (Value.int .i64 (put m.cells j ⟨x, y⟩ a).st) ∧ _ = some (Value.int .i64 (put m.cells j ⟨x, y⟩ a).v)
    rw [List.getElem?_take, if_pos (by omega), List.getElem?_take, if_pos (by omega), Array.getElem?_toList, Array.getElem?_toList]
    by_cases haj : a = j
    · subst haj
      rw [put_same]
      constructor
      · rw [Array.getElem?_setIfInBounds_ne (by omega), Array.getElem?_setIfInBounds_self_of_lt (by omega)]
      · rw [Array.getElem?_setIfInBounds_self_of_lt (by simp; omega)]
    · rw [put_other _ _ haj]
      constructor
      · rw [Array.getElem?_setIfInBounds_ne (by omega), Array.getElem?_setIfInBounds_ne (by omega)]; exact hc.1
      · rw [Array.getElem?_setIfInBounds_ne (by omega), Array.getElem?_setIfInBounds_ne (by omega)]; exact hc.2
end Go.Proofs.YtmnkphenobfbfaaGreat
namespace Go.Proofs.YtmnkphenobfbfaaGreat
open Go.RowKit
theorem twoD {w1 w : World} (h : w1.heap.size = w.heap.size) (o1 o2 : Obj) : ((w1.alloc o1).alloc o2).drew.heap[w.heap.size]? = some o1 := two h o1 o2
theorem RefAt.putSeen {r tb : Nat} {sl : Value} {B : Nat} {m : M} {w : World} (h : RefAt r tb sl B m w) {i : Nat} (hi : i < m.nth) (x y : Int) :
    RefAt r tb sl B (m.sees i x y) ((w.setCell ⟨tb, i * 9 + 6, none⟩ (.int .i64 x)).setCell ⟨tb, i * 9 + 6 + 1, none⟩ (.int .i64 y)) := by
  have h2 := (h.putSst hi x).putSv hi y
  simp only [put_put, put_same] at h2
  exact h2
set_option maxRecDepth 100000 in
set_option maxHeartbeats 800000 in
theorem s_2_out {r tb : Nat} {sl : Value} {B : Nat} {m : M} {w : World} (h : RefAt r tb sl B m w) {i : Nat} (hi : i < m.nth) (he0 : 0 ≤ (m.ths i).e) (hen : (m.ths i).e.toNat < m.nc) (hat : (m.ths i).at_ = 2) (hx : (m.cells (m.ths i).e.toNat).st = 2) :
    Does 37 #[.pointer (some ⟨r, 0, none⟩), .pointer (some ⟨tb, i * 9, none⟩)] r tb sl B ((m.sees i (m.cells (m.ths i).e.toNat).st (m.cells (m.ths i).e.toNat).v).goes i 4) w := by
  obtain ⟨hs, hf, -, c1, c2, -, c4, c5, c6, c7, -⟩ := h.thCell hi
  obtain ⟨hsr, hfr, c0, -⟩ := h.mapCell
  have hne := h.rne
  have H : Hid _ := h
  obtain ⟨g, cap, hsl, hg, hgr, hgt, hfg, q0, q1⟩ := h.entry hen
  rw [hsl] at c0
  have hin : (m.ths i).e < (m.nc : Int) := by omega
  rw [hat] at c4
  clear h hat
  generalize (m.ths i).val = y at *
  clear hsl
  generalize (m.cells (m.ths i).e.toNat).st = x at *
  generalize (m.cells (m.ths i).e.toNat).v = v at *
  generalize (m.ths i).key = k at *
  generalize (m.ths i).e = z at *
  generalize (m.ths i).sst = z1 at *
  generalize (m.ths i).sv = z2 at *
  go_enter Tryz.func37, Tryz.ntmps37
  go_wp2_with fail
  go_region
  go_wp2_with fail
  have h1 := (((H.out.putSeen hi 2 v).alloc (.cells #[.bool false, .bool false, .int .i64 0] 52)).alloc (.cells #[Value.int .i64 0, .int .i64 y] 88)).drew
  have g1 := twoD (w := w) (w1 := (w.setCell ⟨tb, i * 9 + 6, none⟩ (.int .i64 2)).setCell ⟨tb, i * 9 + 6 + 1, none⟩ (.int .i64 v)) (by simp only [size_set]) (.cells #[.bool false, .bool false, .int .i64 0] 52) (.cells #[Value.int .i64 0, .int .i64 y] 88)
  have k1 := (((((Kept.refl [r, tb] w).setCell (p := ⟨tb, i * 9 + 6, none⟩) (.inl (by simp)) (.int .i64 2)).setCell (p := ⟨tb, i * 9 + 6 + 1, none⟩) (.inl (by simp)) (.int .i64 v)).alloc (.cells #[.bool false, .bool false, .int .i64 0] 52)).alloc (.cells #[Value.int .i64 0, .int .i64 y] 88)).drew
  refine Calls.mono (does_of (n := 54) (by simp) (m_goes h1 hi 4)) ?_
  rintro e w2 ⟨rfl, h2, k2⟩
  have r2 := k2.at g1 (by simp; omega)
  have hc2 : ∀ o, w2.cell? ⟨w.heap.size, o, none⟩ = #[.bool false, .bool false, .int .i64 0][o]? := cell_of r2
  have hf2 : ∀ o, w2.frozen? ⟨w.heap.size, o, none⟩ = false := frozen_of r2
  have K1 : Hid _ := k1.trans (k2.mono (by simp))
  have H2 : Hid _ := h2
  clear h1 k1 g1 k2 h2
  simp only [Out.val, res]
  go_wp2
  refine bodyPost_ret (v := res false false 0) (by simp [results, Tryz.results37, go_sem, res, cell_of (resLaid r2 false false 0)]) rfl ⟨rfl, ?_, ?_⟩
  · have h3 := H2.out.resLaid r2 false false 0
    exact h3
  · exact ((K1.out.setCell (.inr (by simp)) _).setCell (.inr (by simp)) _).setCell (.inr (by simp)) _
set_option maxRecDepth 100000 in
set_option maxHeartbeats 800000 in
theorem s_2_on {r tb : Nat} {sl : Value} {B : Nat} {m : M} {w : World} (h : RefAt r tb sl B m w) {i : Nat} (hi : i < m.nth) (he0 : 0 ≤ (m.ths i).e) (hen : (m.ths i).e.toNat < m.nc) (hat : (m.ths i).at_ = 2) (hx : ¬ (m.cells (m.ths i).e.toNat).st = 2) :
    Does 37 #[.pointer (some ⟨r, 0, none⟩), .pointer (some ⟨tb, i * 9, none⟩)] r tb sl B ((m.sees i (m.cells (m.ths i).e.toNat).st (m.cells (m.ths i).e.toNat).v).goes i 3) w := by
  obtain ⟨hs, hf, -, c1, c2, -, c4, c5, c6, c7, -⟩ := h.thCell hi
  obtain ⟨hsr, hfr, c0, -⟩ := h.mapCell
  have hne := h.rne
  have H : Hid _ := h
  obtain ⟨g, cap, hsl, hg, hgr, hgt, hfg, q0, q1⟩ := h.entry hen
  rw [hsl] at c0
  have hin : (m.ths i).e < (m.nc : Int) := by omega
  rw [hat] at c4
  clear h hat
  generalize (m.ths i).val = y at *
  clear hsl
  generalize (m.cells (m.ths i).e.toNat).st = x at *
  generalize (m.cells (m.ths i).e.toNat).v = v at *
  generalize (m.ths i).key = k at *
  generalize (m.ths i).e = z at *
  generalize (m.ths i).sst = z1 at *
  generalize (m.ths i).sv = z2 at *
  go_enter Tryz.func37, Tryz.ntmps37
  go_wp2_with fail
  go_region
  go_wp2_with fail
  have h1 := (((H.out.putSeen hi x v).alloc (.cells #[.bool false, .bool false, .int .i64 0] 52)).alloc (.cells #[Value.int .i64 0, .int .i64 y] 88)).drew
  have g1 := twoD (w := w) (w1 := (w.setCell ⟨tb, i * 9 + 6, none⟩ (.int .i64 x)).setCell ⟨tb, i * 9 + 6 + 1, none⟩ (.int .i64 v)) (by simp only [size_set]) (.cells #[.bool false, .bool false, .int .i64 0] 52) (.cells #[Value.int .i64 0, .int .i64 y] 88)
  have k1 := (((((Kept.refl [r, tb] w).setCell (p := ⟨tb, i * 9 + 6, none⟩) (.inl (by simp)) (.int .i64 x)).setCell (p := ⟨tb, i * 9 + 6 + 1, none⟩) (.inl (by simp)) (.int .i64 v)).alloc (.cells #[.bool false, .bool false, .int .i64 0] 52)).alloc (.cells #[Value.int .i64 0, .int .i64 y] 88)).drew
  refine Calls.mono (does_of (n := 54) (by simp) (m_goes h1 hi 3)) ?_
  rintro e w2 ⟨rfl, h2, k2⟩
  have r2 := k2.at g1 (by simp; omega)
  have hc2 : ∀ o, w2.cell? ⟨w.heap.size, o, none⟩ = #[.bool false, .bool false, .int .i64 0][o]? := cell_of r2
  have hf2 : ∀ o, w2.frozen? ⟨w.heap.size, o, none⟩ = false := frozen_of r2
  have K1 : Hid _ := k1.trans (k2.mono (by simp))
  have H2 : Hid _ := h2
  clear h1 k1 g1 k2 h2
  simp only [Out.val, res]
  go_wp2
  refine bodyPost_ret (v := res false false 0) (by simp [results, Tryz.results37, go_sem, res, cell_of (resLaid r2 false false 0)]) rfl ⟨rfl, ?_, ?_⟩
  · have h3 := H2.out.resLaid r2 false false 0
    exact h3
  · exact ((K1.out.setCell (.inr (by simp)) _).setCell (.inr (by simp)) _).setCell (.inr (by simp)) _
end Go.Proofs.YtmnkphenobfbfaaGreat
namespace Go.Proofs.YtmnkphenobfbfaaGreat
open Go.RowKit
/-- As Does, where entries are written too. -/
def DoesS (n : Nat) (args : Array Value) (r tb : Nat) (sl : Value) (B : Nat) (o : Out) (w : World) : Prop :=
  Calls Tryz.prog n args w fun e w' => e = .returned o.val ∧ (∃ sl', RefAt r tb sl' B o.m w' ∧ ∀ g, sl'.ownBlock = some g → sl.ownBlock = some g ∨ w.heap.size ≤ g) ∧ Kept (r :: tb :: sl.ownBlock.toList) w w'
theorem Does.s {n : Nat} {args : Array Value} {r tb : Nat} {sl : Value} {B : Nat} {o : Out} {w : World} (h : Does n args r tb sl B o w) : DoesS n args r tb sl B o w := by
  refine Calls.mono h ?_
  rintro e w' ⟨rfl, h1, h2⟩
  exact ⟨rfl, ⟨sl, h1, fun g hg => .inl hg⟩, h2.mono (by simp)⟩
set_option maxRecDepth 100000 in
set_option maxHeartbeats 800000 in
theorem s_13 {r tb : Nat} {sl : Value} {B : Nat} {m : M} {w : World} (h : RefAt r tb sl B m w) {i : Nat} (hi : i < m.nth) (he0 : 0 ≤ (m.ths i).e) (hen : (m.ths i).e.toNat < m.nc) (hat : (m.ths i).at_ = 13)  :
    DoesS 37 #[.pointer (some ⟨r, 0, none⟩), .pointer (some ⟨tb, i * 9, none⟩)] r tb sl B ({ m with cells := put m.cells (m.ths i).e.toNat ⟨0, (m.ths i).val⟩ }.goes i 14) w := by
  obtain ⟨hs, hf, -, c1, c2, -, c4, c5, -⟩ := h.thCell hi
  obtain ⟨hsr, hfr, c0, -⟩ := h.mapCell
  have hne := h.rne
  have H : Hid _ := h
  obtain ⟨g, cap, hsl, hg, hgr, hgt, hfg, q0, q1⟩ := h.entry hen
  rw [hsl] at c0
  have hin : (m.ths i).e < (m.nc : Int) := by omega
  have HSL : Hid _ := hsl
  have HEN : Hid _ := hen
  rw [hat] at c4
  clear h hat
  generalize (m.ths i).val = y at *
  clear hsl
  generalize (m.cells (m.ths i).e.toNat).st = x at *
  generalize (m.cells (m.ths i).e.toNat).v = v at *
  generalize (m.ths i).key = k at *
  generalize (m.ths i).e = z at *
  go_enter Tryz.func37, Tryz.ntmps37
  go_wp2_with fail
  go_region
  go_wp2_with fail
  have hob : sl.ownBlock = some g := by rw [HSL.out]; rfl
  have hmem : g ∈ r :: tb :: sl.ownBlock.toList := by rw [hob]; simp
  have h1 := (((H.out.setEntry HSL.out hen 0 y).alloc (.cells #[.bool false, .bool false, .int .i64 0] 52)).alloc (.cells #[Value.int .i64 0, .int .i64 y] 88)).drew
  have g1 := twoD (w := w) (w1 := (w.setCell ⟨g, z.toNat * 2, none⟩ (.int .i64 0)).setCell ⟨g, z.toNat * 2 + 1, none⟩ (.int .i64 y)) (by simp only [size_set]) (.cells #[.bool false, .bool false, .int .i64 0] 52) (.cells #[Value.int .i64 0, .int .i64 y] 88)
  have k1 := (((((Kept.refl (r :: tb :: sl.ownBlock.toList) w).setCell (p := ⟨g, z.toNat * 2, none⟩) (.inl hmem) (.int .i64 0)).setCell (p := ⟨g, z.toNat * 2 + 1, none⟩) (.inl hmem) (.int .i64 y)).alloc (.cells #[.bool false, .bool false, .int .i64 0] 52)).alloc (.cells #[Value.int .i64 0, .int .i64 y] 88)).drew
  refine Calls.mono (does_of (n := 54) (F := [tb]) (by simp) (m_goes h1 hi 14)) ?_
  rintro e w2 ⟨rfl, h2, k2⟩
  have r2 := k2.at g1 (by simp; omega)
  have hc2 : ∀ o, w2.cell? ⟨w.heap.size, o, none⟩ = #[.bool false, .bool false, .int .i64 0][o]? := cell_of r2
  have hf2 : ∀ o, w2.frozen? ⟨w.heap.size, o, none⟩ = false := frozen_of r2
  have K1 : Hid _ := k1.trans (k2.mono (by simp))
  have H2 : Hid _ := h2
  clear hob hmem h1 k1 g1 k2 h2
  simp only [Out.val, res]
  go_wp2
  refine bodyPost_ret (v := res false false 0) (by simp [results, Tryz.results37, go_sem, res, cell_of (resLaid r2 false false 0)]) rfl ⟨rfl, ⟨sl, ?_, fun g hg => .inl hg⟩, ?_⟩
  · have h3 := H2.out.resLaid r2 false false 0
    exact h3
  · exact ((K1.out.setCell (.inr (by simp)) _).setCell (.inr (by simp)) _).setCell (.inr (by simp)) _
end Go.Proofs.YtmnkphenobfbfaaGreat
