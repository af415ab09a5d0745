import Derived.Test.YtfgfpggjcfhccaaGreatMi
namespace Go.Proofs.YtfgfpggjcfhccaaGreat
open Go.RowKit
/-- Where an entry lies. -/
theorem RefAt.entry {r tb : Nat} {sl : Value} {B : Nat} {m : M} {w : World} (h : RefAt r tb sl B m w) {j : Nat} (hj : j < m.nc) : ∃ g cap, sl = .slice (some ⟨g, 0, none⟩) m.nc cap ∧ g < w.heap.size ∧ g ≠ r ∧ g ≠ tb ∧ (∀ o, w.frozen? ⟨g, o, none⟩ = false) ∧
    w.cell? ⟨g, j * 2, none⟩ = some (.int .i64 (m.cells j).st) ∧ w.cell? ⟨g, j * 2 + 1, none⟩ = some (.int .i64 (m.cells j).v) := by
  have hc := cellList_at m.cells hj
  rcases h.row.2 with ⟨_, h0⟩ | ⟨g, cap, cur, e1, e2, e3, e4, e5, e6, e7⟩
  · omega
  · have hn := h.own_ne (g := g) (by rw [e1]; rfl)
    refine ⟨g, cap, e1, lt_of_block e3, hn.1, hn.2, frozen_of e3, ?_, ?_⟩
    · rw [cell_of e3, ← Array.getElem?_toList, ← hc.1, ← e7, List.getElem?_take, if_pos (by omega)]
    · rw [cell_of e3, ← Array.getElem?_toList, ← hc.2, ← e7, List.getElem?_take, if_pos (by omega)]
def M.load (m : M) (i : Nat) : Out :=
  if (m.ths i).at_ = 1 then m.first i 7
  else if (m.ths i).at_ = 3 then m.third i 6
  else if (m.ths i).at_ = 4 then (m.sets i (m.dirty (m.key i))).goes i 5
  else if (m.ths i).at_ = 5 ∨ (m.ths i).at_ = 51 ∨ (m.ths i).at_ = 52 ∨ (m.ths i).at_ = 53 then m.missed i 5 6
  else if (m.ths i).at_ = 6 then m.frees i 7
  else m.ends i ((m.cells (m.ths i).e.toNat).st == 0) (m.cells (m.ths i).e.toNat).v
set_option maxRecDepth 100000 in
set_option maxHeartbeats 800000 in
theorem l_first {r tb : Nat} {sl : Value} {B : Nat} {m : M} {w : World} (h : RefAt r tb sl B m w) {i : Nat} (hi : i < m.nth) (hk0 : 0 ≤ (m.ths i).key) (hk7 : (m.ths i).key < 8) (hat : (m.ths i).at_ = 1) :
    Does 35 #[.pointer (some ⟨r, 0, none⟩), .pointer (some ⟨tb, i * 9, none⟩)] r tb sl B (m.first i 7) w := by
  obtain ⟨hs, hf, -, -, -, -, c4, -⟩ := h.thCell hi
  obtain ⟨hsr, -⟩ := h.mapCell
  have hne := h.rne
  have H : Hid _ := h
  rw [hat] at c4
  clear hat
  clear h
  go_enter Tryz.func35, Tryz.ntmps35
  go_wp2_with fail
  have h1 := H.out.alloc (.cells #[.bool false, .bool false, .int .i64 0] 52)
  have g1 := block_alloc_new w (.cells #[.bool false, .bool false, .int .i64 0] 52)
  have k1 := (Kept.refl [r, tb] w).alloc (.cells #[.bool false, .bool false, .int .i64 0] 52)
  refine Calls.mono (does_first h1 hi hk0 hk7 7) ?_
  rintro e w2 ⟨rfl, h2, k2⟩
  have r2 := k2.at g1 (by simp; omega)
  have hc2 : ∀ o, w2.cell? ⟨w.heap.size, o, none⟩ = #[.bool false, .bool false, .int .i64 0][o]? := cell_of r2
  have hf2 : ∀ o, w2.frozen? ⟨w.heap.size, o, none⟩ = false := frozen_of r2
  have K1 : Hid _ := k1.trans (k2.mono (by simp))
  have H2 : Hid _ := h2
  clear h1 k1 g1 k2 h2
  generalize hO : m.first i 7 = O at *
  obtain ⟨od, of, ov, om⟩ := O
  have HO : Hid _ := hO
  clear hO
  simp only [Out.val, res]
  go_wp2
  refine bodyPost_ret (v := res od of ov) (by simp [results, Tryz.results35, go_sem, res, cell_of (resLaid r2 od of ov)]) rfl ⟨by rw [HO.out]; rfl, ?_, ?_⟩
  · have h3 := H2.out.resLaid r2 od of ov
    rw [HO.out]
    exact h3
  · exact ((K1.out.setCell (.inr (by simp)) _).setCell (.inr (by simp)) _).setCell (.inr (by simp)) _
set_option maxRecDepth 100000 in
set_option maxHeartbeats 800000 in
theorem l_third {r tb : Nat} {sl : Value} {B : Nat} {m : M} {w : World} (h : RefAt r tb sl B m w) {i : Nat} (hi : i < m.nth) (hk0 : 0 ≤ (m.ths i).key) (hk7 : (m.ths i).key < 8) (hat : (m.ths i).at_ = 3) :
    Does 35 #[.pointer (some ⟨r, 0, none⟩), .pointer (some ⟨tb, i * 9, none⟩)] r tb sl B (m.third i 6) w := by
  obtain ⟨hs, hf, -, -, -, -, c4, -⟩ := h.thCell hi
  obtain ⟨hsr, -⟩ := h.mapCell
  have hne := h.rne
  have H : Hid _ := h
  rw [hat] at c4
  clear hat
  clear h
  go_enter Tryz.func35, Tryz.ntmps35
  go_wp2_with fail
  have h1 := H.out.alloc (.cells #[.bool false, .bool false, .int .i64 0] 52)
  have g1 := block_alloc_new w (.cells #[.bool false, .bool false, .int .i64 0] 52)
  have k1 := (Kept.refl [r, tb] w).alloc (.cells #[.bool false, .bool false, .int .i64 0] 52)
  refine Calls.mono (does_third h1 hi hk0 hk7 6) ?_
  rintro e w2 ⟨rfl, h2, k2⟩
  have r2 := k2.at g1 (by simp; omega)
  have hc2 : ∀ o, w2.cell? ⟨w.heap.size, o, none⟩ = #[.bool false, .bool false, .int .i64 0][o]? := cell_of r2
  have hf2 : ∀ o, w2.frozen? ⟨w.heap.size, o, none⟩ = false := frozen_of r2
  have K1 : Hid _ := k1.trans (k2.mono (by simp))
  have H2 : Hid _ := h2
  clear h1 k1 g1 k2 h2
  generalize hO : m.third i 6 = O at *
  obtain ⟨od, of, ov, om⟩ := O
  have HO : Hid _ := hO
  clear hO
  simp only [Out.val, res]
  go_wp2
  refine bodyPost_ret (v := res od of ov) (by simp [results, Tryz.results35, go_sem, res, cell_of (resLaid r2 od of ov)]) rfl ⟨by rw [HO.out]; rfl, ?_, ?_⟩
  · have h3 := H2.out.resLaid r2 od of ov
    rw [HO.out]
    exact h3
  · exact ((K1.out.setCell (.inr (by simp)) _).setCell (.inr (by simp)) _).setCell (.inr (by simp)) _
set_option maxRecDepth 100000 in
set_option maxHeartbeats 800000 in
theorem l_frees {r tb : Nat} {sl : Value} {B : Nat} {m : M} {w : World} (h : RefAt r tb sl B m w) {i : Nat} (hi : i < m.nth) (hat : (m.ths i).at_ = 6) :
    Does 35 #[.pointer (some ⟨r, 0, none⟩), .pointer (some ⟨tb, i * 9, none⟩)] r tb sl B (m.frees i 7) w := by
  obtain ⟨hs, hf, -, -, -, -, c4, -⟩ := h.thCell hi
  obtain ⟨hsr, -⟩ := h.mapCell
  have hne := h.rne
  have H : Hid _ := h
  rw [hat] at c4
  clear hat
  clear h
  go_enter Tryz.func35, Tryz.ntmps35
  go_wp2_with fail
  have h1 := H.out.alloc (.cells #[.bool false, .bool false, .int .i64 0] 52)
  have g1 := block_alloc_new w (.cells #[.bool false, .bool false, .int .i64 0] 52)
  have k1 := (Kept.refl [r, tb] w).alloc (.cells #[.bool false, .bool false, .int .i64 0] 52)
  refine Calls.mono (does_frees h1 hi 7) ?_
  rintro e w2 ⟨rfl, h2, k2⟩
  have r2 := k2.at g1 (by simp; omega)
  have hc2 : ∀ o, w2.cell? ⟨w.heap.size, o, none⟩ = #[.bool false, .bool false, .int .i64 0][o]? := cell_of r2
  have hf2 : ∀ o, w2.frozen? ⟨w.heap.size, o, none⟩ = false := frozen_of r2
  have K1 : Hid _ := k1.trans (k2.mono (by simp))
  have H2 : Hid _ := h2
  clear h1 k1 g1 k2 h2
  generalize hO : m.frees i 7 = O at *
  obtain ⟨od, of, ov, om⟩ := O
  have HO : Hid _ := hO
  clear hO
  simp only [Out.val, res]
  go_wp2
  refine bodyPost_ret (v := res od of ov) (by simp [results, Tryz.results35, go_sem, res, cell_of (resLaid r2 od of ov)]) rfl ⟨by rw [HO.out]; rfl, ?_, ?_⟩
  · have h3 := H2.out.resLaid r2 od of ov
    rw [HO.out]
    exact h3
  · exact ((K1.out.setCell (.inr (by simp)) _).setCell (.inr (by simp)) _).setCell (.inr (by simp)) _
set_option maxRecDepth 100000 in
set_option maxHeartbeats 800000 in
theorem l_missed0 {r tb : Nat} {sl : Value} {B : Nat} {m : M} {w : World} (h : RefAt r tb sl B m w) {i : Nat} (hi : i < m.nth) (hm0 : 0 ≤ m.mis) (hm1 : m.mis < 1000000) (hat : (m.ths i).at_ = 5) :
    Does 35 #[.pointer (some ⟨r, 0, none⟩), .pointer (some ⟨tb, i * 9, none⟩)] r tb sl B (m.missed i 5 6) w := by
  obtain ⟨hs, hf, -, -, -, -, c4, -⟩ := h.thCell hi
  obtain ⟨hsr, -⟩ := h.mapCell
  have hne := h.rne
  have H : Hid _ := h
  rw [hat] at c4
  clear h
  go_enter Tryz.func35, Tryz.ntmps35
  go_wp2_with fail
  have h1 := H.out.alloc (.cells #[.bool false, .bool false, .int .i64 0] 52)
  have g1 := block_alloc_new w (.cells #[.bool false, .bool false, .int .i64 0] 52)
  have k1 := (Kept.refl [r, tb] w).alloc (.cells #[.bool false, .bool false, .int .i64 0] 52)
  refine Calls.mono (does_missed h1 hi 5 6 (by omega) (by omega) (by omega) hm0 hm1) ?_
  rintro e w2 ⟨rfl, h2, k2⟩
  have r2 := k2.at g1 (by simp; omega)
  have hc2 : ∀ o, w2.cell? ⟨w.heap.size, o, none⟩ = #[.bool false, .bool false, .int .i64 0][o]? := cell_of r2
  have hf2 : ∀ o, w2.frozen? ⟨w.heap.size, o, none⟩ = false := frozen_of r2
  have K1 : Hid _ := k1.trans (k2.mono (by simp))
  have H2 : Hid _ := h2
  clear h1 k1 g1 k2 h2
  generalize hO : m.missed i 5 6 = O at *
  obtain ⟨od, of, ov, om⟩ := O
  have HO : Hid _ := hO
  clear hO
  simp only [Out.val, res]
  go_wp2
  refine bodyPost_ret (v := res od of ov) (by simp [results, Tryz.results35, go_sem, res, cell_of (resLaid r2 od of ov)]) rfl ⟨by rw [HO.out]; rfl, ?_, ?_⟩
  · have h3 := H2.out.resLaid r2 od of ov
    rw [HO.out]
    exact h3
  · exact ((K1.out.setCell (.inr (by simp)) _).setCell (.inr (by simp)) _).setCell (.inr (by simp)) _
set_option maxRecDepth 100000 in
set_option maxHeartbeats 800000 in
theorem l_missed1 {r tb : Nat} {sl : Value} {B : Nat} {m : M} {w : World} (h : RefAt r tb sl B m w) {i : Nat} (hi : i < m.nth) (hm0 : 0 ≤ m.mis) (hm1 : m.mis < 1000000) (hat : (m.ths i).at_ = 51) :
    Does 35 #[.pointer (some ⟨r, 0, none⟩), .pointer (some ⟨tb, i * 9, none⟩)] r tb sl B (m.missed i 5 6) w := by
  obtain ⟨hs, hf, -, -, -, -, c4, -⟩ := h.thCell hi
  obtain ⟨hsr, -⟩ := h.mapCell
  have hne := h.rne
  have H : Hid _ := h
  rw [hat] at c4
  clear h
  go_enter Tryz.func35, Tryz.ntmps35
  go_wp2_with fail
  have h1 := H.out.alloc (.cells #[.bool false, .bool false, .int .i64 0] 52)
  have g1 := block_alloc_new w (.cells #[.bool false, .bool false, .int .i64 0] 52)
  have k1 := (Kept.refl [r, tb] w).alloc (.cells #[.bool false, .bool false, .int .i64 0] 52)
  refine Calls.mono (does_missed h1 hi 5 6 (by omega) (by omega) (by omega) hm0 hm1) ?_
  rintro e w2 ⟨rfl, h2, k2⟩
  have r2 := k2.at g1 (by simp; omega)
  have hc2 : ∀ o, w2.cell? ⟨w.heap.size, o, none⟩ = #[.bool false, .bool false, .int .i64 0][o]? := cell_of r2
  have hf2 : ∀ o, w2.frozen? ⟨w.heap.size, o, none⟩ = false := frozen_of r2
  have K1 : Hid _ := k1.trans (k2.mono (by simp))
  have H2 : Hid _ := h2
  clear h1 k1 g1 k2 h2
  generalize hO : m.missed i 5 6 = O at *
  obtain ⟨od, of, ov, om⟩ := O
  have HO : Hid _ := hO
  clear hO
  simp only [Out.val, res]
  go_wp2
  refine bodyPost_ret (v := res od of ov) (by simp [results, Tryz.results35, go_sem, res, cell_of (resLaid r2 od of ov)]) rfl ⟨by rw [HO.out]; rfl, ?_, ?_⟩
  · have h3 := H2.out.resLaid r2 od of ov
    rw [HO.out]
    exact h3
  · exact ((K1.out.setCell (.inr (by simp)) _).setCell (.inr (by simp)) _).setCell (.inr (by simp)) _
set_option maxRecDepth 100000 in
set_option maxHeartbeats 800000 in
theorem l_missed2 {r tb : Nat} {sl : Value} {B : Nat} {m : M} {w : World} (h : RefAt r tb sl B m w) {i : Nat} (hi : i < m.nth) (hm0 : 0 ≤ m.mis) (hm1 : m.mis < 1000000) (hat : (m.ths i).at_ = 52) :
    Does 35 #[.pointer (some ⟨r, 0, none⟩), .pointer (some ⟨tb, i * 9, none⟩)] r tb sl B (m.missed i 5 6) w := by
  obtain ⟨hs, hf, -, -, -, -, c4, -⟩ := h.thCell hi
  obtain ⟨hsr, -⟩ := h.mapCell
  have hne := h.rne
  have H : Hid _ := h
  rw [hat] at c4
  clear h
  go_enter Tryz.func35, Tryz.ntmps35
  go_wp2_with fail
  have h1 := H.out.alloc (.cells #[.bool false, .bool false, .int .i64 0] 52)
  have g1 := block_alloc_new w (.cells #[.bool false, .bool false, .int .i64 0] 52)
  have k1 := (Kept.refl [r, tb] w).alloc (.cells #[.bool false, .bool false, .int .i64 0] 52)
  refine Calls.mono (does_missed h1 hi 5 6 (by omega) (by omega) (by omega) hm0 hm1) ?_
  rintro e w2 ⟨rfl, h2, k2⟩
  have r2 := k2.at g1 (by simp; omega)
  have hc2 : ∀ o, w2.cell? ⟨w.heap.size, o, none⟩ = #[.bool false, .bool false, .int .i64 0][o]? := cell_of r2
  have hf2 : ∀ o, w2.frozen? ⟨w.heap.size, o, none⟩ = false := frozen_of r2
  have K1 : Hid _ := k1.trans (k2.mono (by simp))
  have H2 : Hid _ := h2
  clear h1 k1 g1 k2 h2
  generalize hO : m.missed i 5 6 = O at *
  obtain ⟨od, of, ov, om⟩ := O
  have HO : Hid _ := hO
  clear hO
  simp only [Out.val, res]
  go_wp2
  refine bodyPost_ret (v := res od of ov) (by simp [results, Tryz.results35, go_sem, res, cell_of (resLaid r2 od of ov)]) rfl ⟨by rw [HO.out]; rfl, ?_, ?_⟩
  · have h3 := H2.out.resLaid r2 od of ov
    rw [HO.out]
    exact h3
  · exact ((K1.out.setCell (.inr (by simp)) _).setCell (.inr (by simp)) _).setCell (.inr (by simp)) _
set_option maxRecDepth 100000 in
set_option maxHeartbeats 800000 in
theorem l_missed3 {r tb : Nat} {sl : Value} {B : Nat} {m : M} {w : World} (h : RefAt r tb sl B m w) {i : Nat} (hi : i < m.nth) (hm0 : 0 ≤ m.mis) (hm1 : m.mis < 1000000) (hat : (m.ths i).at_ = 53) :
    Does 35 #[.pointer (some ⟨r, 0, none⟩), .pointer (some ⟨tb, i * 9, none⟩)] r tb sl B (m.missed i 5 6) w := by
  obtain ⟨hs, hf, -, -, -, -, c4, -⟩ := h.thCell hi
  obtain ⟨hsr, -⟩ := h.mapCell
  have hne := h.rne
  have H : Hid _ := h
  rw [hat] at c4
  clear h
  go_enter Tryz.func35, Tryz.ntmps35
  go_wp2_with fail
  have h1 := H.out.alloc (.cells #[.bool false, .bool false, .int .i64 0] 52)
  have g1 := block_alloc_new w (.cells #[.bool false, .bool false, .int .i64 0] 52)
  have k1 := (Kept.refl [r, tb] w).alloc (.cells #[.bool false, .bool false, .int .i64 0] 52)
  refine Calls.mono (does_missed h1 hi 5 6 (by omega) (by omega) (by omega) hm0 hm1) ?_
  rintro e w2 ⟨rfl, h2, k2⟩
  have r2 := k2.at g1 (by simp; omega)
  have hc2 : ∀ o, w2.cell? ⟨w.heap.size, o, none⟩ = #[.bool false, .bool false, .int .i64 0][o]? := cell_of r2
  have hf2 : ∀ o, w2.frozen? ⟨w.heap.size, o, none⟩ = false := frozen_of r2
  have K1 : Hid _ := k1.trans (k2.mono (by simp))
  have H2 : Hid _ := h2
  clear h1 k1 g1 k2 h2
  generalize hO : m.missed i 5 6 = O at *
  obtain ⟨od, of, ov, om⟩ := O
  have HO : Hid _ := hO
  clear hO
  simp only [Out.val, res]
  go_wp2
  refine bodyPost_ret (v := res od of ov) (by simp [results, Tryz.results35, go_sem, res, cell_of (resLaid r2 od of ov)]) rfl ⟨by rw [HO.out]; rfl, ?_, ?_⟩
  · have h3 := H2.out.resLaid r2 od of ov
    rw [HO.out]
    exact h3
  · exact ((K1.out.setCell (.inr (by simp)) _).setCell (.inr (by simp)) _).setCell (.inr (by simp)) _
set_option maxRecDepth 100000 in
set_option maxHeartbeats 800000 in
theorem l_dirty {r tb : Nat} {sl : Value} {B : Nat} {m : M} {w : World} (h : RefAt r tb sl B m w) {i : Nat} (hi : i < m.nth) (hk0 : 0 ≤ (m.ths i).key) (hk7 : (m.ths i).key < 8) (hat : (m.ths i).at_ = 4) :
    Does 35 #[.pointer (some ⟨r, 0, none⟩), .pointer (some ⟨tb, i * 9, none⟩)] r tb sl B ((m.sets i (m.dirty (m.key i))).goes i 5) w := by
  obtain ⟨hs, hf, -, c1, -, -, c4, c5, -⟩ := h.thCell hi
  obtain ⟨hsr, -, -, -, -, -, cdt, -⟩ := h.mapCell
  have ck := cdt (m.ths i).key.toNat (by omega)
  have hne := h.rne
  have H : Hid _ := h
  rw [hat] at c4
  clear h cdt hat
  have hkk : m.key i = (m.ths i).key.toNat := rfl
  rw [hkk]
  clear hkk
  generalize hx : m.dirty (m.ths i).key.toNat = x at *
  generalize hkey : (m.ths i).key = k at *
  have HX : Hid _ := hx
  clear hx hkey
  go_enter Tryz.func35, Tryz.ntmps35
  go_wp2_with fail
  go_region
  go_wp2_with fail
  have h1 := ((H.out.putE hi x).alloc (.cells #[.bool false, .bool false, .int .i64 0] 52)).drew
  have g1 := newRes (w := w) (size_set w ⟨tb, i * 9 + 5, none⟩ (.int .i64 x))
  have k1 := (((Kept.refl [r, tb] w).setCell (p := ⟨tb, i * 9 + 5, none⟩) (.inl (by simp)) (.int .i64 x)).alloc (.cells #[.bool false, .bool false, .int .i64 0] 52)).drew
  refine Calls.mono (does_of (n := 53) (by simp) (m_goes h1 hi 5)) ?_
  rintro e w2 ⟨rfl, h2, k2⟩
  have r2 := k2.at g1 (by simp; omega)
  have hc2 : ∀ o, w2.cell? ⟨w.heap.size, o, none⟩ = #[.bool false, .bool false, .int .i64 0][o]? := cell_of r2
  have hf2 : ∀ o, w2.frozen? ⟨w.heap.size, o, none⟩ = false := frozen_of r2
  have K1 : Hid _ := k1.trans (k2.mono (by simp))
  have H2 : Hid _ := h2
  clear h1 k1 g1 k2 h2
  simp only [Out.val, res]
  go_wp2
  refine bodyPost_ret (v := res false false 0) (by simp [results, Tryz.results35, go_sem, res, cell_of (resLaid r2 false false 0)]) rfl ⟨rfl, ?_, ?_⟩
  · have h3 := H2.out.resLaid r2 false false 0
    exact h3
  · exact ((K1.out.setCell (.inr (by simp)) _).setCell (.inr (by simp)) _).setCell (.inr (by simp)) _
end Go.Proofs.YtfgfpggjcfhccaaGreat
