import Derived.Test.YtfgfpggjcfhccaaGreatMo
namespace Go.Proofs.YtfgfpggjcfhccaaGreat
open Go.RowKit
theorem RefAt.drewN {r tb : Nat} {sl : Value} {B : Nat} {m : M} {w : World} (h : RefAt r tb sl B m w) (n : Nat) : RefAt r tb sl B m (w.drewN n) := h.keptNil ((Kept.refl [] w).drewN n)
theorem twoN (w : World) (o1 o2 : Obj) (n : Nat) : (((w.alloc o1).alloc o2).drewN n).heap[w.heap.size]? = some o1 := two (w1 := w) rfl o1 o2
set_option maxRecDepth 100000 in
set_option maxHeartbeats 800000 in
theorem s_6_out {r tb : Nat} {sl : Value} {B : Nat} {m : M} {w : World} (h : RefAt r tb sl B m w) {i : Nat} (hi : i < m.nth) (he0 : 0 ≤ (m.ths i).e) (hen : (m.ths i).e.toNat < m.nc) (hat : (m.ths i).at_ = 6) (hx : ¬ (m.cells (m.ths i).e.toNat).st = 2) :
    Does 36 #[.pointer (some ⟨r, 0, none⟩), .pointer (some ⟨tb, i * 9, none⟩)] r tb sl B (m.goes i 13) w := by
  obtain ⟨hs, hf, -, c1, c2, -, c4, c5, -⟩ := h.thCell hi
  obtain ⟨hsr, hfr, c0, -⟩ := h.mapCell
  have hne := h.rne
  have H : Hid _ := h
  obtain ⟨g, cap, hsl, hg, hgr, hgt, hfg, q0, q1⟩ := h.entry hen
  rw [hsl] at c0
  have hin : (m.ths i).e < (m.nc : Int) := by omega
  have HSL : Hid _ := hsl
  have HEN : Hid _ := hen
  rw [hat] at c4
  clear h hat
  generalize (m.ths i).val = y at *
  clear hsl
  generalize (m.cells (m.ths i).e.toNat).st = x at *
  generalize (m.cells (m.ths i).e.toNat).v = v at *
  generalize (m.ths i).key = k at *
  generalize (m.ths i).e = z at *
  go_enter Tryz.func36, Tryz.ntmps36
  go_wp2_with fail
  go_quiet (fail)
  go_wp2_with fail
  have h1 := ((H.out.alloc (.cells #[.bool false, .bool false, .int .i64 0] 52)).alloc (.cells #[Value.int .i64 0, .int .i64 y] 88)).drewN nq
  have g1 := twoN w (.cells #[.bool false, .bool false, .int .i64 0] 52) (.cells #[Value.int .i64 0, .int .i64 y] 88) nq
  have k1 := (((Kept.refl [r, tb] w).alloc (.cells #[.bool false, .bool false, .int .i64 0] 52)).alloc (.cells #[Value.int .i64 0, .int .i64 y] 88)).drewN nq
  refine Calls.mono (does_of (n := 53) (by simp) (m_goes h1 hi 13)) ?_
  rintro e w2 ⟨rfl, h2, k2⟩
  have r2 := k2.at g1 (by simp; omega)
  have hc2 : ∀ o, w2.cell? ⟨w.heap.size, o, none⟩ = #[.bool false, .bool false, .int .i64 0][o]? := cell_of r2
  have hf2 : ∀ o, w2.frozen? ⟨w.heap.size, o, none⟩ = false := frozen_of r2
  have K1 : Hid _ := k1.trans (k2.mono (by simp))
  have H2 : Hid _ := h2
  clear h1 k1 g1 k2 h2
  simp only [Out.val, res]
  go_wp2
  refine bodyPost_ret (v := res false false 0) (by simp [results, Tryz.results36, go_sem, res, cell_of (resLaid r2 false false 0)]) rfl ⟨rfl, ?_, ?_⟩
  · have h3 := H2.out.resLaid r2 false false 0
    exact h3
  · exact ((K1.out.setCell (.inr (by simp)) _).setCell (.inr (by simp)) _).setCell (.inr (by simp)) _
set_option maxRecDepth 100000 in
set_option maxHeartbeats 800000 in
theorem s_6_on {r tb : Nat} {sl : Value} {B : Nat} {m : M} {w : World} (h : RefAt r tb sl B m w) {i : Nat} (hi : i < m.nth) (he0 : 0 ≤ (m.ths i).e) (hen : (m.ths i).e.toNat < m.nc) (hat : (m.ths i).at_ = 6) (hx : (m.cells (m.ths i).e.toNat).st = 2) :
    DoesS 36 #[.pointer (some ⟨r, 0, none⟩), .pointer (some ⟨tb, i * 9, none⟩)] r tb sl B ({ m with cells := put m.cells (m.ths i).e.toNat ⟨1, 0⟩ }.goes i 7) w := by
  obtain ⟨hs, hf, -, c1, c2, -, c4, c5, -⟩ := h.thCell hi
  obtain ⟨hsr, hfr, c0, -⟩ := h.mapCell
  have hne := h.rne
  have H : Hid _ := h
  obtain ⟨g, cap, hsl, hg, hgr, hgt, hfg, q0, q1⟩ := h.entry hen
  rw [hsl] at c0
  have hin : (m.ths i).e < (m.nc : Int) := by omega
  have HSL : Hid _ := hsl
  have HEN : Hid _ := hen
  rw [hat] at c4
  clear h hat
  generalize (m.ths i).val = y at *
  clear hsl
  generalize (m.cells (m.ths i).e.toNat).st = x at *
  generalize (m.cells (m.ths i).e.toNat).v = v at *
  generalize (m.ths i).key = k at *
  generalize (m.ths i).e = z at *
  go_enter Tryz.func36, Tryz.ntmps36
  go_wp2_with fail
  go_quiet (fail)
  go_wp2_with fail
  go_region
  go_wp2_with fail
  have hob : sl.ownBlock = some g := by rw [HSL.out]; rfl
  have hmem : g ∈ r :: tb :: sl.ownBlock.toList := by rw [hob]; simp
  have h1 := (((H.out.alloc (.cells #[.bool false, .bool false, .int .i64 0] 52)).alloc (.cells #[Value.int .i64 0, .int .i64 y] 88)).drewN (nq + 1)).setEntry HSL.out hen 1 0
  have g1 := block_set_ne (block_set_ne (twoN w (.cells #[.bool false, .bool false, .int .i64 0] 52) (.cells #[Value.int .i64 0, .int .i64 y] 88) (nq + 1)) (Nat.ne_of_gt hg) (z.toNat * 2) (.int .i64 1)) (Nat.ne_of_gt hg) (z.toNat * 2 + 1) (.int .i64 0)
  have k1 := (((((Kept.refl (r :: tb :: sl.ownBlock.toList) w).alloc (.cells #[.bool false, .bool false, .int .i64 0] 52)).alloc (.cells #[Value.int .i64 0, .int .i64 y] 88)).drewN (nq + 1)).setCell (p := ⟨g, z.toNat * 2, none⟩) (.inl hmem) (.int .i64 1)).setCell (p := ⟨g, z.toNat * 2 + 1, none⟩) (.inl hmem) (.int .i64 0)
  refine Calls.mono (does_of (n := 53) (F := [tb]) (by simp) (m_goes h1 hi 7)) ?_
  rintro e w2 ⟨rfl, h2, k2⟩
  have r2 := k2.at g1 (by simp; omega)
  have hc2 : ∀ o, w2.cell? ⟨w.heap.size, o, none⟩ = #[.bool false, .bool false, .int .i64 0][o]? := cell_of r2
  have hf2 : ∀ o, w2.frozen? ⟨w.heap.size, o, none⟩ = false := frozen_of r2
  have K1 : Hid _ := k1.trans (k2.mono (by simp))
  have H2 : Hid _ := h2
  clear hob hmem h1 k1 g1 k2 h2
  simp only [Out.val, res]
  go_wp2
  refine bodyPost_ret (v := res false false 0) (by simp [results, Tryz.results36, go_sem, res, cell_of (resLaid r2 false false 0)]) rfl ⟨rfl, ⟨sl, ?_, fun g hg => .inl hg⟩, ?_⟩
  · have h3 := H2.out.resLaid r2 false false 0
    exact h3
  · exact ((K1.out.setCell (.inr (by simp)) _).setCell (.inr (by simp)) _).setCell (.inr (by simp)) _
set_option maxRecDepth 100000 in
set_option maxHeartbeats 800000 in
theorem s_7 {r tb : Nat} {sl : Value} {B : Nat} {m : M} {w : World} (h : RefAt r tb sl B m w) {i : Nat} (hi : i < m.nth) (hk0 : 0 ≤ (m.ths i).key) (hk7 : (m.ths i).key < 8) (hat : (m.ths i).at_ = 7) :
    Does 36 #[.pointer (some ⟨r, 0, none⟩), .pointer (some ⟨tb, i * 9, none⟩)] r tb sl B ({ m with dirty := put m.dirty (m.key i) (m.ths i).e }.goes i 13) w := by
  obtain ⟨hs, hf, -, c1, c2, -, c4, c5, -⟩ := h.thCell hi
  obtain ⟨hsr, hfr, -, -, -, -, cdt, -⟩ := h.mapCell
  have hne := h.rne
  have H : Hid _ := h
  have ck := cdt (m.ths i).key.toNat (by omega)
  rw [hat] at c4
  clear h hat
  generalize (m.ths i).val = y at *
  clear cdt
  simp only [M.key]
  generalize (m.ths i).e = z at *
  generalize (m.ths i).key = k at *
  go_enter Tryz.func36, Tryz.ntmps36
  go_wp2_with fail
  go_region
  go_wp2_with fail
  have h1 := (((H.out.setDirty (k := k.toNat) (by omega) z).alloc (.cells #[.bool false, .bool false, .int .i64 0] 52)).alloc (.cells #[Value.int .i64 0, .int .i64 y] 88)).drew
  have g1 := twoD (w := w) (size_set w ⟨r, 11 + k.toNat, none⟩ (.int .i64 z)) (.cells #[.bool false, .bool false, .int .i64 0] 52) (.cells #[Value.int .i64 0, .int .i64 y] 88)
  have k1 := ((((Kept.refl [r, tb] w).setCell (p := ⟨r, 11 + k.toNat, none⟩) (.inl (by simp)) (.int .i64 z)).alloc (.cells #[.bool false, .bool false, .int .i64 0] 52)).alloc (.cells #[Value.int .i64 0, .int .i64 y] 88)).drew
  refine Calls.mono (does_of (n := 53) (by simp) (m_goes h1 hi 13)) ?_
  rintro e w2 ⟨rfl, h2, k2⟩
  have r2 := k2.at g1 (by simp; omega)
  have hc2 : ∀ o, w2.cell? ⟨w.heap.size, o, none⟩ = #[.bool false, .bool false, .int .i64 0][o]? := cell_of r2
  have hf2 : ∀ o, w2.frozen? ⟨w.heap.size, o, none⟩ = false := frozen_of r2
  have K1 : Hid _ := k1.trans (k2.mono (by simp))
  have H2 : Hid _ := h2
  clear h1 k1 g1 k2 h2
  simp only [Out.val, res]
  go_wp2
  refine bodyPost_ret (v := res false false 0) (by simp [results, Tryz.results36, go_sem, res, cell_of (resLaid r2 false false 0)]) rfl ⟨rfl, ?_, ?_⟩
  · have h3 := H2.out.resLaid r2 false false 0
    exact h3
  · exact ((K1.out.setCell (.inr (by simp)) _).setCell (.inr (by simp)) _).setCell (.inr (by simp)) _
end Go.Proofs.YtfgfpggjcfhccaaGreat
