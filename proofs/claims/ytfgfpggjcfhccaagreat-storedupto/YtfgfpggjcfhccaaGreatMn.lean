import Derived.Test.YtfgfpggjcfhccaaGreatMm
namespace Go.Proofs.YtfgfpggjcfhccaaGreat
open Go.RowKit
theorem twoD {w1 w : World} (h : w1.heap.size = w.heap.size) (o1 o2 : Obj) : ((w1.alloc o1).alloc o2).drew.heap[w.heap.size]? = some o1 := two h o1 o2
/-- The thread has seen an entry. -/
def M.sees (m : M) (i : Nat) (x y : Int) : M := m.thr i { m.ths i with sst := x, sv := y }
theorem RefAt.putSeen {r tb : Nat} {sl : Value} {B : Nat} {m : M} {w : World} (h : RefAt r tb sl B m w) {i : Nat} (hi : i < m.nth) (x y : Int) :
    RefAt r tb sl B (m.sees i x y) ((w.setCell ⟨tb, i * 9 + 6, none⟩ (.int .i64 x)).setCell ⟨tb, i * 9 + 6 + 1, none⟩ (.int .i64 y)) := by
  have h2 := (h.putSst hi x).putSv hi y
  simp only [put_put, put_same] at h2
  exact h2
set_option maxRecDepth 100000 in
set_option maxHeartbeats 800000 in
theorem s_2_out {r tb : Nat} {sl : Value} {B : Nat} {m : M} {w : World} (h : RefAt r tb sl B m w) {i : Nat} (hi : i < m.nth) (he0 : 0 ≤ (m.ths i).e) (hen : (m.ths i).e.toNat < m.nc) (hat : (m.ths i).at_ = 2) (hx : (m.cells (m.ths i).e.toNat).st = 2) :
    Does 36 #[.pointer (some ⟨r, 0, none⟩), .pointer (some ⟨tb, i * 9, none⟩)] r tb sl B ((m.sees i (m.cells (m.ths i).e.toNat).st (m.cells (m.ths i).e.toNat).v).goes i 4) w := by
  obtain ⟨hs, hf, -, c1, c2, -, c4, c5, c6, c7, -⟩ := h.thCell hi
  obtain ⟨hsr, hfr, c0, -⟩ := h.mapCell
  have hne := h.rne
  have H : Hid _ := h
  obtain ⟨g, cap, hsl, hg, hgr, hgt, hfg, q0, q1⟩ := h.entry hen
  rw [hsl] at c0
  have hin : (m.ths i).e < (m.nc : Int) := by omega
  rw [hat] at c4
  clear h hat
  generalize (m.ths i).val = y at *
  clear hsl
  generalize (m.cells (m.ths i).e.toNat).st = x at *
  generalize (m.cells (m.ths i).e.toNat).v = v at *
  generalize (m.ths i).key = k at *
  generalize (m.ths i).e = z at *
  generalize (m.ths i).sst = z1 at *
  generalize (m.ths i).sv = z2 at *
  go_enter Tryz.func36, Tryz.ntmps36
  go_wp2_with fail
  go_region
  go_wp2_with fail
  have h1 := (((H.out.putSeen hi 2 v).alloc (.cells #[.bool false, .bool false, .int .i64 0] 52)).alloc (.cells #[Value.int .i64 0, .int .i64 y] 88)).drew
  have g1 := twoD (w := w) (w1 := (w.setCell ⟨tb, i * 9 + 6, none⟩ (.int .i64 2)).setCell ⟨tb, i * 9 + 6 + 1, none⟩ (.int .i64 v)) (by simp only [size_set]) (.cells #[.bool false, .bool false, .int .i64 0] 52) (.cells #[Value.int .i64 0, .int .i64 y] 88)
  have k1 := (((((Kept.refl [r, tb] w).setCell (p := ⟨tb, i * 9 + 6, none⟩) (.inl (by simp)) (.int .i64 2)).setCell (p := ⟨tb, i * 9 + 6 + 1, none⟩) (.inl (by simp)) (.int .i64 v)).alloc (.cells #[.bool false, .bool false, .int .i64 0] 52)).alloc (.cells #[Value.int .i64 0, .int .i64 y] 88)).drew
  refine Calls.mono (does_of (n := 53) (by simp) (m_goes h1 hi 4)) ?_
  rintro e w2 ⟨rfl, h2, k2⟩
  have r2 := k2.at g1 (by simp; omega)
  have hc2 : ∀ o, w2.cell? ⟨w.heap.size, o, none⟩ = #[.bool false, .bool false, .int .i64 0][o]? := cell_of r2
  have hf2 : ∀ o, w2.frozen? ⟨w.heap.size, o, none⟩ = false := frozen_of r2
  have K1 : Hid _ := k1.trans (k2.mono (by simp))
  have H2 : Hid _ := h2
  clear h1 k1 g1 k2 h2
  simp only [Out.val, res]
  go_wp2
  refine bodyPost_ret (v := res false false 0) (by simp [results, Tryz.results36, go_sem, res, cell_of (resLaid r2 false false 0)]) rfl ⟨rfl, ?_, ?_⟩
  · have h3 := H2.out.resLaid r2 false false 0
    exact h3
  · exact ((K1.out.setCell (.inr (by simp)) _).setCell (.inr (by simp)) _).setCell (.inr (by simp)) _
set_option maxRecDepth 100000 in
set_option maxHeartbeats 800000 in
theorem s_2_on {r tb : Nat} {sl : Value} {B : Nat} {m : M} {w : World} (h : RefAt r tb sl B m w) {i : Nat} (hi : i < m.nth) (he0 : 0 ≤ (m.ths i).e) (hen : (m.ths i).e.toNat < m.nc) (hat : (m.ths i).at_ = 2) (hx : ¬ (m.cells (m.ths i).e.toNat).st = 2) :
    Does 36 #[.pointer (some ⟨r, 0, none⟩), .pointer (some ⟨tb, i * 9, none⟩)] r tb sl B ((m.sees i (m.cells (m.ths i).e.toNat).st (m.cells (m.ths i).e.toNat).v).goes i 3) w := by
  obtain ⟨hs, hf, -, c1, c2, -, c4, c5, c6, c7, -⟩ := h.thCell hi
  obtain ⟨hsr, hfr, c0, -⟩ := h.mapCell
  have hne := h.rne
  have H : Hid _ := h
  obtain ⟨g, cap, hsl, hg, hgr, hgt, hfg, q0, q1⟩ := h.entry hen
  rw [hsl] at c0
  have hin : (m.ths i).e < (m.nc : Int) := by omega
  rw [hat] at c4
  clear h hat
  generalize (m.ths i).val = y at *
  clear hsl
  generalize (m.cells (m.ths i).e.toNat).st = x at *
  generalize (m.cells (m.ths i).e.toNat).v = v at *
  generalize (m.ths i).key = k at *
  generalize (m.ths i).e = z at *
  generalize (m.ths i).sst = z1 at *
  generalize (m.ths i).sv = z2 at *
  go_enter Tryz.func36, Tryz.ntmps36
  go_wp2_with fail
  go_region
  go_wp2_with fail
  have h1 := (((H.out.putSeen hi x v).alloc (.cells #[.bool false, .bool false, .int .i64 0] 52)).alloc (.cells #[Value.int .i64 0, .int .i64 y] 88)).drew
  have g1 := twoD (w := w) (w1 := (w.setCell ⟨tb, i * 9 + 6, none⟩ (.int .i64 x)).setCell ⟨tb, i * 9 + 6 + 1, none⟩ (.int .i64 v)) (by simp only [size_set]) (.cells #[.bool false, .bool false, .int .i64 0] 52) (.cells #[Value.int .i64 0, .int .i64 y] 88)
  have k1 := (((((Kept.refl [r, tb] w).setCell (p := ⟨tb, i * 9 + 6, none⟩) (.inl (by simp)) (.int .i64 x)).setCell (p := ⟨tb, i * 9 + 6 + 1, none⟩) (.inl (by simp)) (.int .i64 v)).alloc (.cells #[.bool false, .bool false, .int .i64 0] 52)).alloc (.cells #[Value.int .i64 0, .int .i64 y] 88)).drew
  refine Calls.mono (does_of (n := 53) (by simp) (m_goes h1 hi 3)) ?_
  rintro e w2 ⟨rfl, h2, k2⟩
  have r2 := k2.at g1 (by simp; omega)
  have hc2 : ∀ o, w2.cell? ⟨w.heap.size, o, none⟩ = #[.bool false, .bool false, .int .i64 0][o]? := cell_of r2
  have hf2 : ∀ o, w2.frozen? ⟨w.heap.size, o, none⟩ = false := frozen_of r2
  have K1 : Hid _ := k1.trans (k2.mono (by simp))
  have H2 : Hid _ := h2
  clear h1 k1 g1 k2 h2
  simp only [Out.val, res]
  go_wp2
  refine bodyPost_ret (v := res false false 0) (by simp [results, Tryz.results36, go_sem, res, cell_of (resLaid r2 false false 0)]) rfl ⟨rfl, ?_, ?_⟩
  · have h3 := H2.out.resLaid r2 false false 0
    exact h3
  · exact ((K1.out.setCell (.inr (by simp)) _).setCell (.inr (by simp)) _).setCell (.inr (by simp)) _
end Go.Proofs.YtfgfpggjcfhccaaGreat
