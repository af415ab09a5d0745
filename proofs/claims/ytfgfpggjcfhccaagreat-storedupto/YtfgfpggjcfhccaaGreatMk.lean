import Derived.Test.YtfgfpggjcfhccaaGreatMj
namespace Go.Proofs.YtfgfpggjcfhccaaGreat
open Go.RowKit
set_option maxRecDepth 100000 in
set_option maxHeartbeats 800000 in
theorem l_end {r tb : Nat} {sl : Value} {B : Nat} {m : M} {w : World} (h : RefAt r tb sl B m w) {i : Nat} (hi : i < m.nth) (he0 : 0 ≤ (m.ths i).e) (hen : (m.ths i).e.toNat < m.nc) (h1 : (m.ths i).at_ = 7) :
    Does 35 #[.pointer (some ⟨r, 0, none⟩), .pointer (some ⟨tb, i * 9, none⟩)] r tb sl B (m.ends i ((m.cells (m.ths i).e.toNat).st == 0) (m.cells (m.ths i).e.toNat).v) w := by
  obtain ⟨hs, hf, -, -, -, -, c4, c5, -⟩ := h.thCell hi
  obtain ⟨hsr, -, c0, -⟩ := h.mapCell
  obtain ⟨g, cap, hsl, hg, hgr, hgt, -, q0, q1⟩ := h.entry hen
  have hne := h.rne
  have H : Hid _ := h
  rw [h1] at c4
  rw [hsl] at c0
  clear h h1 hsl
  have hin : (m.ths i).e < (m.nc : Int) := by omega
  generalize (m.cells (m.ths i).e.toNat).st = x at *
  generalize (m.cells (m.ths i).e.toNat).v = y at *
  generalize (m.ths i).e = z at *
  go_enter Tryz.func35, Tryz.ntmps35
  go_wp2_with fail
  go_region
  go_wp2_with fail
  have h1 := ((H.out.alloc (.cells #[.bool false, .bool false, .int .i64 0] 52)).alloc (.cells #[Value.int .i64 x, .int .i64 y] 88)).drew
  have g1 := (block_alloc_lt (block_alloc_new w (.cells #[.bool false, .bool false, .int .i64 0] 52)) (.cells #[Value.int .i64 x, .int .i64 y] 88) : ((w.alloc (.cells #[.bool false, .bool false, .int .i64 0] 52)).alloc (.cells #[Value.int .i64 x, .int .i64 y] 88)).drew.heap[w.heap.size]? = _)
  have k1 := (((Kept.refl [r, tb] w).alloc (.cells #[.bool false, .bool false, .int .i64 0] 52)).alloc (.cells #[Value.int .i64 x, .int .i64 y] 88)).drew
  refine Calls.mono (does_of (n := 56) (by simp) (m_ends h1 hi (x == 0) y)) ?_
  rintro e w2 ⟨rfl, h2, k2⟩
  have r2 := k2.at g1 (by simp; omega)
  have hc2 : ∀ o, w2.cell? ⟨w.heap.size, o, none⟩ = #[.bool false, .bool false, .int .i64 0][o]? := cell_of r2
  have hf2 : ∀ o, w2.frozen? ⟨w.heap.size, o, none⟩ = false := frozen_of r2
  have K1 : Hid _ := k1.trans (k2.mono (by simp))
  have H2 : Hid _ := h2
  clear h1 k1 g1 k2 h2
  simp only [Out.val, res]
  go_wp2
  refine bodyPost_ret (v := res true (x == 0) y) (by simp [results, Tryz.results35, go_sem, res, cell_of (resLaid r2 true (x == 0) y)]) rfl ⟨rfl, ?_, ?_⟩
  · have h3 := H2.out.resLaid r2 true (x == 0) y
    exact h3
  · exact ((K1.out.setCell (.inr (by simp)) _).setCell (.inr (by simp)) _).setCell (.inr (by simp)) _
/-- What a thread must be for a step of Load. -/
theorem does_load {r tb : Nat} {sl : Value} {B : Nat} {m : M} {w : World} (h : RefAt r tb sl B m w) {i : Nat} (hi : i < m.nth) (hk0 : 0 ≤ (m.ths i).key) (hk7 : (m.ths i).key < 8) (hm0 : 0 ≤ m.mis) (hm1 : m.mis < 1000000)
    (hat : (m.ths i).at_ = 1 ∨ (m.ths i).at_ = 3 ∨ (m.ths i).at_ = 4 ∨ (m.ths i).at_ = 5 ∨ (m.ths i).at_ = 51 ∨ (m.ths i).at_ = 52 ∨ (m.ths i).at_ = 53 ∨ (m.ths i).at_ = 6 ∨ (m.ths i).at_ = 7) (he : (m.ths i).at_ = 7 → 0 ≤ (m.ths i).e ∧ (m.ths i).e.toNat < m.nc) :
    Does 35 #[.pointer (some ⟨r, 0, none⟩), .pointer (some ⟨tb, i * 9, none⟩)] r tb sl B (m.load i) w := by
  unfold M.load
  rcases hat with e | e | e | e | e | e | e | e | e
  · simp only [e, if_true]
    exact l_first h hi hk0 hk7 e
  · simp only [e, if_true, Int.reduceEq, if_false]
    exact l_third h hi hk0 hk7 e
  · simp only [e, if_true, Int.reduceEq, if_false]
    exact l_dirty h hi hk0 hk7 e
  · simp only [e, if_true, Int.reduceEq, if_false, true_or]
    exact l_missed0 h hi hm0 hm1 e
  · simp only [e, if_true, Int.reduceEq, if_false, true_or, or_true]
    exact l_missed1 h hi hm0 hm1 e
  · simp only [e, if_true, Int.reduceEq, if_false, true_or, or_true]
    exact l_missed2 h hi hm0 hm1 e
  · simp only [e, if_true, Int.reduceEq, if_false, or_true]
    exact l_missed3 h hi hm0 hm1 e
  · simp only [e, if_true, Int.reduceEq, if_false, or_false]
    exact l_frees h hi e
  · simp only [e, Int.reduceEq, if_false, or_false]
    exact l_end h hi (he e).1 (he e).2 e
end Go.Proofs.YtfgfpggjcfhccaaGreat
