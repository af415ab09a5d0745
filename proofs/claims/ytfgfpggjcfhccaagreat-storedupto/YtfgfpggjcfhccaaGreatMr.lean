import Derived.Test.YtfgfpggjcfhccaaGreatMq
import Derived.Laws.StructEq
namespace Go.Proofs.YtfgfpggjcfhccaaGreat
open Go.RowKit
theorem u88 : Tryz.prog.underlying 88 = some (.struct (Tryz.prog.fieldsOf 88)) := by
  rw [Program.fieldsOf, Tryz.underlying88]
theorem s88 : Tryz.prog.stoodInHeld 88 = false := by kernel_rfl
theorem g88 : Tryz.prog.eqGuardType Tryz.prog.depth 88 = false := by kernel_rfl
theorem neq88 (a b c e : Int) (w : World) : (binOp .neq 88 (.agg #[.int .i64 a, .int .i64 b]) (.agg #[.int .i64 c, .int .i64 e])).run Tryz.prog w = .ok (.bool (!(a == c && b == e))) w := by
  rw [run_neq_struct, run_equalIn_struct w 9999 88 _ _ u88 s88, Program.fieldsOf, Tryz.underlying88]
  by_cases h1 : a = c <;> by_cases h2 : b = e <;> simp [go_sem, h1, h2]
theorem neqNo {a b c e : Int} (h : ¬ (a = c ∧ b = e)) (w : World) : (binOp .neq 88 (.agg #[.int .i64 a, .int .i64 b]) (.agg #[.int .i64 c, .int .i64 e])).run Tryz.prog w = .ok (.bool true) w := by
  rw [neq88]
  by_cases h1 : a = c
  · have h2 : ¬ b = e := fun h2 => h ⟨h1, h2⟩
    simp [h2]
  · simp [h1]
theorem neqYes {a b c e : Int} (h1 : a = c) (h2 : b = e) (w : World) : (binOp .neq 88 (.agg #[.int .i64 a, .int .i64 b]) (.agg #[.int .i64 c, .int .i64 e])).run Tryz.prog w = .ok (.bool false) w := by
  rw [neq88]
  simp [h1, h2]
set_option maxRecDepth 100000 in
set_option maxHeartbeats 800000 in
theorem s_3_no {r tb : Nat} {sl : Value} {B : Nat} {m : M} {w : World} (h : RefAt r tb sl B m w) {i : Nat} (hi : i < m.nth) (he0 : 0 ≤ (m.ths i).e) (hen : (m.ths i).e.toNat < m.nc) (hat : (m.ths i).at_ = 3) (hx : ¬ ((m.cells (m.ths i).e.toNat).st = (m.ths i).sst ∧ (m.cells (m.ths i).e.toNat).v = (m.ths i).sv)) :
    Does 36 #[.pointer (some ⟨r, 0, none⟩), .pointer (some ⟨tb, i * 9, none⟩)] r tb sl B (m.goes i 2) w := by
  obtain ⟨hs, hf, -, c1, c2, -, c4, c5, c6, c7, -⟩ := h.thCell hi
  obtain ⟨hsr, hfr, c0, -⟩ := h.mapCell
  have hne := h.rne
  have H : Hid _ := h
  obtain ⟨g, cap, hsl, hg, hgr, hgt, hfg, q0, q1⟩ := h.entry hen
  rw [hsl] at c0
  have hin : (m.ths i).e < (m.nc : Int) := by omega
  have HSL : Hid _ := hsl
  have HEN : Hid _ := hen
  rw [hat] at c4
  clear h hat
  generalize (m.ths i).val = y at *
  clear hsl
  generalize (m.cells (m.ths i).e.toNat).st = x at *
  generalize (m.cells (m.ths i).e.toNat).v = v at *
  generalize (m.ths i).key = k at *
  generalize (m.ths i).e = z at *
  generalize (m.ths i).sst = z1 at *
  generalize (m.ths i).sv = z2 at *
  go_enter Tryz.func36, Tryz.ntmps36
  go_wp2_with fail
  have hneq := neqNo hx
  have hgd := g88
  go_quiet (fail)
  go_wp2_with fail
  have h1 := ((H.out.alloc (.cells #[.bool false, .bool false, .int .i64 0] 52)).alloc (.cells #[Value.int .i64 0, .int .i64 y] 88)).drewN nq
  have g1 := twoN w (.cells #[.bool false, .bool false, .int .i64 0] 52) (.cells #[Value.int .i64 0, .int .i64 y] 88) nq
  have k1 := (((Kept.refl [r, tb] w).alloc (.cells #[.bool false, .bool false, .int .i64 0] 52)).alloc (.cells #[Value.int .i64 0, .int .i64 y] 88)).drewN nq
  refine Calls.mono (does_of (n := 53) (by simp) (m_goes h1 hi 2)) ?_
  rintro e w2 ⟨rfl, h2, k2⟩
  have r2 := k2.at g1 (by simp; omega)
  have hc2 : ∀ o, w2.cell? ⟨w.heap.size, o, none⟩ = #[.bool false, .bool false, .int .i64 0][o]? := cell_of r2
  have hf2 : ∀ o, w2.frozen? ⟨w.heap.size, o, none⟩ = false := frozen_of r2
  have K1 : Hid _ := k1.trans (k2.mono (by simp))
  have H2 : Hid _ := h2
  clear h1 k1 g1 k2 h2
  simp only [Out.val, res]
  go_wp2
  refine bodyPost_ret (v := res false false 0) (by simp [results, Tryz.results36, go_sem, res, cell_of (resLaid r2 false false 0)]) rfl ⟨rfl, ?_, ?_⟩
  · have h3 := H2.out.resLaid r2 false false 0
    exact h3
  · exact ((K1.out.setCell (.inr (by simp)) _).setCell (.inr (by simp)) _).setCell (.inr (by simp)) _
set_option maxRecDepth 100000 in
set_option maxHeartbeats 800000 in
theorem s_3_yes {r tb : Nat} {sl : Value} {B : Nat} {m : M} {w : World} (h : RefAt r tb sl B m w) {i : Nat} (hi : i < m.nth) (he0 : 0 ≤ (m.ths i).e) (hen : (m.ths i).e.toNat < m.nc) (hat : (m.ths i).at_ = 3) (hx : (m.cells (m.ths i).e.toNat).st = (m.ths i).sst) (hy : (m.cells (m.ths i).e.toNat).v = (m.ths i).sv) :
    DoesS 36 #[.pointer (some ⟨r, 0, none⟩), .pointer (some ⟨tb, i * 9, none⟩)] r tb sl B ({ m with cells := put m.cells (m.ths i).e.toNat ⟨0, (m.ths i).val⟩ }.ends i true (m.ths i).val) w := by
  obtain ⟨hs, hf, -, c1, c2, -, c4, c5, c6, c7, -⟩ := h.thCell hi
  obtain ⟨hsr, hfr, c0, -⟩ := h.mapCell
  have hne := h.rne
  have H : Hid _ := h
  obtain ⟨g, cap, hsl, hg, hgr, hgt, hfg, q0, q1⟩ := h.entry hen
  rw [hsl] at c0
  have hin : (m.ths i).e < (m.nc : Int) := by omega
  have HSL : Hid _ := hsl
  have HEN : Hid _ := hen
  rw [hat] at c4
  clear h hat
  generalize (m.ths i).val = y at *
  clear hsl
  generalize (m.cells (m.ths i).e.toNat).st = x at *
  generalize (m.cells (m.ths i).e.toNat).v = v at *
  generalize (m.ths i).key = k at *
  generalize (m.ths i).e = z at *
  generalize (m.ths i).sst = z1 at *
  generalize (m.ths i).sv = z2 at *
  go_enter Tryz.func36, Tryz.ntmps36
  go_wp2_with fail
  have hneq := neqYes hx hy
  have hgd := g88
  clear hx hy
  go_quiet (fail)
  clear hneq hgd
  go_wp2_with fail
  go_region
  go_wp2_with fail
  have hob : sl.ownBlock = some g := by rw [HSL.out]; rfl
  have hmem : g ∈ r :: tb :: sl.ownBlock.toList := by rw [hob]; simp
  have h1 := (((H.out.alloc (.cells #[.bool false, .bool false, .int .i64 0] 52)).alloc (.cells #[Value.int .i64 0, .int .i64 y] 88)).drewN (nq + 1)).setEntry HSL.out hen 0 y
  have g1 := block_set_ne (block_set_ne (twoN w (.cells #[.bool false, .bool false, .int .i64 0] 52) (.cells #[Value.int .i64 0, .int .i64 y] 88) (nq + 1)) (Nat.ne_of_gt hg) (z.toNat * 2) (.int .i64 0)) (Nat.ne_of_gt hg) (z.toNat * 2 + 1) (.int .i64 y)
  have k1 := (((((Kept.refl (r :: tb :: sl.ownBlock.toList) w).alloc (.cells #[.bool false, .bool false, .int .i64 0] 52)).alloc (.cells #[Value.int .i64 0, .int .i64 y] 88)).drewN (nq + 1)).setCell (p := ⟨g, z.toNat * 2, none⟩) (.inl hmem) (.int .i64 0)).setCell (p := ⟨g, z.toNat * 2 + 1, none⟩) (.inl hmem) (.int .i64 y)
  refine Calls.mono (does_of (n := 56) (F := [tb]) (by simp) (m_ends h1 hi true y)) ?_
  rintro e w2 ⟨rfl, h2, k2⟩
  have r2 := k2.at g1 (by simp; omega)
  have hc2 : ∀ o, w2.cell? ⟨w.heap.size, o, none⟩ = #[.bool false, .bool false, .int .i64 0][o]? := cell_of r2
  have hf2 : ∀ o, w2.frozen? ⟨w.heap.size, o, none⟩ = false := frozen_of r2
  have K1 : Hid _ := k1.trans (k2.mono (by simp))
  have H2 : Hid _ := h2
  clear hob hmem h1 k1 g1 k2 h2
  simp only [Out.val, res]
  go_wp2
  refine bodyPost_ret (v := res true true y) (by simp [results, Tryz.results36, go_sem, res, cell_of (resLaid r2 true true y)]) rfl ⟨rfl, ⟨sl, ?_, fun g hg => .inl hg⟩, ?_⟩
  · have h3 := H2.out.resLaid r2 true true y
    exact h3
  · exact ((K1.out.setCell (.inr (by simp)) _).setCell (.inr (by simp)) _).setCell (.inr (by simp)) _
end Go.Proofs.YtfgfpggjcfhccaaGreat
