import Derived.Test.YtmnkphenobfbfaaGreatXk
import Derived.Laws.StructEq
import Derived.Deep.AppendLies
import Derived.Deep.RegionLaw
namespace Go.Proofs.YtmnkphenobfbfaaGreat
open Go.RowKit
theorem RefAt.drewN {r tb : Nat} {sl : Value} {B : Nat} {m : M} {w : World} (h : RefAt r tb sl B m w) (n : Nat) : RefAt r tb sl B m (w.drewN n) := h.keptNil ((Kept.refl [] w).drewN n)
theorem twoN (w : World) (o1 o2 : Obj) (n : Nat) : (((w.alloc o1).alloc o2).drewN n).heap[w.heap.size]? = some o1 := two (w1 := w) rfl o1 o2
set_option maxRecDepth 100000 in
set_option maxHeartbeats 800000 in
theorem s_6_out {r tb : Nat} {sl : Value} {B : Nat} {m : M} {w : World} (h : RefAt r tb sl B m w) {i : Nat} (hi : i < m.nth) (he0 : 0 ≤ (m.ths i).e) (hen : (m.ths i).e.toNat < m.nc) (hat : (m.ths i).at_ = 6) (hx : ¬ (m.cells (m.ths i).e.toNat).st = 2) :
    Does 37 #[.pointer (some ⟨r, 0, none⟩), .pointer (some ⟨tb, i * 9, none⟩)] r tb sl B (m.goes i 13) w := by
  obtain ⟨hs, hf, -, c1, c2, -, c4, c5, -⟩ := h.thCell hi
  obtain ⟨hsr, hfr, c0, -⟩ := h.mapCell
  have hne := h.rne
  have H : Hid _ := h
  obtain ⟨g, cap, hsl, hg, hgr, hgt, hfg, q0, q1⟩ := h.entry hen
  rw [hsl] at c0
  have hin : (m.ths i).e < (m.nc : Int) := by omega
  have HSL : Hid _ := hsl
  have HEN : Hid _ := hen
  rw [hat] at c4
  clear h hat
  generalize (m.ths i).val = y at *
  clear hsl
  generalize (m.cells (m.ths i).e.toNat).st = x at *
  generalize (m.cells (m.ths i).e.toNat).v = v at *
  generalize (m.ths i).key = k at *
  generalize (m.ths i).e = z at *
  go_enter Tryz.func37, Tryz.ntmps37
  go_wp2_with fail
  go_quiet (fail)
  go_wp2_with fail
  have h1 := ((H.out.alloc (.cells #[.bool false, .bool false, .int .i64 0] 52)).alloc (.cells #[Value.int .i64 0, .int .i64 y] 88)).drewN nq
  have g1 := twoN w (.cells #[.bool false, .bool false, .int .i64 0] 52) (.cells #[Value.int .i64 0, .int .i64 y] 88) nq
  have k1 := (((Kept.refl [r, tb] w).alloc (.cells #[.bool false, .bool false, .int .i64 0] 52)).alloc (.cells #[Value.int .i64 0, .int .i64 y] 88)).drewN nq
  refine Calls.mono (does_of (n := 54) (by simp) (m_goes h1 hi 13)) ?_
  rintro e w2 ⟨rfl, h2, k2⟩
  have r2 := k2.at g1 (by simp; omega)
  have hc2 : ∀ o, w2.cell? ⟨w.heap.size, o, none⟩ = #[.bool false, .bool false, .int .i64 0][o]? := cell_of r2
  have hf2 : ∀ o, w2.frozen? ⟨w.heap.size, o, none⟩ = false := frozen_of r2
  have K1 : Hid _ := k1.trans (k2.mono (by simp))
  have H2 : Hid _ := h2
  clear h1 k1 g1 k2 h2
  simp only [Out.val, res]
  go_wp2
  refine bodyPost_ret (v := res false false 0) (by simp [results, Tryz.results37, go_sem, res, cell_of (resLaid r2 false false 0)]) rfl ⟨rfl, ?_, ?_⟩
  · have h3 := H2.out.resLaid r2 false false 0
    exact h3
  · exact ((K1.out.setCell (.inr (by simp)) _).setCell (.inr (by simp)) _).setCell (.inr (by simp)) _
set_option maxRecDepth 100000 in
set_option maxHeartbeats 800000 in
theorem s_6_on {r tb : Nat} {sl : Value} {B : Nat} {m : M} {w : World} (h : RefAt r tb sl B m w) {i : Nat} (hi : i < m.nth) (he0 : 0 ≤ (m.ths i).e) (hen : (m.ths i).e.toNat < m.nc) (hat : (m.ths i).at_ = 6) (hx : (m.cells (m.ths i).e.toNat).st = 2) :
    DoesS 37 #[.pointer (some ⟨r, 0, none⟩), .pointer (some ⟨tb, i * 9, none⟩)] r tb sl B ({ m with cells := put m.cells (m.ths i).e.toNat ⟨1, 0⟩ }.goes i 7) w := by
  obtain ⟨hs, hf, -, c1, c2, -, c4, c5, -⟩ := h.thCell hi
  obtain ⟨hsr, hfr, c0, -⟩ := h.mapCell
  have hne := h.rne
  have H : Hid _ := h
  obtain ⟨g, cap, hsl, hg, hgr, hgt, hfg, q0, q1⟩ := h.entry hen
  rw [hsl] at c0
  have hin : (m.ths i).e < (m.nc : Int) := by omega
  have HSL : Hid _ := hsl
  have HEN : Hid _ := hen
  rw [hat] at c4
  clear h hat
  generalize (m.ths i).val = y at *
  clear hsl
  generalize (m.cells (m.ths i).e.toNat).st = x at *
  generalize (m.cells (m.ths i).e.toNat).v = v at *
  generalize (m.ths i).key = k at *
  generalize (m.ths i).e = z at *
  go_enter Tryz.func37, Tryz.ntmps37
  go_wp2_with fail
  go_quiet (fail)
  go_wp2_with fail
  go_region
  go_wp2_with fail
  have hob : sl.ownBlock = some g := by rw [HSL.out]; rfl
  have hmem : g ∈ r :: tb :: sl.ownBlock.toList := by rw [hob]; simp
  have h1 := (((H.out.alloc (.cells #[.bool false, .bool false, .int .i64 0] 52)).alloc (.cells #[Value.int .i64 0, .int .i64 y] 88)).drewN (nq + 1)).setEntry HSL.out hen 1 0
  have g1 := block_set_ne (block_set_ne (twoN w (.cells #[.bool false, .bool false, .int .i64 0] 52) (.cells #[Value.int .i64 0, .int .i64 y] 88) (nq + 1)) (Nat.ne_of_gt hg) (z.toNat * 2) (.int .i64 1)) (Nat.ne_of_gt hg) (z.toNat * 2 + 1) (.int .i64 0)
  have k1 := (((((Kept.refl (r :: tb :: sl.ownBlock.toList) w).alloc (.cells #[.bool false, .bool false, .int .i64 0] 52)).alloc (.cells #[Value.int .i64 0, .int .i64 y] 88)).drewN (nq + 1)).setCell (p := ⟨g, z.toNat * 2, none⟩) (.inl hmem) (.int .i64 1)).setCell (p := ⟨g, z.toNat * 2 + 1, none⟩) (.inl hmem) (.int .i64 0)
  refine Calls.mono (does_of (n := 54) (F := [tb]) (by simp) (m_goes h1 hi 7)) ?_
  rintro e w2 ⟨rfl, h2, k2⟩
  have r2 := k2.at g1 (by simp; omega)
  have hc2 : ∀ o, w2.cell? ⟨w.heap.size, o, none⟩ = #[.bool false, .bool false, .int .i64 0][o]? := cell_of r2
  have hf2 : ∀ o, w2.frozen? ⟨w.heap.size, o, none⟩ = false := frozen_of r2
  have K1 : Hid _ := k1.trans (k2.mono (by simp))
  have H2 : Hid _ := h2
  clear hob hmem h1 k1 g1 k2 h2
  simp only [Out.val, res]
  go_wp2
  refine bodyPost_ret (v := res false false 0) (by simp [results, Tryz.results37, go_sem, res, cell_of (resLaid r2 false false 0)]) rfl ⟨rfl, ⟨sl, ?_, fun g hg => .inl hg⟩, ?_⟩
  · have h3 := H2.out.resLaid r2 false false 0
    exact h3
  · exact ((K1.out.setCell (.inr (by simp)) _).setCell (.inr (by simp)) _).setCell (.inr (by simp)) _
set_option maxRecDepth 100000 in
set_option maxHeartbeats 800000 in
theorem s_7 {r tb : Nat} {sl : Value} {B : Nat} {m : M} {w : World} (h : RefAt r tb sl B m w) {i : Nat} (hi : i < m.nth) (hk0 : 0 ≤ (m.ths i).key) (hk7 : (m.ths i).key < 8) (hat : (m.ths i).at_ = 7) :
    Does 37 #[.pointer (some ⟨r, 0, none⟩), .pointer (some ⟨tb, i * 9, none⟩)] r tb sl B ({ m with dirty := put m.dirty (m.key i) (m.ths i).e }.goes i 13) w := by
  obtain ⟨hs, hf, -, c1, c2, -, c4, c5, -⟩ := h.thCell hi
  obtain ⟨hsr, hfr, -, -, -, -, cdt, -⟩ := h.mapCell
  have hne := h.rne
  have H : Hid _ := h
  have ck := cdt (m.ths i).key.toNat (by omega)
  rw [hat] at c4
  clear h hat
  generalize (m.ths i).val = y at *
  clear cdt
  simp only [M.key]
  generalize (m.ths i).e = z at *
  generalize (m.ths i).key = k at *
  go_enter Tryz.func37, Tryz.ntmps37
  go_wp2_with fail
  go_region
  go_wp2_with fail
  have h1 := (((H.out.setDirty (k := k.toNat) (by omega) z).alloc (.cells #[.bool false, .bool false, .int .i64 0] 52)).alloc (.cells #[Value.int .i64 0, .int .i64 y] 88)).drew
  have g1 := twoD (w := w) (size_set w ⟨r, 11 + k.toNat, none⟩ (.int .i64 z)) (.cells #[.bool false, .bool false, .int .i64 0] 52) (.cells #[Value.int .i64 0, .int .i64 y] 88)
  have k1 := ((((Kept.refl [r, tb] w).setCell (p := ⟨r, 11 + k.toNat, none⟩) (.inl (by simp)) (.int .i64 z)).alloc (.cells #[.bool false, .bool false, .int .i64 0] 52)).alloc (.cells #[Value.int .i64 0, .int .i64 y] 88)).drew
  refine Calls.mono (does_of (n := 54) (by simp) (m_goes h1 hi 13)) ?_
  rintro e w2 ⟨rfl, h2, k2⟩
  have r2 := k2.at g1 (by simp; omega)
  have hc2 : ∀ o, w2.cell? ⟨w.heap.size, o, none⟩ = #[.bool false, .bool false, .int .i64 0][o]? := cell_of r2
  have hf2 : ∀ o, w2.frozen? ⟨w.heap.size, o, none⟩ = false := frozen_of r2
  have K1 : Hid _ := k1.trans (k2.mono (by simp))
  have H2 : Hid _ := h2
  clear h1 k1 g1 k2 h2
  simp only [Out.val, res]
  go_wp2
  refine bodyPost_ret (v := res false false 0) (by simp [results, Tryz.results37, go_sem, res, cell_of (resLaid r2 false false 0)]) rfl ⟨rfl, ?_, ?_⟩
  · have h3 := H2.out.resLaid r2 false false 0
    exact h3
  · exact ((K1.out.setCell (.inr (by simp)) _).setCell (.inr (by simp)) _).setCell (.inr (by simp)) _
end Go.Proofs.YtmnkphenobfbfaaGreat
namespace Go.Proofs.YtmnkphenobfbfaaGreat
open Go.RowKit
theorem u88 : Tryz.prog.underlying 88 = some (.struct (Tryz.prog.fieldsOf 88)) := by
  rw [Program.fieldsOf, Tryz.underlying88]
theorem s88 : Tryz.prog.stoodInHeld 88 = false := by kernel_rfl
theorem g88 : Tryz.prog.eqGuardType Tryz.prog.depth 88 = false := by kernel_rfl
theorem neq88 (a b c e : Int) (w : World) : (binOp .neq 88 (.agg #[.int .i64 a, .int .i64 b]) (.agg #[.int .i64 c, .int .i64 e])).run Tryz.prog w = .ok (.bool (!(a == c && b == e))) w := by
  rw [run_neq_struct, run_equalIn_struct w 9999 88 _ _ u88 s88, Program.fieldsOf, Tryz.underlying88]
  by_cases h1 : a = c <;> by_cases h2 : b = e <;> simp [go_sem, h1, h2]
theorem neqNo {a b c e : Int} (h : ¬ (a = c ∧ b = e)) (w : World) : (binOp .neq 88 (.agg #[.int .i64 a, .int .i64 b]) (.agg #[.int .i64 c, .int .i64 e])).run Tryz.prog w = .ok (.bool true) w := by
  rw [neq88]
  by_cases h1 : a = c
  · have h2 : ¬ b = e := fun h2 => h ⟨h1, h2⟩
    simp [h2]
  · simp [h1]
theorem neqYes {a b c e : Int} (h1 : a = c) (h2 : b = e) (w : World) : (binOp .neq 88 (.agg #[.int .i64 a, .int .i64 b]) (.agg #[.int .i64 c, .int .i64 e])).run Tryz.prog w = .ok (.bool false) w := by
  rw [neq88]
  simp [h1, h2]
set_option maxRecDepth 100000 in
set_option maxHeartbeats 800000 in
theorem s_3_no {r tb : Nat} {sl : Value} {B : Nat} {m : M} {w : World} (h : RefAt r tb sl B m w) {i : Nat} (hi : i < m.nth) (he0 : 0 ≤ (m.ths i).e) (hen : (m.ths i).e.toNat < m.nc) (hat : (m.ths i).at_ = 3) (hx : ¬ ((m.cells (m.ths i).e.toNat).st = (m.ths i).sst ∧ (m.cells (m.ths i).e.toNat).v = (m.ths i).sv)) :
    Does 37 #[.pointer (some ⟨r, 0, none⟩), .pointer (some ⟨tb, i * 9, none⟩)] r tb sl B (m.goes i 2) w := by
  obtain ⟨hs, hf, -, c1, c2, -, c4, c5, c6, c7, -⟩ := h.thCell hi
  obtain ⟨hsr, hfr, c0, -⟩ := h.mapCell
  have hne := h.rne
  have H : Hid _ := h
  obtain ⟨g, cap, hsl, hg, hgr, hgt, hfg, q0, q1⟩ := h.entry hen
  rw [hsl] at c0
  have hin : (m.ths i).e < (m.nc : Int) := by omega
  have HSL : Hid _ := hsl
  have HEN : Hid _ := hen
  rw [hat] at c4
  clear h hat
  generalize (m.ths i).val = y at *
  clear hsl
  generalize (m.cells (m.ths i).e.toNat).st = x at *
  generalize (m.cells (m.ths i).e.toNat).v = v at *
  generalize (m.ths i).key = k at *
  generalize (m.ths i).e = z at *
  generalize (m.ths i).sst = z1 at *
  generalize (m.ths i).sv = z2 at *
  go_enter Tryz.func37, Tryz.ntmps37
  go_wp2_with fail
  have hneq := neqNo hx
  have hgd := g88
  go_quiet (fail)
  go_wp2_with fail
  have h1 := ((H.out.alloc (.cells #[.bool false, .bool false, .int .i64 0] 52)).alloc (.cells #[Value.int .i64 0, .int .i64 y] 88)).drewN nq
  have g1 := twoN w (.cells #[.bool false, .bool false, .int .i64 0] 52) (.cells #[Value.int .i64 0, .int .i64 y] 88) nq
  have k1 := (((Kept.refl [r, tb] w).alloc (.cells #[.bool false, .bool false, .int .i64 0] 52)).alloc (.cells #[Value.int .i64 0, .int .i64 y] 88)).drewN nq
  refine Calls.mono (does_of (n := 54) (by simp) (m_goes h1 hi 2)) ?_
  rintro e w2 ⟨rfl, h2, k2⟩
  have r2 := k2.at g1 (by simp; omega)
  have hc2 : ∀ o, w2.cell? ⟨w.heap.size, o, none⟩ = #[.bool false, .bool false, .int .i64 0][o]? := cell_of r2
  have hf2 : ∀ o, w2.frozen? ⟨w.heap.size, o, none⟩ = false := frozen_of r2
  have K1 : Hid _ := k1.trans (k2.mono (by simp))
  have H2 : Hid _ := h2
  clear h1 k1 g1 k2 h2
  simp only [Out.val, res]
  go_wp2
  refine bodyPost_ret (v := res false false 0) (by simp [results, Tryz.results37, go_sem, res, cell_of (resLaid r2 false false 0)]) rfl ⟨rfl, ?_, ?_⟩
  · have h3 := H2.out.resLaid r2 false false 0
    exact h3
  · exact ((K1.out.setCell (.inr (by simp)) _).setCell (.inr (by simp)) _).setCell (.inr (by simp)) _
set_option maxRecDepth 100000 in
set_option maxHeartbeats 800000 in
theorem s_3_yes {r tb : Nat} {sl : Value} {B : Nat} {m : M} {w : World} (h : RefAt r tb sl B m w) {i : Nat} (hi : i < m.nth) (he0 : 0 ≤ (m.ths i).e) (hen : (m.ths i).e.toNat < m.nc) (hat : (m.ths i).at_ = 3) (hx : (m.cells (m.ths i).e.toNat).st = (m.ths i).sst) (hy : (m.cells (m.ths i).e.toNat).v = (m.ths i).sv) :
    DoesS 37 #[.pointer (some ⟨r, 0, none⟩), .pointer (some ⟨tb, i * 9, none⟩)] r tb sl B ({ m with cells := put m.cells (m.ths i).e.toNat ⟨0, (m.ths i).val⟩ }.ends i true (m.ths i).val) w := by
  obtain ⟨hs, hf, -, c1, c2, -, c4, c5, c6, c7, -⟩ := h.thCell hi
  obtain ⟨hsr, hfr, c0, -⟩ := h.mapCell
  have hne := h.rne
  have H : Hid _ := h
  obtain ⟨g, cap, hsl, hg, hgr, hgt, hfg, q0, q1⟩ := h.entry hen
  rw [hsl] at c0
  have hin : (m.ths i).e < (m.nc : Int) := by omega
  have HSL : Hid _ := hsl
  have HEN : Hid _ := hen
  rw [hat] at c4
  clear h hat
  generalize (m.ths i).val = y at *
  clear hsl
  generalize (m.cells (m.ths i).e.toNat).st = x at *
  generalize (m.cells (m.ths i).e.toNat).v = v at *
  generalize (m.ths i).key = k at *
  generalize (m.ths i).e = z at *
  generalize (m.ths i).sst = z1 at *
  generalize (m.ths i).sv = z2 at *
  go_enter Tryz.func37, Tryz.ntmps37
  go_wp2_with fail
  have hneq := neqYes hx hy
  have hgd := g88
  clear hx hy
  go_quiet (fail)
  clear hneq hgd
  go_wp2_with fail
  go_region
  go_wp2_with fail
  have hob : sl.ownBlock = some g := by rw [HSL.out]; rfl
  have hmem : g ∈ r :: tb :: sl.ownBlock.toList := by rw [hob]; simp
  have h1 := (((H.out.alloc (.cells #[.bool false, .bool false, .int .i64 0] 52)).alloc (.cells #[Value.int .i64 0, .int .i64 y] 88)).drewN (nq + 1)).setEntry HSL.out hen 0 y
  have g1 := block_set_ne (block_set_ne (twoN w (.cells #[.bool false, .bool false, .int .i64 0] 52) (.cells #[Value.int .i64 0, .int .i64 y] 88) (nq + 1)) (Nat.ne_of_gt hg) (z.toNat * 2) (.int .i64 0)) (Nat.ne_of_gt hg) (z.toNat * 2 + 1) (.int .i64 y)
  have k1 := (((((Kept.refl (r :: tb :: sl.ownBlock.toList) w).alloc (.cells #[.bool false, .bool false, .int .i64 0] 52)).alloc (.cells #[Value.int .i64 0, .int .i64 y] 88)).drewN (nq + 1)).setCell (p := ⟨g, z.toNat * 2, none⟩) (.inl hmem) (.int .i64 0)).setCell (p := ⟨g, z.toNat * 2 + 1, none⟩) (.inl hmem) (.int .i64 y)
  refine Calls.mono (does_of (n := 57) (F := [tb]) (by simp) (m_ends h1 hi true y)) ?_
  rintro e w2 ⟨rfl, h2, k2⟩
  have r2 := k2.at g1 (by simp; omega)
  have hc2 : ∀ o, w2.cell? ⟨w.heap.size, o, none⟩ = #[.bool false, .bool false, .int .i64 0][o]? := cell_of r2
  have hf2 : ∀ o, w2.frozen? ⟨w.heap.size, o, none⟩ = false := frozen_of r2
  have K1 : Hid _ := k1.trans (k2.mono (by simp))
  have H2 : Hid _ := h2
  clear hob hmem h1 k1 g1 k2 h2
  simp only [Out.val, res]
  go_wp2
  refine bodyPost_ret (v := res true true y) (by simp [results, Tryz.results37, go_sem, res, cell_of (resLaid r2 true true y)]) rfl ⟨rfl, ⟨sl, ?_, fun g hg => .inl hg⟩, ?_⟩
  · have h3 := H2.out.resLaid r2 true true y
    exact h3
  · exact ((K1.out.setCell (.inr (by simp)) _).setCell (.inr (by simp)) _).setCell (.inr (by simp)) _
end Go.Proofs.YtmnkphenobfbfaaGreat
namespace Go.Proofs.YtmnkphenobfbfaaGreat
open Go.RowKit
theorem info88 : ∃ i, Tryz.prog.info? 88 = some i ∧ i.zero = some (.agg #[.int .i64 0, .int .i64 0]) ∧ i.size = 2 ∧ i.bytes = 16 := by
  have h : (Tryz.prog.info? 88).map (fun i => (i.zero, i.size, i.bytes)) = some (some (.agg #[.int .i64 0, .int .i64 0]), 2, 16) := by kernel_rfl
  obtain ⟨i, hi, hb⟩ := Option.map_eq_some_iff.1 h
  simp only [Prod.mk.injEq] at hb
  exact ⟨i, hi, hb.1, hb.2.1, hb.2.2⟩
theorem cellList_put (c : Nat → Cel) (n : Nat) (x y : Int) : cellList (put c n ⟨x, y⟩) (n + 1) = cellList c n ++ [.int .i64 x, .int .i64 y] := by
  have e : ∀ k, k ≤ n → cellList (put c n ⟨x, y⟩) k = cellList c k := by
    intro k
    induction k with
    | zero => intro _; rfl
    | succ k ih =>
      intro hk
      simp only [cellList]
      rw [ih (by omega), put_other _ _ (by omega)]
  simp only [cellList]
  rw [e n (Nat.le_refl n), put_same]
theorem RefAt.grow {r tb : Nat} {sl sl' : Value} {B : Nat} {m : M} {w w1 : World} (h : RefAt r tb sl B m w) (hg : w.grownBy w1 sl.ownBlock) (x y : Int)
    (ho : w1.ownsRow B 88 2 sl' (m.nc + 1) (cellList m.cells m.nc ++ [.int .i64 x, .int .i64 y])) : RefAt r tb sl' B (m.adds x y) (w1.setCell ⟨r, 0, none⟩ sl') := by
  obtain ⟨cs, a1, a2⟩ := h.own
  obtain ⟨ct, b1, b2, b3⟩ := h.ths
  have hr : w1.heap[r]? = some (.cells cs 59 (0, 0)) := (hg.block r (lt_of_block a1) (fun e => (h.own_ne e.symm).1 rfl)).trans a1
  have ht : w1.heap[tb]? = some (.cells ct 90 (0, 0)) := (hg.block tb (lt_of_block b1) (fun e => (h.own_ne e.symm).2 rfl)).trans b1
  have hsz := a2.size
  refine ⟨h.nth, ⟨_, block_set_same hr _ _, ⟨by simpa using hsz, ?_, ?_, ?_, ?_, ?_, ?_, ?_, ?_, ?_⟩⟩, ⟨ct, block_set_ne ht (Ne.symm h.rne) _ _, b2, b3⟩, ?_⟩
  · rw [Array.getElem?_setIfInBounds_self_of_lt (by omega)]
  · intro k hk; rw [Array.getElem?_setIfInBounds_ne (by omega)]; exact a2.rd k hk
  · rw [Array.getElem?_setIfInBounds_ne (by omega)]; exact a2.am
  · rw [Array.getElem?_setIfInBounds_ne (by omega)]; exact a2.hd
  · intro k hk; rw [Array.getElem?_setIfInBounds_ne (by omega)]; exact a2.dt k hk
  · rw [Array.getElem?_setIfInBounds_ne (by omega)]; exact a2.mis
  · rw [Array.getElem?_setIfInBounds_ne (by omega)]; exact a2.hol
  · rw [Array.getElem?_setIfInBounds_ne (by omega)]; exact a2.cl
  · rw [Array.getElem?_setIfInBounds_ne (by omega)]; exact a2.th
  · show World.ownsRow _ B 88 2 sl' (m.nc + 1) (cellList (put m.cells m.nc ⟨x, y⟩) (m.nc + 1))
    rw [cellList_put]
    refine ⟨ho.1, ?_⟩
    rcases ho.2 with h' | ⟨g', cap', cur, e1, e2, e3, e4⟩
    · exact .inl h'
    · exact .inr ⟨g', cap', cur, e1, e2, block_set_ne e3 (ne_of_blocks e3 hr (by simp)) _ _, e4⟩
theorem Kept.ofGrown {w w' : World} {o : Option Nat} (h : w.grownBy w' o) : Kept o.toList w w' :=
  ⟨h.os, h.tape, h.output, h.size, fun k hk hn => h.block k hk (fun e => hn (by rw [← e]; simp))⟩
theorem RefAt.notOwn {r tb : Nat} {sl : Value} {B : Nat} {m : M} {w : World} (h : RefAt r tb sl B m w) {b : Nat} {cs : Array Value} {t : TypeId} (hb : w.heap[b]? = some (.cells cs t (0, 0))) (ht : t ≠ 88) : b ∉ sl.ownBlock.toList := by
  rcases h.row.2 with ⟨rfl, _⟩ | ⟨g, cap, cur, rfl, _, e3, _⟩
  · simp [Value.ownBlock]
  · simp only [Value.ownBlock, Option.toList, List.mem_singleton]
    rintro rfl
    rw [hb] at e3
    simp only [Option.some.injEq, Obj.cells.injEq] at e3
    exact ht e3.2.1
set_option maxRecDepth 100000 in
set_option maxHeartbeats 800000 in
theorem s_12 {r tb : Nat} {sl : Value} {B : Nat} {m : M} {w : World} (h : RefAt r tb sl B m w) {i : Nat} (hi : i < m.nth) (hk0 : 0 ≤ (m.ths i).key) (hk7 : (m.ths i).key < 8) (hat : (m.ths i).at_ = 12) (hnc : m.nc < 1000000) (hB : B ≤ w.heap.size) :
    DoesS 37 #[.pointer (some ⟨r, 0, none⟩), .pointer (some ⟨tb, i * 9, none⟩)] r tb sl B ({ m.adds 0 (m.ths i).val with dirty := put m.dirty (m.key i) m.nc }.goes i 14) w := by
  obtain ⟨hs, hf, -, c1, c2, -, c4, -⟩ := h.thCell hi
  obtain ⟨hsr, hfr, c0, -⟩ := h.mapCell
  have hne := h.rne
  have hor : sl.ownBlock ≠ some r := fun e => (h.own_ne e).1 rfl
  have H : Hid _ := h
  rw [hat] at c4
  clear h hat
  simp only [M.key]
  generalize (m.ths i).val = y at *
  generalize (m.ths i).key = k at *
  obtain ⟨i0, hi0, hz0, hz1, hz2⟩ := info88
  go_enter Tryz.func37, Tryz.ntmps37
  go_wp2_with fail
  have h1 := (H.out.alloc (.cells #[.bool false, .bool false, .int .i64 0] 52)).alloc (.cells #[Value.int .i64 0, .int .i64 y] 88)
  have g1 := two (w1 := w) (w := w) rfl (.cells #[.bool false, .bool false, .int .i64 0] 52) (.cells #[Value.int .i64 0, .int .i64 y] 88)
  have g6 : ((w.alloc (.cells #[.bool false, .bool false, .int .i64 0] 52)).alloc (.cells #[Value.int .i64 0, .int .i64 y] 88)).heap[w.heap.size + 1]? = some (.cells #[Value.int .i64 0, .int .i64 y] 88 (0, 0)) := by
    have := block_alloc_new (w.alloc (.cells #[.bool false, .bool false, .int .i64 0] 52)) (.cells #[Value.int .i64 0, .int .i64 y] 88)
    simpa using this
  have k1 := ((Kept.refl [] w).alloc (.cells #[.bool false, .bool false, .int .i64 0] 52)).alloc (.cells #[Value.int .i64 0, .int .i64 y] 88)
  clear c0 c1 c2 c4 hf hfr H
  generalize (w.alloc (.cells #[.bool false, .bool false, .int .i64 0] 52)).alloc (.cells #[Value.int .i64 0, .int .i64 y] 88) = W0 at *
  obtain ⟨hsr0, hfr0, c0, -⟩ := h1.mapCell
  have c60 : W0.cell? ⟨w.heap.size + 1, 0, none⟩ = some (.int .i64 0) := cell_of g6 0
  have c61 : W0.cell? ⟨w.heap.size + 1, 1, none⟩ = some (.int .i64 y) := cell_of g6 1
  have hsz := k1.size
  have H1 : Hid _ := h1
  have G1 : Hid _ := g1
  have G6 : Hid _ := g6
  have K1 : Hid _ := k1
  have row0 : (W0.alloc (.cells #[.int .i64 0, .int .i64 y] 88)).drew.ownsRow B 88 2 sl m.nc (cellList m.cells m.nc) := (h1.alloc (.cells #[.int .i64 0, .int .i64 y] 88)).drew.row
  have nb0 : (W0.alloc (.cells #[.int .i64 0, .int .i64 y] 88)).drew.heap[W0.heap.size]? = some (.cells #[.int .i64 0, .int .i64 y] 88 (0, 0)) := block_alloc_new W0 _
  have cr0 : (W0.alloc (.cells #[.int .i64 0, .int .i64 y] 88)).drew.cell? ⟨r, 0, none⟩ = some sl := (h1.alloc (.cells #[.int .i64 0, .int .i64 y] 88)).drew.mapCell.2.2.1
  have fr0 : ∀ o, (W0.alloc (.cells #[.int .i64 0, .int .i64 y] 88)).drew.frozen? ⟨r, o, none⟩ = false := (h1.alloc (.cells #[.int .i64 0, .int .i64 y] 88)).drew.mapCell.2.1
  have ROW0 : Hid _ := row0
  have NB0 : Hid _ := nb0
  have CR0 : Hid _ := cr0
  have FR0 : Hid _ := fr0
  clear h1 g1 g6 k1 row0 nb0 cr0 fr0
  go_region_law (first
    | (refine step_append_lies _ (by rfl) _ _ _ (by rfl) B 88 i0 _ 2 16 Tryz.underlying55 hi0 hz0 hz1 hz2 rfl (by omega) sl m.nc (cellList m.cells m.nc) (by rfl) ROW0.out
        ⟨W0.heap.size, 0, none⟩ 1 1 [.int .i64 0, .int .i64 y] (by rfl) (by rfl) (World.news_of_block (cs := #[.int .i64 0, .int .i64 y]) (t := 88) (fr := (0, 0)) NB0.out) (by simp [Value.oneCell'])
        (by omega) (by unfold maxLen; omega) (by omega) (by simp; omega) (W0.heap.size + 1) (by simp) ?_; intro g cap w1 hown1 hgrow hatg hltg; have cr1 := hgrow.cell CR0.out (Ne.symm hor); have fr1 := (World.frozen?_of_block (a := ⟨r, 0, none⟩) (hgrow.block r (by simp; omega) (Ne.symm hor))).trans (FR0.out 0)))
  all_goals
    have X5 := ((H1.out.alloc (.cells #[.int .i64 0, .int .i64 y] 88)).drew).grow hgrow 0 y hown1
    have hrow : ∀ g', (Value.slice (some ⟨g, 0, none⟩) (m.nc + 1) cap).ownBlock = some g' → sl.ownBlock = some g' ∨ w.heap.size ≤ g' := by
      intro g' hg'
      simp only [Value.ownBlock, Option.some.injEq] at hg'
      subst hg'
      rcases hatg with e | e
      · exact .inl e
      · exact .inr (by omega)
    have kgrow := Kept.ofGrown hgrow
    have k5 : Kept (r :: tb :: sl.ownBlock.toList) w (w1.setCell ⟨r, 0, none⟩ (.slice (some ⟨g, 0, none⟩) (m.nc + 1) cap)) := ((((K1.out.mono (by simp)).alloc (.cells #[.int .i64 0, .int .i64 y] 88)).drew).trans (kgrow.mono (by intro x hx; simp [hx]))).setCell (.inl (by simp)) _
    have g5 : (w1.setCell ⟨r, 0, none⟩ (.slice (some ⟨g, 0, none⟩) (m.nc + 1) cap)).heap[w.heap.size]? = some (.cells #[.bool false, .bool false, .int .i64 0] 52 (0, 0)) :=
      block_set_ne (kgrow.at (block_alloc_lt G1.out (.cells #[.int .i64 0, .int .i64 y] 88)) (H1.out.notOwn G1.out (by simp))) (Nat.ne_of_gt hsr) _ _
    clear cr1 fr1 hown1 hgrow hatg hltg kgrow c0 c60 c61 hfr0 ROW0 NB0 CR0 FR0 G6 K1
    generalize w1.setCell ⟨r, 0, none⟩ (.slice (some ⟨g, 0, none⟩) (m.nc + 1) cap) = W2 at *
    obtain ⟨hsr2, hfr2, c0, -, -, -, cdt, -⟩ := X5.mapCell
    have cd := cdt k.toNat (by omega)
    have H5 : Hid _ := X5
    have G5 : Hid _ := g5
    have K5 : Hid _ := k5
    clear X5 g5 k5 cdt
    go_wp2_with fail
    go_region
    go_wp2_with fail
    have h1 := (H5.out.setDirty (k := k.toNat) (by omega) m.nc).drew
    have g1 : (W2.setCell ⟨r, 11 + k.toNat, none⟩ (.int .i64 m.nc)).drew.heap[w.heap.size]? = some (.cells #[.bool false, .bool false, .int .i64 0] 52 (0, 0)) := block_set_ne G5.out (Nat.ne_of_gt hsr) _ _
    have k1 := (K5.out.setCell (p := ⟨r, 11 + k.toNat, none⟩) (.inl (by simp)) (.int .i64 m.nc)).drew
    refine Calls.mono (m_goes h1 hi 14) ?_
    rintro e w2 ⟨rfl, h2, k2⟩
    have r2 := k2.at g1 (by simp; omega)
    have hc2 : ∀ o, w2.cell? ⟨w.heap.size, o, none⟩ = #[.bool false, .bool false, .int .i64 0][o]? := cell_of r2
    have hf2 : ∀ o, w2.frozen? ⟨w.heap.size, o, none⟩ = false := frozen_of r2
    have KK : Hid _ := k1.trans (k2.mono (by simp))
    have H2 : Hid _ := h2
    have HROW : Hid _ := hrow
    clear h1 k1 g1 k2 h2 hrow
    simp only [res]
    go_wp2
    refine bodyPost_ret (v := res false false 0) (by simp [results, Tryz.results37, go_sem, res, cell_of (resLaid r2 false false 0)]) rfl ⟨rfl, ⟨_, H2.out.resLaid r2 false false 0, HROW.out⟩, ?_⟩
    exact ((KK.out.setCell (.inr (by simp)) _).setCell (.inr (by simp)) _).setCell (.inr (by simp)) _
end Go.Proofs.YtmnkphenobfbfaaGreat
