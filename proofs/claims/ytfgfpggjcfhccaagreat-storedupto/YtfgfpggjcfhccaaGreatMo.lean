import Derived.Test.YtfgfpggjcfhccaaGreatMn
import Derived.BigQuiet
namespace Go.Proofs.YtfgfpggjcfhccaaGreat
open Go.RowKit
/-- As Does, where entries are written too. -/
def DoesS (n : Nat) (args : Array Value) (r tb : Nat) (sl : Value) (B : Nat) (o : Out) (w : World) : Prop :=
  Calls Tryz.prog n args w fun e w' => e = .returned o.val ∧ (∃ sl', RefAt r tb sl' B o.m w' ∧ ∀ g, sl'.ownBlock = some g → sl.ownBlock = some g ∨ w.heap.size ≤ g) ∧ Kept (r :: tb :: sl.ownBlock.toList) w w'
theorem Does.s {n : Nat} {args : Array Value} {r tb : Nat} {sl : Value} {B : Nat} {o : Out} {w : World} (h : Does n args r tb sl B o w) : DoesS n args r tb sl B o w := by
  refine Calls.mono h ?_
  rintro e w' ⟨rfl, h1, h2⟩
  exact ⟨rfl, ⟨sl, h1, fun g hg => .inl hg⟩, h2.mono (by simp)⟩
set_option maxRecDepth 100000 in
set_option maxHeartbeats 800000 in
theorem s_13 {r tb : Nat} {sl : Value} {B : Nat} {m : M} {w : World} (h : RefAt r tb sl B m w) {i : Nat} (hi : i < m.nth) (he0 : 0 ≤ (m.ths i).e) (hen : (m.ths i).e.toNat < m.nc) (hat : (m.ths i).at_ = 13)  :
    DoesS 36 #[.pointer (some ⟨r, 0, none⟩), .pointer (some ⟨tb, i * 9, none⟩)] r tb sl B ({ m with cells := put m.cells (m.ths i).e.toNat ⟨0, (m.ths i).val⟩ }.goes i 14) w := by
  obtain ⟨hs, hf, -, c1, c2, -, c4, c5, -⟩ := h.thCell hi
  obtain ⟨hsr, hfr, c0, -⟩ := h.mapCell
  have hne := h.rne
  have H : Hid _ := h
  obtain ⟨g, cap, hsl, hg, hgr, hgt, hfg, q0, q1⟩ := h.entry hen
  rw [hsl] at c0
  have hin : (m.ths i).e < (m.nc : Int) := by omega
  have HSL : Hid _ := hsl
  have HEN : Hid _ := hen
  rw [hat] at c4
  clear h hat
  generalize (m.ths i).val = y at *
  clear hsl
  generalize (m.cells (m.ths i).e.toNat).st = x at *
  generalize (m.cells (m.ths i).e.toNat).v = v at *
  generalize (m.ths i).key = k at *
  generalize (m.ths i).e = z at *
  go_enter Tryz.func36, Tryz.ntmps36
  go_wp2_with fail
  go_region
  go_wp2_with fail
  have hob : sl.ownBlock = some g := by rw [HSL.out]; rfl
  have hmem : g ∈ r :: tb :: sl.ownBlock.toList := by rw [hob]; simp
  have h1 := (((H.out.setEntry HSL.out hen 0 y).alloc (.cells #[.bool false, .bool false, .int .i64 0] 52)).alloc (.cells #[Value.int .i64 0, .int .i64 y] 88)).drew
  have g1 := twoD (w := w) (w1 := (w.setCell ⟨g, z.toNat * 2, none⟩ (.int .i64 0)).setCell ⟨g, z.toNat * 2 + 1, none⟩ (.int .i64 y)) (by simp only [size_set]) (.cells #[.bool false, .bool false, .int .i64 0] 52) (.cells #[Value.int .i64 0, .int .i64 y] 88)
  have k1 := (((((Kept.refl (r :: tb :: sl.ownBlock.toList) w).setCell (p := ⟨g, z.toNat * 2, none⟩) (.inl hmem) (.int .i64 0)).setCell (p := ⟨g, z.toNat * 2 + 1, none⟩) (.inl hmem) (.int .i64 y)).alloc (.cells #[.bool false, .bool false, .int .i64 0] 52)).alloc (.cells #[Value.int .i64 0, .int .i64 y] 88)).drew
  refine Calls.mono (does_of (n := 53) (F := [tb]) (by simp) (m_goes h1 hi 14)) ?_
  rintro e w2 ⟨rfl, h2, k2⟩
  have r2 := k2.at g1 (by simp; omega)
  have hc2 : ∀ o, w2.cell? ⟨w.heap.size, o, none⟩ = #[.bool false, .bool false, .int .i64 0][o]? := cell_of r2
  have hf2 : ∀ o, w2.frozen? ⟨w.heap.size, o, none⟩ = false := frozen_of r2
  have K1 : Hid _ := k1.trans (k2.mono (by simp))
  have H2 : Hid _ := h2
  clear hob hmem h1 k1 g1 k2 h2
  simp only [Out.val, res]
  go_wp2
  refine bodyPost_ret (v := res false false 0) (by simp [results, Tryz.results36, go_sem, res, cell_of (resLaid r2 false false 0)]) rfl ⟨rfl, ⟨sl, ?_, fun g hg => .inl hg⟩, ?_⟩
  · have h3 := H2.out.resLaid r2 false false 0
    exact h3
  · exact ((K1.out.setCell (.inr (by simp)) _).setCell (.inr (by simp)) _).setCell (.inr (by simp)) _
end Go.Proofs.YtfgfpggjcfhccaaGreat
