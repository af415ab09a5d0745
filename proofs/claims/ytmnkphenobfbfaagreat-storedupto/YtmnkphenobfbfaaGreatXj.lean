import Derived.Test.YtmnkphenobfbfaaGreatXi
import Derived.Deep.RegionHeld3
namespace Go.Proofs.YtmnkphenobfbfaaGreat
open Go.RowKit
set_option maxRecDepth 100000 in
set_option maxHeartbeats 800000 in
theorem m_none (w : World) : Calls Tryz.prog 25 #[] w fun e w' => e = .returned (.agg #[.int .i64 (-1), .int .i64 (-1), .int .i64 (-1), .int .i64 (-1), .int .i64 (-1), .int .i64 (-1), .int .i64 (-1), .int .i64 (-1)]) ∧ w' = w.alloc (.cells #[.int .i64 (-1), .int .i64 (-1), .int .i64 (-1), .int .i64 (-1), .int .i64 (-1), .int .i64 (-1), .int .i64 (-1), .int .i64 (-1)] 56) := by
  go_enter Tryz.func25, Tryz.ntmps25
  go_wp2
  exact bodyPost_ret (v := .agg #[.int .i64 (-1), .int .i64 (-1), .int .i64 (-1), .int .i64 (-1), .int .i64 (-1), .int .i64 (-1), .int .i64 (-1), .int .i64 (-1)]) (by simp [results, Tryz.results25, go_sem]) rfl ⟨rfl, rfl⟩
set_option maxRecDepth 100000 in
set_option maxHeartbeats 800000 in
theorem m_missed_b {r tb : Nat} {sl : Value} {B : Nat} {m : M} {w : World} (h : RefAt r tb sl B m w) {i : Nat} (hi : i < m.nth) (a free : Int) (h5 : 5 ≤ a) (h6 : a ≤ 6) (hat : (m.ths i).at_ = 10 * a + 2) :
    Calls Tryz.prog 55 #[.pointer (some ⟨r, 0, none⟩), .pointer (some ⟨tb, i * 9, none⟩), .int .i64 a, .int .i64 free] w fun e w' => e = .returned (res false false 0) ∧ RefAt r tb sl B ({ m with hd := false, dirty := fun _ => -1 }.thr i { m.ths i with at_ := 10 * a + 3 }) w' ∧ Kept [r, tb] w w' := by
  obtain ⟨hs, hf, -, -, -, -, c4, -⟩ := h.thCell hi
  obtain ⟨hsr, hfr, -, -, -, c10, cdt, -⟩ := h.mapCell
  have d0 := cdt 0 (by omega)
  have d1 := cdt 1 (by omega)
  have d2 := cdt 2 (by omega)
  have d3 := cdt 3 (by omega)
  have d4 := cdt 4 (by omega)
  have d5 := cdt 5 (by omega)
  have d6 := cdt 6 (by omega)
  have d7 := cdt 7 (by omega)
  have hne := h.rne
  have H : Hid _ := h
  rw [hat] at c4
  clear h cdt hat
  go_enter Tryz.func55, Tryz.ntmps55
  go_wp2_with fail
  refine (m_none _).mono ?_
  rintro e w1 ⟨rfl, rfl⟩
  go_wp2_with fail
  have h1 := (((H.out.setHd false).setDirties (fun _ => -1)).alloc (.cells #[.bool false, .bool false, .int .i64 0] 52)).alloc (.cells #[.int .i64 (-1), .int .i64 (-1), .int .i64 (-1), .int .i64 (-1), .int .i64 (-1), .int .i64 (-1), .int .i64 (-1), .int .i64 (-1)] 56)
  have g1 := block_alloc_lt (newRes0 (w := w) (w1 := ((((((((((w.setCell ⟨r, 10, none⟩ (.bool false)).setCell ⟨r, 11, none⟩ (.int .i64 (-1))).setCell ⟨r, 12, none⟩ (.int .i64 (-1))).setCell ⟨r, 13, none⟩ (.int .i64 (-1))).setCell ⟨r, 14, none⟩ (.int .i64 (-1))).setCell ⟨r, 15, none⟩ (.int .i64 (-1))).setCell ⟨r, 16, none⟩ (.int .i64 (-1))).setCell ⟨r, 17, none⟩ (.int .i64 (-1))).setCell ⟨r, 18, none⟩ (.int .i64 (-1))))) (by simp only [size_set])) (.cells #[.int .i64 (-1), .int .i64 (-1), .int .i64 (-1), .int .i64 (-1), .int .i64 (-1), .int .i64 (-1), .int .i64 (-1), .int .i64 (-1)] 56)
  have k1 := ((((Kept.refl [r, tb] w).setCell (p := ⟨r, 10, none⟩) (.inl (by simp)) (.bool false)).setDirties (r := r) (by simp) (fun _ => -1)).alloc (.cells #[.bool false, .bool false, .int .i64 0] 52)).alloc (.cells #[.int .i64 (-1), .int .i64 (-1), .int .i64 (-1), .int .i64 (-1), .int .i64 (-1), .int .i64 (-1), .int .i64 (-1), .int .i64 (-1)] 56)
  refine (m_goes h1 hi (10 * a + 3)).mono ?_
  rintro e w2 ⟨rfl, h2, k2⟩
  have r2 := k2.at g1 (by simp; omega)
  have hc2 : ∀ o, w2.cell? ⟨w.heap.size, o, none⟩ = #[.bool false, .bool false, .int .i64 0][o]? := cell_of r2
  have hf2 : ∀ o, w2.frozen? ⟨w.heap.size, o, none⟩ = false := frozen_of r2
  have K1 : Hid _ := k1.trans (k2.mono (by simp))
  have H2 : Hid _ := h2
  clear h1 k1 g1 k2 h2
  simp only [res]
  go_wp2
  refine bodyPost_ret (v := res false false 0) (by simp [results, Tryz.results55, go_sem, res, cell_of (resLaid r2 false false 0)]) rfl ⟨rfl, ?_, ?_⟩
  · have h3 := H2.out.resLaid r2 false false 0
    exact h3
  · exact ((K1.out.setCell (.inr (by simp)) _).setCell (.inr (by simp)) _).setCell (.inr (by simp)) _
set_option maxRecDepth 100000 in
set_option maxHeartbeats 800000 in
theorem m_missed_few {r tb : Nat} {sl : Value} {B : Nat} {m : M} {w : World} (h : RefAt r tb sl B m w) {i : Nat} (hi : i < m.nth) (a free : Int) (h5 : 5 ≤ a) (h6 : a ≤ 6) (hat : (m.ths i).at_ = a) (hm0 : 0 ≤ m.mis) (hm1 : m.mis < 1000000) (hc : m.mis + 1 < cnt m.dirty 8) :
    Calls Tryz.prog 55 #[.pointer (some ⟨r, 0, none⟩), .pointer (some ⟨tb, i * 9, none⟩), .int .i64 a, .int .i64 free] w fun e w' => e = .returned (res false false 0) ∧ RefAt r tb sl B ({ m with mis := m.mis + 1 }.thr i { m.ths i with at_ := free }) w' ∧ Kept [r, tb] w w' := by
  obtain ⟨hs, hf, -, -, -, -, c4, -⟩ := h.thCell hi
  obtain ⟨hsr, hfr, -, -, -, -, -, c19, -⟩ := h.mapCell
  have hne := h.rne
  have H : Hid _ := h
  have hn0 : ¬ a - 10 * a = 1 := by omega
  have hn1 : ¬ a - 10 * a = 2 := by omega
  have hn2 : ¬ a - 10 * a = 3 := by omega
  rw [hat] at c4
  clear h hat
  go_enter Tryz.func55, Tryz.ntmps55
  go_wp2_with fail
  have h1 := (H.out.setMis (m.mis + 1)).alloc (.cells #[.bool false, .bool false, .int .i64 0] 52)
  have g1 := newRes0 (w := w) (size_set w ⟨r, 19, none⟩ (.int .i64 (m.mis + 1)))
  have k1 := ((Kept.refl [r, tb] w).setCell (p := ⟨r, 19, none⟩) (.inl (by simp)) (.int .i64 (m.mis + 1))).alloc (.cells #[.bool false, .bool false, .int .i64 0] 52)
  clear c4 c19 hf hfr H
  generalize (w.setCell ⟨r, 19, none⟩ (.int .i64 (m.mis + 1))).alloc (.cells #[.bool false, .bool false, .int .i64 0] 52) = W0 at *
  obtain ⟨hsr0, -, -, -, -, -, cdt, c19, -⟩ := h1.mapCell
  have d0 : W0.cell? ⟨r, 11, none⟩ = some (.int .i64 (m.dirty 0)) := cdt 0 (by omega)
  have d1 : W0.cell? ⟨r, 12, none⟩ = some (.int .i64 (m.dirty 1)) := cdt 1 (by omega)
  have d2 : W0.cell? ⟨r, 13, none⟩ = some (.int .i64 (m.dirty 2)) := cdt 2 (by omega)
  have d3 : W0.cell? ⟨r, 14, none⟩ = some (.int .i64 (m.dirty 3)) := cdt 3 (by omega)
  have d4 : W0.cell? ⟨r, 15, none⟩ = some (.int .i64 (m.dirty 4)) := cdt 4 (by omega)
  have d5 : W0.cell? ⟨r, 16, none⟩ = some (.int .i64 (m.dirty 5)) := cdt 5 (by omega)
  have d6 : W0.cell? ⟨r, 17, none⟩ = some (.int .i64 (m.dirty 6)) := cdt 6 (by omega)
  have d7 : W0.cell? ⟨r, 18, none⟩ = some (.int .i64 (m.dirty 7)) := cdt 7 (by omega)
  have H1 : Hid _ := h1
  have G1 : Hid _ := g1
  have K1 : Hid _ := k1
  clear h1 g1 k1 cdt
  go_region_held3 (fun w' => w'.cell? ⟨r, 11, none⟩ = some (.int .i64 (m.dirty 0)) ∧ w'.cell? ⟨r, 12, none⟩ = some (.int .i64 (m.dirty 1)) ∧ w'.cell? ⟨r, 13, none⟩ = some (.int .i64 (m.dirty 2)) ∧ w'.cell? ⟨r, 14, none⟩ = some (.int .i64 (m.dirty 3)) ∧ w'.cell? ⟨r, 15, none⟩ = some (.int .i64 (m.dirty 4)) ∧ w'.cell? ⟨r, 16, none⟩ = some (.int .i64 (m.dirty 5)) ∧ w'.cell? ⟨r, 17, none⟩ = some (.int .i64 (m.dirty 6)) ∧ w'.cell? ⟨r, 18, none⟩ = some (.int .i64 (m.dirty 7)) ∧ w'.cell? ⟨r, 19, none⟩ = some (.int .i64 (m.mis + 1)))
    (first | exact ⟨g0, g1, g2, g3, g4, g5, g6, g7, g8⟩ | exact ⟨d0, d1, d2, d3, d4, d5, d6, d7, c19⟩)
    (first | (go_at_call 71; refine (m_keys m.dirty _).mono ?_; rintro e w1 ⟨rfl, kk⟩; have hh := (H1.out.drew.keptNil kk); have gg := (by have hq := kk.at (by exact G1.out) (by simp); exact hq : w1.heap[w.heap.size]? = some (.cells #[.bool false, .bool false, .int .i64 0] 52 (0, 0))); have ⟨_, _, _, _, _, _, gdt, g8, _⟩ := hh.mapCell; have g0 := gdt 0 (by omega); have g1 := gdt 1 (by omega); have g2 := gdt 2 (by omega); have g3 := gdt 3 (by omega); have g4 := gdt 4 (by omega); have g5 := gdt 5 (by omega); have g6 := gdt 6 (by omega); have g7 := gdt 7 (by omega)))
  have kt : Kept [r, tb] w w1 := K1.out.trans ((Kept.refl _ W0).drew.trans (kk.mono (by simp)))
  clear g0 g1 g2 g3 g4 g5 g6 g7 g8 gdt d0 d1 d2 d3 d4 d5 d6 d7 c19 kk
  go_wp2_with fail
  have h1 := hh
  have g1 := gg
  have k1 := kt
  refine (m_goes h1 hi free).mono ?_
  rintro e w2 ⟨rfl, h2, k2⟩
  have r2 := k2.at g1 (by simp; omega)
  have hc2 : ∀ o, w2.cell? ⟨w.heap.size, o, none⟩ = #[.bool false, .bool false, .int .i64 0][o]? := cell_of r2
  have hf2 : ∀ o, w2.frozen? ⟨w.heap.size, o, none⟩ = false := frozen_of r2
  have K1 : Hid _ := k1.trans (k2.mono (by simp))
  have H2 : Hid _ := h2
  clear h1 k1 g1 k2 h2 hh gg kt
  simp only [res]
  go_wp2
  refine bodyPost_ret (v := res false false 0) (by simp [results, Tryz.results55, go_sem, res, cell_of (resLaid r2 false false 0)]) rfl ⟨rfl, ?_, ?_⟩
  · have h3 := H2.out.resLaid r2 false false 0
    exact h3
  · exact ((K1.out.setCell (.inr (by simp)) _).setCell (.inr (by simp)) _).setCell (.inr (by simp)) _
set_option maxRecDepth 100000 in
set_option maxHeartbeats 800000 in
theorem m_missed_all {r tb : Nat} {sl : Value} {B : Nat} {m : M} {w : World} (h : RefAt r tb sl B m w) {i : Nat} (hi : i < m.nth) (a free : Int) (h5 : 5 ≤ a) (h6 : a ≤ 6) (hat : (m.ths i).at_ = a) (hm0 : 0 ≤ m.mis) (hm1 : m.mis < 1000000) (hc : ¬ m.mis + 1 < cnt m.dirty 8) :
    Calls Tryz.prog 55 #[.pointer (some ⟨r, 0, none⟩), .pointer (some ⟨tb, i * 9, none⟩), .int .i64 a, .int .i64 free] w fun e w' => e = .returned (res false false 0) ∧ RefAt r tb sl B ({ m with mis := m.mis + 1 }.thr i { m.ths i with at_ := 10 * a + 1 }) w' ∧ Kept [r, tb] w w' := by
  obtain ⟨hs, hf, -, -, -, -, c4, -⟩ := h.thCell hi
  obtain ⟨hsr, hfr, -, -, -, -, -, c19, -⟩ := h.mapCell
  have hne := h.rne
  have H : Hid _ := h
  have hn0 : ¬ a - 10 * a = 1 := by omega
  have hn1 : ¬ a - 10 * a = 2 := by omega
  have hn2 : ¬ a - 10 * a = 3 := by omega
  rw [hat] at c4
  clear h hat
  go_enter Tryz.func55, Tryz.ntmps55
  go_wp2_with fail
  have h1 := (H.out.setMis (m.mis + 1)).alloc (.cells #[.bool false, .bool false, .int .i64 0] 52)
  have g1 := newRes0 (w := w) (size_set w ⟨r, 19, none⟩ (.int .i64 (m.mis + 1)))
  have k1 := ((Kept.refl [r, tb] w).setCell (p := ⟨r, 19, none⟩) (.inl (by simp)) (.int .i64 (m.mis + 1))).alloc (.cells #[.bool false, .bool false, .int .i64 0] 52)
  clear c4 c19 hf hfr H
  generalize (w.setCell ⟨r, 19, none⟩ (.int .i64 (m.mis + 1))).alloc (.cells #[.bool false, .bool false, .int .i64 0] 52) = W0 at *
  obtain ⟨hsr0, -, -, -, -, -, cdt, c19, -⟩ := h1.mapCell
  have d0 : W0.cell? ⟨r, 11, none⟩ = some (.int .i64 (m.dirty 0)) := cdt 0 (by omega)
  have d1 : W0.cell? ⟨r, 12, none⟩ = some (.int .i64 (m.dirty 1)) := cdt 1 (by omega)
  have d2 : W0.cell? ⟨r, 13, none⟩ = some (.int .i64 (m.dirty 2)) := cdt 2 (by omega)
  have d3 : W0.cell? ⟨r, 14, none⟩ = some (.int .i64 (m.dirty 3)) := cdt 3 (by omega)
  have d4 : W0.cell? ⟨r, 15, none⟩ = some (.int .i64 (m.dirty 4)) := cdt 4 (by omega)
  have d5 : W0.cell? ⟨r, 16, none⟩ = some (.int .i64 (m.dirty 5)) := cdt 5 (by omega)
  have d6 : W0.cell? ⟨r, 17, none⟩ = some (.int .i64 (m.dirty 6)) := cdt 6 (by omega)
  have d7 : W0.cell? ⟨r, 18, none⟩ = some (.int .i64 (m.dirty 7)) := cdt 7 (by omega)
  have H1 : Hid _ := h1
  have G1 : Hid _ := g1
  have K1 : Hid _ := k1
  clear h1 g1 k1 cdt
  go_region_held3 (fun w' => w'.cell? ⟨r, 11, none⟩ = some (.int .i64 (m.dirty 0)) ∧ w'.cell? ⟨r, 12, none⟩ = some (.int .i64 (m.dirty 1)) ∧ w'.cell? ⟨r, 13, none⟩ = some (.int .i64 (m.dirty 2)) ∧ w'.cell? ⟨r, 14, none⟩ = some (.int .i64 (m.dirty 3)) ∧ w'.cell? ⟨r, 15, none⟩ = some (.int .i64 (m.dirty 4)) ∧ w'.cell? ⟨r, 16, none⟩ = some (.int .i64 (m.dirty 5)) ∧ w'.cell? ⟨r, 17, none⟩ = some (.int .i64 (m.dirty 6)) ∧ w'.cell? ⟨r, 18, none⟩ = some (.int .i64 (m.dirty 7)) ∧ w'.cell? ⟨r, 19, none⟩ = some (.int .i64 (m.mis + 1)))
    (first | exact ⟨g0, g1, g2, g3, g4, g5, g6, g7, g8⟩ | exact ⟨d0, d1, d2, d3, d4, d5, d6, d7, c19⟩)
    (first | (go_at_call 71; refine (m_keys m.dirty _).mono ?_; rintro e w1 ⟨rfl, kk⟩; have hh := (H1.out.drew.keptNil kk); have gg := (by have hq := kk.at (by exact G1.out) (by simp); exact hq : w1.heap[w.heap.size]? = some (.cells #[.bool false, .bool false, .int .i64 0] 52 (0, 0))); have ⟨_, _, _, _, _, _, gdt, g8, _⟩ := hh.mapCell; have g0 := gdt 0 (by omega); have g1 := gdt 1 (by omega); have g2 := gdt 2 (by omega); have g3 := gdt 3 (by omega); have g4 := gdt 4 (by omega); have g5 := gdt 5 (by omega); have g6 := gdt 6 (by omega); have g7 := gdt 7 (by omega)))
  have kt : Kept [r, tb] w w1 := K1.out.trans ((Kept.refl _ W0).drew.trans (kk.mono (by simp)))
  clear g0 g1 g2 g3 g4 g5 g6 g7 g8 gdt d0 d1 d2 d3 d4 d5 d6 d7 c19 kk
  go_wp2_with fail
  have h1 := hh
  have g1 := gg
  have k1 := kt
  refine (m_goes h1 hi (10 * a + 1)).mono ?_
  rintro e w2 ⟨rfl, h2, k2⟩
  have r2 := k2.at g1 (by simp; omega)
  have hc2 : ∀ o, w2.cell? ⟨w.heap.size, o, none⟩ = #[.bool false, .bool false, .int .i64 0][o]? := cell_of r2
  have hf2 : ∀ o, w2.frozen? ⟨w.heap.size, o, none⟩ = false := frozen_of r2
  have K1 : Hid _ := k1.trans (k2.mono (by simp))
  have H2 : Hid _ := h2
  clear h1 k1 g1 k2 h2 hh gg kt
  simp only [res]
  go_wp2
  refine bodyPost_ret (v := res false false 0) (by simp [results, Tryz.results55, go_sem, res, cell_of (resLaid r2 false false 0)]) rfl ⟨rfl, ?_, ?_⟩
  · have h3 := H2.out.resLaid r2 false false 0
    exact h3
  · exact ((K1.out.setCell (.inr (by simp)) _).setCell (.inr (by simp)) _).setCell (.inr (by simp)) _
end Go.Proofs.YtmnkphenobfbfaaGreat
namespace Go.Proofs.YtmnkphenobfbfaaGreat
open Go.RowKit
def Out.val (o : Out) : Value := res o.d o.f o.v
/-- What each of these calls keeps. -/
def Does (n : Nat) (args : Array Value) (r tb : Nat) (sl : Value) (B : Nat) (o : Out) (w : World) : Prop :=
  Calls Tryz.prog n args w fun e w' => e = .returned o.val ∧ RefAt r tb sl B o.m w' ∧ Kept [r, tb] w w'
theorem does_of {n : Nat} {args : Array Value} {r tb : Nat} {sl : Value} {B : Nat} {d f : Bool} {v : Int} {m : M} {w : World} {F : List Nat} (hF : ∀ x, x ∈ F → x ∈ [r, tb])
    (h : Calls Tryz.prog n args w fun e w' => e = .returned (res d f v) ∧ RefAt r tb sl B m w' ∧ Kept F w w') : Does n args r tb sl B ⟨d, f, v, m⟩ w := by
  refine h.mono ?_
  rintro e w' ⟨rfl, h1, h2⟩
  exact ⟨rfl, h1, h2.mono hF⟩
theorem does_first {r tb : Nat} {sl : Value} {B : Nat} {m : M} {w : World} (h : RefAt r tb sl B m w) {i : Nat} (hi : i < m.nth) (hk0 : 0 ≤ (m.ths i).key) (hk7 : (m.ths i).key < 8) (entry : Int) :
    Does 52 #[.pointer (some ⟨r, 0, none⟩), .pointer (some ⟨tb, i * 9, none⟩), .int .i64 entry] r tb sl B (m.first i entry) w := by
  unfold M.first
  split
  · rename_i he
    simp only [M.goes, sets_thr]
    exact does_of (by simp) (m_first_in h hi hk0 hk7 rfl entry he)
  · rename_i he
    split
    · rename_i ha
      simp only [M.goes, sets_thr]
      exact does_of (by simp) (m_first_on h hi hk0 hk7 rfl entry (Int.not_le.1 he) ha)
    · rename_i ha
      simp only [M.ends, sets_thr]
      exact does_of (by simp) (m_first_end h hi hk0 hk7 rfl entry (Int.not_le.1 he) (by simpa using ha))
theorem does_third {r tb : Nat} {sl : Value} {B : Nat} {m : M} {w : World} (h : RefAt r tb sl B m w) {i : Nat} (hi : i < m.nth) (hk0 : 0 ≤ (m.ths i).key) (hk7 : (m.ths i).key < 8) (free : Int) :
    Does 53 #[.pointer (some ⟨r, 0, none⟩), .pointer (some ⟨tb, i * 9, none⟩), .int .i64 free] r tb sl B (m.third i free) w := by
  unfold M.third
  split
  · rename_i he
    simp only [M.goes, sets_thr]
    exact does_of (by simp) (m_third_in h hi hk0 hk7 rfl free he)
  · rename_i he
    split
    · rename_i ha
      simp only [M.goes, sets_thr]
      exact does_of (by simp) (m_third_on h hi hk0 hk7 rfl free (Int.not_le.1 he) ha)
    · rename_i ha
      simp only [M.goes, sets_thr]
      exact does_of (by simp) (m_third_out h hi hk0 hk7 rfl free (Int.not_le.1 he) (by simpa using ha))
theorem does_frees {r tb : Nat} {sl : Value} {B : Nat} {m : M} {w : World} (h : RefAt r tb sl B m w) {i : Nat} (hi : i < m.nth) (entry : Int) :
    Does 56 #[.pointer (some ⟨r, 0, none⟩), .pointer (some ⟨tb, i * 9, none⟩), .int .i64 entry] r tb sl B (m.frees i entry) w := by
  unfold M.frees
  split
  · rename_i he
    exact does_of (by simp) (m_frees_end h hi entry he)
  · rename_i he
    exact does_of (by simp) (m_frees_on h hi entry (Int.not_lt.1 he))
theorem does_missed {r tb : Nat} {sl : Value} {B : Nat} {m : M} {w : World} (h : RefAt r tb sl B m w) {i : Nat} (hi : i < m.nth) (a free : Int) (h5 : 5 ≤ a) (h6 : a ≤ 6) (hat : (m.ths i).at_ = a ∨ (m.ths i).at_ = 10 * a + 1 ∨ (m.ths i).at_ = 10 * a + 2 ∨ (m.ths i).at_ = 10 * a + 3)
    (hm0 : 0 ≤ m.mis) (hm1 : m.mis < 1000000) :
    Does 55 #[.pointer (some ⟨r, 0, none⟩), .pointer (some ⟨tb, i * 9, none⟩), .int .i64 a, .int .i64 free] r tb sl B (m.missed i a free) w := by
  unfold M.missed
  split
  · rename_i h1
    exact does_of (by simp) (m_missed_a h hi a free h5 h6 h1)
  · split
    · rename_i h2
      exact does_of (by simp) (m_missed_b h hi a free h5 h6 h2)
    · split
      · rename_i h3
        exact does_of (by simp) (m_missed_c h hi a free h5 h6 h3)
      · rename_i n1 n2 n3
        have h0 : (m.ths i).at_ = a := by
          rcases hat with h0 | h0 | h0 | h0
          · exact h0
          · exact absurd h0 n1
          · exact absurd h0 n2
          · exact absurd h0 n3
        split
        · rename_i hc
          exact does_of (by simp) (m_missed_few h hi a free h5 h6 h0 hm0 hm1 hc)
        · rename_i hc
          exact does_of (by simp) (m_missed_all h hi a free h5 h6 h0 hm0 hm1 hc)
end Go.Proofs.YtmnkphenobfbfaaGreat
namespace Go.Proofs.YtmnkphenobfbfaaGreat
open Go.RowKit
/-- Where an entry lies. -/
theorem RefAt.entry {r tb : Nat} {sl : Value} {B : Nat} {m : M} {w : World} (h : RefAt r tb sl B m w) {j : Nat} (hj : j < m.nc) : ∃ g cap, sl = .slice (some ⟨g, 0, none⟩) m.nc cap ∧ g < w.heap.size ∧ g ≠ r ∧ g ≠ tb ∧ (∀ o, w.frozen? ⟨g, o, none⟩ = false) ∧
    w.cell? ⟨g, j * 2, none⟩ = some (.int .i64 (m.cells j).st) ∧ w.cell? ⟨g, j * 2 + 1, none⟩ = some (.int .i64 (m.cells j).v) := by
  have hc := cellList_at m.cells hj
  rcases h.row.2 with ⟨_, h0⟩ | ⟨g, cap, cur, e1, e2, e3, e4, e5, e6, e7⟩
  · omega
  · have hn := h.own_ne (g := g) (by rw [e1]; rfl)
    refine ⟨g, cap, e1, lt_of_block e3, hn.1, hn.2, frozen_of e3, ?_, ?_⟩
    · rw [cell_of e3, ← Array.getElem?_toList, ← hc.1, ← e7, List.getElem?_take, if_pos (by omega)]
    · rw [cell_of e3, ← Array.getElem?_toList, ← hc.2, ← e7, List.getElem?_take, if_pos (by omega)]
set_option maxRecDepth 100000 in
set_option maxHeartbeats 800000 in
theorem l_first {r tb : Nat} {sl : Value} {B : Nat} {m : M} {w : World} (h : RefAt r tb sl B m w) {i : Nat} (hi : i < m.nth) (hk0 : 0 ≤ (m.ths i).key) (hk7 : (m.ths i).key < 8) (hat : (m.ths i).at_ = 1) :
    Does 36 #[.pointer (some ⟨r, 0, none⟩), .pointer (some ⟨tb, i * 9, none⟩)] r tb sl B (m.first i 7) w := by
  obtain ⟨hs, hf, -, -, -, -, c4, -⟩ := h.thCell hi
  obtain ⟨hsr, -⟩ := h.mapCell
  have hne := h.rne
  have H : Hid _ := h
  rw [hat] at c4
  clear hat
  clear h
  go_enter Tryz.func36, Tryz.ntmps36
  go_wp2_with fail
  have h1 := H.out.alloc (.cells #[.bool false, .bool false, .int .i64 0] 52)
  have g1 := block_alloc_new w (.cells #[.bool false, .bool false, .int .i64 0] 52)
  have k1 := (Kept.refl [r, tb] w).alloc (.cells #[.bool false, .bool false, .int .i64 0] 52)
  refine Calls.mono (does_first h1 hi hk0 hk7 7) ?_
  rintro e w2 ⟨rfl, h2, k2⟩
  have r2 := k2.at g1 (by simp; omega)
  have hc2 : ∀ o, w2.cell? ⟨w.heap.size, o, none⟩ = #[.bool false, .bool false, .int .i64 0][o]? := cell_of r2
  have hf2 : ∀ o, w2.frozen? ⟨w.heap.size, o, none⟩ = false := frozen_of r2
  have K1 : Hid _ := k1.trans (k2.mono (by simp))
  have H2 : Hid _ := h2
  clear h1 k1 g1 k2 h2
  generalize hO : m.first i 7 = O at *
  obtain ⟨od, of, ov, om⟩ := O
  have HO : Hid _ := hO
  clear hO
  simp only [Out.val, res]
  go_wp2
  refine bodyPost_ret (v := res od of ov) (by simp [results, Tryz.results36, go_sem, res, cell_of (resLaid r2 od of ov)]) rfl ⟨by rw [HO.out]; rfl, ?_, ?_⟩
  · have h3 := H2.out.resLaid r2 od of ov
    rw [HO.out]
    exact h3
  · exact ((K1.out.setCell (.inr (by simp)) _).setCell (.inr (by simp)) _).setCell (.inr (by simp)) _
set_option maxRecDepth 100000 in
set_option maxHeartbeats 800000 in
theorem l_third {r tb : Nat} {sl : Value} {B : Nat} {m : M} {w : World} (h : RefAt r tb sl B m w) {i : Nat} (hi : i < m.nth) (hk0 : 0 ≤ (m.ths i).key) (hk7 : (m.ths i).key < 8) (hat : (m.ths i).at_ = 3) :
    Does 36 #[.pointer (some ⟨r, 0, none⟩), .pointer (some ⟨tb, i * 9, none⟩)] r tb sl B (m.third i 6) w := by
  obtain ⟨hs, hf, -, -, -, -, c4, -⟩ := h.thCell hi
  obtain ⟨hsr, -⟩ := h.mapCell
  have hne := h.rne
  have H : Hid _ := h
  rw [hat] at c4
  clear hat
  clear h
  go_enter Tryz.func36, Tryz.ntmps36
  go_wp2_with fail
  have h1 := H.out.alloc (.cells #[.bool false, .bool false, .int .i64 0] 52)
  have g1 := block_alloc_new w (.cells #[.bool false, .bool false, .int .i64 0] 52)
  have k1 := (Kept.refl [r, tb] w).alloc (.cells #[.bool false, .bool false, .int .i64 0] 52)
  refine Calls.mono (does_third h1 hi hk0 hk7 6) ?_
  rintro e w2 ⟨rfl, h2, k2⟩
  have r2 := k2.at g1 (by simp; omega)
  have hc2 : ∀ o, w2.cell? ⟨w.heap.size, o, none⟩ = #[.bool false, .bool false, .int .i64 0][o]? := cell_of r2
  have hf2 : ∀ o, w2.frozen? ⟨w.heap.size, o, none⟩ = false := frozen_of r2
  have K1 : Hid _ := k1.trans (k2.mono (by simp))
  have H2 : Hid _ := h2
  clear h1 k1 g1 k2 h2
  generalize hO : m.third i 6 = O at *
  obtain ⟨od, of, ov, om⟩ := O
  have HO : Hid _ := hO
  clear hO
  simp only [Out.val, res]
  go_wp2
  refine bodyPost_ret (v := res od of ov) (by simp [results, Tryz.results36, go_sem, res, cell_of (resLaid r2 od of ov)]) rfl ⟨by rw [HO.out]; rfl, ?_, ?_⟩
  · have h3 := H2.out.resLaid r2 od of ov
    rw [HO.out]
    exact h3
  · exact ((K1.out.setCell (.inr (by simp)) _).setCell (.inr (by simp)) _).setCell (.inr (by simp)) _
set_option maxRecDepth 100000 in
set_option maxHeartbeats 800000 in
theorem l_frees {r tb : Nat} {sl : Value} {B : Nat} {m : M} {w : World} (h : RefAt r tb sl B m w) {i : Nat} (hi : i < m.nth) (hat : (m.ths i).at_ = 6) :
    Does 36 #[.pointer (some ⟨r, 0, none⟩), .pointer (some ⟨tb, i * 9, none⟩)] r tb sl B (m.frees i 7) w := by
  obtain ⟨hs, hf, -, -, -, -, c4, -⟩ := h.thCell hi
  obtain ⟨hsr, -⟩ := h.mapCell
  have hne := h.rne
  have H : Hid _ := h
  rw [hat] at c4
  clear hat
  clear h
  go_enter Tryz.func36, Tryz.ntmps36
  go_wp2_with fail
  have h1 := H.out.alloc (.cells #[.bool false, .bool false, .int .i64 0] 52)
  have g1 := block_alloc_new w (.cells #[.bool false, .bool false, .int .i64 0] 52)
  have k1 := (Kept.refl [r, tb] w).alloc (.cells #[.bool false, .bool false, .int .i64 0] 52)
  refine Calls.mono (does_frees h1 hi 7) ?_
  rintro e w2 ⟨rfl, h2, k2⟩
  have r2 := k2.at g1 (by simp; omega)
  have hc2 : ∀ o, w2.cell? ⟨w.heap.size, o, none⟩ = #[.bool false, .bool false, .int .i64 0][o]? := cell_of r2
  have hf2 : ∀ o, w2.frozen? ⟨w.heap.size, o, none⟩ = false := frozen_of r2
  have K1 : Hid _ := k1.trans (k2.mono (by simp))
  have H2 : Hid _ := h2
  clear h1 k1 g1 k2 h2
  generalize hO : m.frees i 7 = O at *
  obtain ⟨od, of, ov, om⟩ := O
  have HO : Hid _ := hO
  clear hO
  simp only [Out.val, res]
  go_wp2
  refine bodyPost_ret (v := res od of ov) (by simp [results, Tryz.results36, go_sem, res, cell_of (resLaid r2 od of ov)]) rfl ⟨by rw [HO.out]; rfl, ?_, ?_⟩
  · have h3 := H2.out.resLaid r2 od of ov
    rw [HO.out]
    exact h3
  · exact ((K1.out.setCell (.inr (by simp)) _).setCell (.inr (by simp)) _).setCell (.inr (by simp)) _
set_option maxRecDepth 100000 in
set_option maxHeartbeats 800000 in
theorem l_missed0 {r tb : Nat} {sl : Value} {B : Nat} {m : M} {w : World} (h : RefAt r tb sl B m w) {i : Nat} (hi : i < m.nth) (hm0 : 0 ≤ m.mis) (hm1 : m.mis < 1000000) (hat : (m.ths i).at_ = 5) :
    Does 36 #[.pointer (some ⟨r, 0, none⟩), .pointer (some ⟨tb, i * 9, none⟩)] r tb sl B (m.missed i 5 6) w := by
  obtain ⟨hs, hf, -, -, -, -, c4, -⟩ := h.thCell hi
  obtain ⟨hsr, -⟩ := h.mapCell
  have hne := h.rne
  have H : Hid _ := h
  rw [hat] at c4
  clear h
  go_enter Tryz.func36, Tryz.ntmps36
  go_wp2_with fail
  have h1 := H.out.alloc (.cells #[.bool false, .bool false, .int .i64 0] 52)
  have g1 := block_alloc_new w (.cells #[.bool false, .bool false, .int .i64 0] 52)
  have k1 := (Kept.refl [r, tb] w).alloc (.cells #[.bool false, .bool false, .int .i64 0] 52)
  refine Calls.mono (does_missed h1 hi 5 6 (by omega) (by omega) (by omega) hm0 hm1) ?_
  rintro e w2 ⟨rfl, h2, k2⟩
  have r2 := k2.at g1 (by simp; omega)
  have hc2 : ∀ o, w2.cell? ⟨w.heap.size, o, none⟩ = #[.bool false, .bool false, .int .i64 0][o]? := cell_of r2
  have hf2 : ∀ o, w2.frozen? ⟨w.heap.size, o, none⟩ = false := frozen_of r2
  have K1 : Hid _ := k1.trans (k2.mono (by simp))
  have H2 : Hid _ := h2
  clear h1 k1 g1 k2 h2
  generalize hO : m.missed i 5 6 = O at *
  obtain ⟨od, of, ov, om⟩ := O
  have HO : Hid _ := hO
  clear hO
  simp only [Out.val, res]
  go_wp2
  refine bodyPost_ret (v := res od of ov) (by simp [results, Tryz.results36, go_sem, res, cell_of (resLaid r2 od of ov)]) rfl ⟨by rw [HO.out]; rfl, ?_, ?_⟩
  · have h3 := H2.out.resLaid r2 od of ov
    rw [HO.out]
    exact h3
  · exact ((K1.out.setCell (.inr (by simp)) _).setCell (.inr (by simp)) _).setCell (.inr (by simp)) _
set_option maxRecDepth 100000 in
set_option maxHeartbeats 800000 in
theorem l_missed1 {r tb : Nat} {sl : Value} {B : Nat} {m : M} {w : World} (h : RefAt r tb sl B m w) {i : Nat} (hi : i < m.nth) (hm0 : 0 ≤ m.mis) (hm1 : m.mis < 1000000) (hat : (m.ths i).at_ = 51) :
    Does 36 #[.pointer (some ⟨r, 0, none⟩), .pointer (some ⟨tb, i * 9, none⟩)] r tb sl B (m.missed i 5 6) w := by
  obtain ⟨hs, hf, -, -, -, -, c4, -⟩ := h.thCell hi
  obtain ⟨hsr, -⟩ := h.mapCell
  have hne := h.rne
  have H : Hid _ := h
  rw [hat] at c4
  clear h
  go_enter Tryz.func36, Tryz.ntmps36
  go_wp2_with fail
  have h1 := H.out.alloc (.cells #[.bool false, .bool false, .int .i64 0] 52)
  have g1 := block_alloc_new w (.cells #[.bool false, .bool false, .int .i64 0] 52)
  have k1 := (Kept.refl [r, tb] w).alloc (.cells #[.bool false, .bool false, .int .i64 0] 52)
  refine Calls.mono (does_missed h1 hi 5 6 (by omega) (by omega) (by omega) hm0 hm1) ?_
  rintro e w2 ⟨rfl, h2, k2⟩
  have r2 := k2.at g1 (by simp; omega)
  have hc2 : ∀ o, w2.cell? ⟨w.heap.size, o, none⟩ = #[.bool false, .bool false, .int .i64 0][o]? := cell_of r2
  have hf2 : ∀ o, w2.frozen? ⟨w.heap.size, o, none⟩ = false := frozen_of r2
  have K1 : Hid _ := k1.trans (k2.mono (by simp))
  have H2 : Hid _ := h2
  clear h1 k1 g1 k2 h2
  generalize hO : m.missed i 5 6 = O at *
  obtain ⟨od, of, ov, om⟩ := O
  have HO : Hid _ := hO
  clear hO
  simp only [Out.val, res]
  go_wp2
  refine bodyPost_ret (v := res od of ov) (by simp [results, Tryz.results36, go_sem, res, cell_of (resLaid r2 od of ov)]) rfl ⟨by rw [HO.out]; rfl, ?_, ?_⟩
  · have h3 := H2.out.resLaid r2 od of ov
    rw [HO.out]
    exact h3
  · exact ((K1.out.setCell (.inr (by simp)) _).setCell (.inr (by simp)) _).setCell (.inr (by simp)) _
set_option maxRecDepth 100000 in
set_option maxHeartbeats 800000 in
theorem l_missed2 {r tb : Nat} {sl : Value} {B : Nat} {m : M} {w : World} (h : RefAt r tb sl B m w) {i : Nat} (hi : i < m.nth) (hm0 : 0 ≤ m.mis) (hm1 : m.mis < 1000000) (hat : (m.ths i).at_ = 52) :
    Does 36 #[.pointer (some ⟨r, 0, none⟩), .pointer (some ⟨tb, i * 9, none⟩)] r tb sl B (m.missed i 5 6) w := by
  obtain ⟨hs, hf, -, -, -, -, c4, -⟩ := h.thCell hi
  obtain ⟨hsr, -⟩ := h.mapCell
  have hne := h.rne
  have H : Hid _ := h
  rw [hat] at c4
  clear h
  go_enter Tryz.func36, Tryz.ntmps36
  go_wp2_with fail
  have h1 := H.out.alloc (.cells #[.bool false, .bool false, .int .i64 0] 52)
  have g1 := block_alloc_new w (.cells #[.bool false, .bool false, .int .i64 0] 52)
  have k1 := (Kept.refl [r, tb] w).alloc (.cells #[.bool false, .bool false, .int .i64 0] 52)
  refine Calls.mono (does_missed h1 hi 5 6 (by omega) (by omega) (by omega) hm0 hm1) ?_
  rintro e w2 ⟨rfl, h2, k2⟩
  have r2 := k2.at g1 (by simp; omega)
  have hc2 : ∀ o, w2.cell? ⟨w.heap.size, o, none⟩ = #[.bool false, .bool false, .int .i64 0][o]? := cell_of r2
  have hf2 : ∀ o, w2.frozen? ⟨w.heap.size, o, none⟩ = false := frozen_of r2
  have K1 : Hid _ := k1.trans (k2.mono (by simp))
  have H2 : Hid _ := h2
  clear h1 k1 g1 k2 h2
  generalize hO : m.missed i 5 6 = O at *
  obtain ⟨od, of, ov, om⟩ := O
  have HO : Hid _ := hO
  clear hO
  simp only [Out.val, res]
  go_wp2
  refine bodyPost_ret (v := res od of ov) (by simp [results, Tryz.results36, go_sem, res, cell_of (resLaid r2 od of ov)]) rfl ⟨by rw [HO.out]; rfl, ?_, ?_⟩
  · have h3 := H2.out.resLaid r2 od of ov
    rw [HO.out]
    exact h3
  · exact ((K1.out.setCell (.inr (by simp)) _).setCell (.inr (by simp)) _).setCell (.inr (by simp)) _
set_option maxRecDepth 100000 in
set_option maxHeartbeats 800000 in
theorem l_missed3 {r tb : Nat} {sl : Value} {B : Nat} {m : M} {w : World} (h : RefAt r tb sl B m w) {i : Nat} (hi : i < m.nth) (hm0 : 0 ≤ m.mis) (hm1 : m.mis < 1000000) (hat : (m.ths i).at_ = 53) :
    Does 36 #[.pointer (some ⟨r, 0, none⟩), .pointer (some ⟨tb, i * 9, none⟩)] r tb sl B (m.missed i 5 6) w := by
  obtain ⟨hs, hf, -, -, -, -, c4, -⟩ := h.thCell hi
  obtain ⟨hsr, -⟩ := h.mapCell
  have hne := h.rne
  have H : Hid _ := h
  rw [hat] at c4
  clear h
  go_enter Tryz.func36, Tryz.ntmps36
  go_wp2_with fail
  have h1 := H.out.alloc (.cells #[.bool false, .bool false, .int .i64 0] 52)
  have g1 := block_alloc_new w (.cells #[.bool false, .bool false, .int .i64 0] 52)
  have k1 := (Kept.refl [r, tb] w).alloc (.cells #[.bool false, .bool false, .int .i64 0] 52)
  refine Calls.mono (does_missed h1 hi 5 6 (by omega) (by omega) (by omega) hm0 hm1) ?_
  rintro e w2 ⟨rfl, h2, k2⟩
  have r2 := k2.at g1 (by simp; omega)
  have hc2 : ∀ o, w2.cell? ⟨w.heap.size, o, none⟩ = #[.bool false, .bool false, .int .i64 0][o]? := cell_of r2
  have hf2 : ∀ o, w2.frozen? ⟨w.heap.size, o, none⟩ = false := frozen_of r2
  have K1 : Hid _ := k1.trans (k2.mono (by simp))
  have H2 : Hid _ := h2
  clear h1 k1 g1 k2 h2
  generalize hO : m.missed i 5 6 = O at *
  obtain ⟨od, of, ov, om⟩ := O
  have HO : Hid _ := hO
  clear hO
  simp only [Out.val, res]
  go_wp2
  refine bodyPost_ret (v := res od of ov) (by simp [results, Tryz.results36, go_sem, res, cell_of (resLaid r2 od of ov)]) rfl ⟨by rw [HO.out]; rfl, ?_, ?_⟩
  · have h3 := H2.out.resLaid r2 od of ov
    rw [HO.out]
    exact h3
  · exact ((K1.out.setCell (.inr (by simp)) _).setCell (.inr (by simp)) _).setCell (.inr (by simp)) _
set_option maxRecDepth 100000 in
set_option maxHeartbeats 800000 in
theorem l_dirty {r tb : Nat} {sl : Value} {B : Nat} {m : M} {w : World} (h : RefAt r tb sl B m w) {i : Nat} (hi : i < m.nth) (hk0 : 0 ≤ (m.ths i).key) (hk7 : (m.ths i).key < 8) (hat : (m.ths i).at_ = 4) :
    Does 36 #[.pointer (some ⟨r, 0, none⟩), .pointer (some ⟨tb, i * 9, none⟩)] r tb sl B ((m.sets i (m.dirty (m.key i))).goes i 5) w := by
  obtain ⟨hs, hf, -, c1, -, -, c4, c5, -⟩ := h.thCell hi
  obtain ⟨hsr, -, -, -, -, -, cdt, -⟩ := h.mapCell
  have ck := cdt (m.ths i).key.toNat (by omega)
  have hne := h.rne
  have H : Hid _ := h
  rw [hat] at c4
  clear h cdt hat
  have hkk : m.key i = (m.ths i).key.toNat := rfl
  rw [hkk]
  clear hkk
  generalize hx : m.dirty (m.ths i).key.toNat = x at *
  generalize hkey : (m.ths i).key = k at *
  have HX : Hid _ := hx
  clear hx hkey
  go_enter Tryz.func36, Tryz.ntmps36
  go_wp2_with fail
  go_region
  go_wp2_with fail
  have h1 := ((H.out.putE hi x).alloc (.cells #[.bool false, .bool false, .int .i64 0] 52)).drew
  have g1 := newRes (w := w) (size_set w ⟨tb, i * 9 + 5, none⟩ (.int .i64 x))
  have k1 := (((Kept.refl [r, tb] w).setCell (p := ⟨tb, i * 9 + 5, none⟩) (.inl (by simp)) (.int .i64 x)).alloc (.cells #[.bool false, .bool false, .int .i64 0] 52)).drew
  refine Calls.mono (does_of (n := 54) (by simp) (m_goes h1 hi 5)) ?_
  rintro e w2 ⟨rfl, h2, k2⟩
  have r2 := k2.at g1 (by simp; omega)
  have hc2 : ∀ o, w2.cell? ⟨w.heap.size, o, none⟩ = #[.bool false, .bool false, .int .i64 0][o]? := cell_of r2
  have hf2 : ∀ o, w2.frozen? ⟨w.heap.size, o, none⟩ = false := frozen_of r2
  have K1 : Hid _ := k1.trans (k2.mono (by simp))
  have H2 : Hid _ := h2
  clear h1 k1 g1 k2 h2
  simp only [Out.val, res]
  go_wp2
  refine bodyPost_ret (v := res false false 0) (by simp [results, Tryz.results36, go_sem, res, cell_of (resLaid r2 false false 0)]) rfl ⟨rfl, ?_, ?_⟩
  · have h3 := H2.out.resLaid r2 false false 0
    exact h3
  · exact ((K1.out.setCell (.inr (by simp)) _).setCell (.inr (by simp)) _).setCell (.inr (by simp)) _
end Go.Proofs.YtmnkphenobfbfaaGreat
namespace Go.Proofs.YtmnkphenobfbfaaGreat
open Go.RowKit
set_option maxRecDepth 100000 in
set_option maxHeartbeats 800000 in
theorem l_end {r tb : Nat} {sl : Value} {B : Nat} {m : M} {w : World} (h : RefAt r tb sl B m w) {i : Nat} (hi : i < m.nth) (he0 : 0 ≤ (m.ths i).e) (hen : (m.ths i).e.toNat < m.nc) (h1 : (m.ths i).at_ = 7) :
    Does 36 #[.pointer (some ⟨r, 0, none⟩), .pointer (some ⟨tb, i * 9, none⟩)] r tb sl B (m.ends i ((m.cells (m.ths i).e.toNat).st == 0) (m.cells (m.ths i).e.toNat).v) w := by
  obtain ⟨hs, hf, -, -, -, -, c4, c5, -⟩ := h.thCell hi
  obtain ⟨hsr, -, c0, -⟩ := h.mapCell
  obtain ⟨g, cap, hsl, hg, hgr, hgt, -, q0, q1⟩ := h.entry hen
  have hne := h.rne
  have H : Hid _ := h
  rw [h1] at c4
  rw [hsl] at c0
  clear h h1 hsl
  have hin : (m.ths i).e < (m.nc : Int) := by omega
  generalize (m.cells (m.ths i).e.toNat).st = x at *
  generalize (m.cells (m.ths i).e.toNat).v = y at *
  generalize (m.ths i).e = z at *
  go_enter Tryz.func36, Tryz.ntmps36
  go_wp2_with fail
  go_region
  go_wp2_with fail
  have h1 := ((H.out.alloc (.cells #[.bool false, .bool false, .int .i64 0] 52)).alloc (.cells #[Value.int .i64 x, .int .i64 y] 88)).drew
  have g1 := (block_alloc_lt (block_alloc_new w (.cells #[.bool false, .bool false, .int .i64 0] 52)) (.cells #[Value.int .i64 x, .int .i64 y] 88) : ((w.alloc (.cells #[.bool false, .bool false, .int .i64 0] 52)).alloc (.cells #[Value.int .i64 x, .int .i64 y] 88)).drew.heap[w.heap.size]? = _)
  have k1 := (((Kept.refl [r, tb] w).alloc (.cells #[.bool false, .bool false, .int .i64 0] 52)).alloc (.cells #[Value.int .i64 x, .int .i64 y] 88)).drew
  refine Calls.mono (does_of (n := 57) (by simp) (m_ends h1 hi (x == 0) y)) ?_
  rintro e w2 ⟨rfl, h2, k2⟩
  have r2 := k2.at g1 (by simp; omega)
  have hc2 : ∀ o, w2.cell? ⟨w.heap.size, o, none⟩ = #[.bool false, .bool false, .int .i64 0][o]? := cell_of r2
  have hf2 : ∀ o, w2.frozen? ⟨w.heap.size, o, none⟩ = false := frozen_of r2
  have K1 : Hid _ := k1.trans (k2.mono (by simp))
  have H2 : Hid _ := h2
  clear h1 k1 g1 k2 h2
  simp only [Out.val, res]
  go_wp2
  refine bodyPost_ret (v := res true (x == 0) y) (by simp [results, Tryz.results36, go_sem, res, cell_of (resLaid r2 true (x == 0) y)]) rfl ⟨rfl, ?_, ?_⟩
  · have h3 := H2.out.resLaid r2 true (x == 0) y
    exact h3
  · exact ((K1.out.setCell (.inr (by simp)) _).setCell (.inr (by simp)) _).setCell (.inr (by simp)) _
/-- What a thread must be for a step of Load. -/
theorem does_load {r tb : Nat} {sl : Value} {B : Nat} {m : M} {w : World} (h : RefAt r tb sl B m w) {i : Nat} (hi : i < m.nth) (hk0 : 0 ≤ (m.ths i).key) (hk7 : (m.ths i).key < 8) (hm0 : 0 ≤ m.mis) (hm1 : m.mis < 1000000)
    (hat : (m.ths i).at_ = 1 ∨ (m.ths i).at_ = 3 ∨ (m.ths i).at_ = 4 ∨ (m.ths i).at_ = 5 ∨ (m.ths i).at_ = 51 ∨ (m.ths i).at_ = 52 ∨ (m.ths i).at_ = 53 ∨ (m.ths i).at_ = 6 ∨ (m.ths i).at_ = 7) (he : (m.ths i).at_ = 7 → 0 ≤ (m.ths i).e ∧ (m.ths i).e.toNat < m.nc) :
    Does 36 #[.pointer (some ⟨r, 0, none⟩), .pointer (some ⟨tb, i * 9, none⟩)] r tb sl B (m.load i) w := by
  unfold M.load
  rcases hat with e | e | e | e | e | e | e | e | e
  · simp only [e, if_true]
    exact l_first h hi hk0 hk7 e
  · simp only [e, if_true, Int.reduceEq, if_false]
    exact l_third h hi hk0 hk7 e
  · simp only [e, if_true, Int.reduceEq, if_false]
    exact l_dirty h hi hk0 hk7 e
  · simp only [e, if_true, Int.reduceEq, if_false, true_or]
    exact l_missed0 h hi hm0 hm1 e
  · simp only [e, if_true, Int.reduceEq, if_false, true_or, or_true]
    exact l_missed1 h hi hm0 hm1 e
  · simp only [e, if_true, Int.reduceEq, if_false, true_or, or_true]
    exact l_missed2 h hi hm0 hm1 e
  · simp only [e, if_true, Int.reduceEq, if_false, or_true]
    exact l_missed3 h hi hm0 hm1 e
  · simp only [e, if_true, Int.reduceEq, if_false, or_false]
    exact l_frees h hi e
  · simp only [e, Int.reduceEq, if_false, or_false]
    exact l_end h hi (he e).1 (he e).2 e
end Go.Proofs.YtmnkphenobfbfaaGreat
