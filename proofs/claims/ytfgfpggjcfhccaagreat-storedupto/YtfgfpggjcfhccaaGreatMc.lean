import Derived.Test.YtfgfpggjcfhccaaGreatMb
namespace Go.Proofs.YtfgfpggjcfhccaaGreat
open Go.RowKit
theorem put_put {α : Type} (f : Nat → α) (i : Nat) (x y : α) : put (put f i x) i y = put f i y := by
  funext j
  by_cases h : j = i <;> simp [put, h]
theorem thr_thr (m : M) (i : Nat) (s t : Thr) : (m.thr i s).thr i t = m.thr i t := by
  simp [M.thr, put_put]
theorem thr_ths (m : M) (i : Nat) (t : Thr) : (m.thr i t).ths i = t := put_same _ _ _
/-- A step's answer lies in a new block, and is read there. -/
theorem RefAt.resSet {r tb : Nat} {sl : Value} {B : Nat} {m : M} {w : World} {g : Nat} {cs : Array Value} (h : RefAt r tb sl B m w) (hg : w.heap[g]? = some (.cells cs 52 (0, 0))) (o : Nat) (v : Value) :
    RefAt r tb sl B m (w.setCell ⟨g, o, none⟩ v) := by
  refine h.kept (F := [g]) ((Kept.refl _ w).setCell (.inl (by simp)) _) ?_ ?_ ?_
  · obtain ⟨c, b1, _⟩ := h.own
    simpa using ne_of_blocks b1 hg (by simp)
  · obtain ⟨c, b1, _⟩ := h.ths
    simpa using ne_of_blocks b1 hg (by simp)
  · intro g' hg'
    rcases h.row.2 with ⟨rfl, _⟩ | ⟨g2, cap, cur, rfl, _, e3, _⟩
    · simp [Value.ownBlock] at hg'
    · simp only [Value.ownBlock, Option.some.injEq] at hg'
      subst hg'
      simpa using ne_of_blocks e3 hg (by simp)
/-- Where the call's answer is laid. -/
theorem resLaid {w : World} {g : Nat} (hg : w.heap[g]? = some (.cells #[.bool false, .bool false, .int .i64 0] 52 (0, 0))) (d f : Bool) (v : Int) :
    (((w.setCell ⟨g, 0, none⟩ (.bool d)).setCell ⟨g, 1, none⟩ (.bool f)).setCell ⟨g, 2, none⟩ (.int .i64 v)).heap[g]? = some (.cells #[.bool d, .bool f, .int .i64 v] 52 (0, 0)) :=
  block_set_same (block_set_same (block_set_same hg 0 (.bool d)) 1 (.bool f)) 2 (.int .i64 v)
theorem RefAt.resLaid {r tb : Nat} {sl : Value} {B : Nat} {m : M} {w : World} {g : Nat} (h : RefAt r tb sl B m w) (hg : w.heap[g]? = some (.cells #[.bool false, .bool false, .int .i64 0] 52 (0, 0))) (d f : Bool) (v : Int) :
    RefAt r tb sl B m (((w.setCell ⟨g, 0, none⟩ (.bool d)).setCell ⟨g, 1, none⟩ (.bool f)).setCell ⟨g, 2, none⟩ (.int .i64 v)) :=
  ((h.resSet hg _ _).resSet (block_set_same hg _ _) _ _).resSet (block_set_same (block_set_same hg _ _) _ _) _ _
theorem size_set (w : World) (a : Addr) (v : Value) : (w.setCell a v).heap.size = w.heap.size := by simp [World.setCell]
/-- The new block of an answer, behind a draw. -/
theorem newRes {w w1 : World} (h : w1.heap.size = w.heap.size) : (w1.alloc (.cells #[.bool false, .bool false, .int .i64 0] 52)).drew.heap[w.heap.size]? = some (.cells #[.bool false, .bool false, .int .i64 0] 52 (0, 0)) := by
  have := block_alloc_new w1 (.cells #[.bool false, .bool false, .int .i64 0] 52)
  rw [h] at this
  exact this
theorem newRes0 {w w1 : World} (h : w1.heap.size = w.heap.size) : (w1.alloc (.cells #[.bool false, .bool false, .int .i64 0] 52)).heap[w.heap.size]? = some (.cells #[.bool false, .bool false, .int .i64 0] 52 (0, 0)) := by
  have := block_alloc_new w1 (.cells #[.bool false, .bool false, .int .i64 0] 52)
  rw [h] at this
  exact this
set_option maxRecDepth 100000 in
set_option maxHeartbeats 800000 in
theorem m_first_in {r tb : Nat} {sl : Value} {B : Nat} {m : M} {w : World} (h : RefAt r tb sl B m w) {i : Nat} (hi : i < m.nth) {k : Int} (hk0 : 0 ≤ k) (hk7 : k < 8) (hkey : (m.ths i).key = k) (entry : Int) (he : 0 ≤ m.read k.toNat) :
    Calls Tryz.prog 51 #[.pointer (some ⟨r, 0, none⟩), .pointer (some ⟨tb, i * 9, none⟩), .int .i64 entry] w fun e w' => e = .returned (res false false 0) ∧ RefAt r tb sl B (m.thr i { m.ths i with e := m.read k.toNat, at_ := entry }) w' ∧ Kept [tb] w w' := by
  obtain ⟨hs, hf, -, c1, -, -, -, c5, -⟩ := h.thCell hi
  obtain ⟨hsr, -, -, crd, c9, -⟩ := h.mapCell
  have ck := crd k.toNat (by omega)
  rw [hkey] at c1
  have hne := h.rne
  have H : Hid _ := h
  clear h crd hkey
  generalize hx : m.read k.toNat = x at *
  go_enter Tryz.func51, Tryz.ntmps51
  go_wp2
  go_region
  go_wp2_with fail
  have h1 := ((H.out.putE hi x).alloc (.cells #[.bool false, .bool false, .int .i64 0] 52)).drew
  have g1 := newRes (w := w) (size_set w ⟨tb, i * 9 + 5, none⟩ (.int .i64 x))
  have k1 := (((Kept.refl [tb] w).setCell (p := ⟨tb, i * 9 + 5, none⟩) (.inl (by simp)) (.int .i64 x)).alloc (.cells #[.bool false, .bool false, .int .i64 0] 52)).drew
  refine (m_goes h1 hi entry).mono ?_
  rintro e w2 ⟨rfl, h2, k2⟩
  have r2 := k2.at g1 (by simp; omega)
  have hc2 : ∀ o, w2.cell? ⟨w.heap.size, o, none⟩ = #[.bool false, .bool false, .int .i64 0][o]? := cell_of r2
  have hf2 : ∀ o, w2.frozen? ⟨w.heap.size, o, none⟩ = false := frozen_of r2
  have K1 : Hid _ := k1.trans (k2.mono (by simp))
  have H2 : Hid _ := h2
  clear h1 k1 g1 k2 h2
  simp only [res]
  go_wp2
  refine bodyPost_ret (v := res false false 0) (by simp [results, Tryz.results51, go_sem, res, cell_of (resLaid r2 false false 0)]) rfl ⟨rfl, ?_, ?_⟩
  · have h3 := H2.out.resLaid r2 false false 0
    rw [show ∀ (m : M) (i : Nat) (t : Thr), ({ m with ths := put m.ths i t } : M) = m.thr i t from fun _ _ _ => rfl, thr_thr] at h3
    simp only [put_same] at h3
    exact h3
  · exact ((K1.out.setCell (.inr (by simp)) _).setCell (.inr (by simp)) _).setCell (.inr (by simp)) _
set_option maxRecDepth 100000 in
set_option maxHeartbeats 800000 in
theorem m_first_end {r tb : Nat} {sl : Value} {B : Nat} {m : M} {w : World} (h : RefAt r tb sl B m w) {i : Nat} (hi : i < m.nth) {k : Int} (hk0 : 0 ≤ k) (hk7 : k < 8) (hkey : (m.ths i).key = k) (entry : Int) (he : m.read k.toNat < 0) (ha : m.am = false) :
    Calls Tryz.prog 51 #[.pointer (some ⟨r, 0, none⟩), .pointer (some ⟨tb, i * 9, none⟩), .int .i64 entry] w fun e w' => e = .returned (res true false 0) ∧ RefAt r tb sl B (m.thr i { m.ths i with e := m.read k.toNat, at_ := 0 }) w' ∧ Kept [tb] w w' := by
  obtain ⟨hs, hf, -, c1, -, -, -, c5, -⟩ := h.thCell hi
  obtain ⟨hsr, -, -, crd, c9, -⟩ := h.mapCell
  have ck := crd k.toNat (by omega)
  rw [hkey] at c1
  have hne := h.rne
  have H : Hid _ := h
  clear h crd hkey
  generalize hx : m.read k.toNat = x at *
  rw [ha] at c9
  go_enter Tryz.func51, Tryz.ntmps51
  go_wp2
  go_region
  go_wp2_with fail
  have h1 := ((H.out.putE hi x).alloc (.cells #[.bool false, .bool false, .int .i64 0] 52)).drew
  have g1 := newRes (w := w) (size_set w ⟨tb, i * 9 + 5, none⟩ (.int .i64 x))
  have k1 := (((Kept.refl [tb] w).setCell (p := ⟨tb, i * 9 + 5, none⟩) (.inl (by simp)) (.int .i64 x)).alloc (.cells #[.bool false, .bool false, .int .i64 0] 52)).drew
  refine (m_ends h1 hi false 0).mono ?_
  rintro e w2 ⟨rfl, h2, k2⟩
  have r2 := k2.at g1 (by simp; omega)
  have hc2 : ∀ o, w2.cell? ⟨w.heap.size, o, none⟩ = #[.bool false, .bool false, .int .i64 0][o]? := cell_of r2
  have hf2 : ∀ o, w2.frozen? ⟨w.heap.size, o, none⟩ = false := frozen_of r2
  have K1 : Hid _ := k1.trans (k2.mono (by simp))
  have H2 : Hid _ := h2
  clear h1 k1 g1 k2 h2
  simp only [res]
  go_wp2
  refine bodyPost_ret (v := res true false 0) (by simp [results, Tryz.results51, go_sem, res, cell_of (resLaid r2 true false 0)]) rfl ⟨rfl, ?_, ?_⟩
  · have h3 := H2.out.resLaid r2 true false 0
    rw [show ∀ (m : M) (i : Nat) (t : Thr), ({ m with ths := put m.ths i t } : M) = m.thr i t from fun _ _ _ => rfl, thr_thr] at h3
    simp only [put_same] at h3
    exact h3
  · exact ((K1.out.setCell (.inr (by simp)) _).setCell (.inr (by simp)) _).setCell (.inr (by simp)) _
set_option maxRecDepth 100000 in
set_option maxHeartbeats 800000 in
theorem m_first_on {r tb : Nat} {sl : Value} {B : Nat} {m : M} {w : World} (h : RefAt r tb sl B m w) {i : Nat} (hi : i < m.nth) {k : Int} (hk0 : 0 ≤ k) (hk7 : k < 8) (hkey : (m.ths i).key = k) (entry : Int) (he : m.read k.toNat < 0) (ha : m.am = true) :
    Calls Tryz.prog 51 #[.pointer (some ⟨r, 0, none⟩), .pointer (some ⟨tb, i * 9, none⟩), .int .i64 entry] w fun e w' => e = .returned (res false false 0) ∧ RefAt r tb sl B (m.thr i { m.ths i with e := m.read k.toNat, at_ := 2 }) w' ∧ Kept [tb] w w' := by
  obtain ⟨hs, hf, -, c1, -, -, -, c5, -⟩ := h.thCell hi
  obtain ⟨hsr, -, -, crd, c9, -⟩ := h.mapCell
  have ck := crd k.toNat (by omega)
  rw [hkey] at c1
  have hne := h.rne
  have H : Hid _ := h
  clear h crd hkey
  generalize hx : m.read k.toNat = x at *
  rw [ha] at c9
  go_enter Tryz.func51, Tryz.ntmps51
  go_wp2
  go_region
  go_wp2_with fail
  have h1 := ((H.out.putE hi x).alloc (.cells #[.bool false, .bool false, .int .i64 0] 52)).drew
  have g1 := newRes (w := w) (size_set w ⟨tb, i * 9 + 5, none⟩ (.int .i64 x))
  have k1 := (((Kept.refl [tb] w).setCell (p := ⟨tb, i * 9 + 5, none⟩) (.inl (by simp)) (.int .i64 x)).alloc (.cells #[.bool false, .bool false, .int .i64 0] 52)).drew
  refine (m_goes h1 hi 2).mono ?_
  rintro e w2 ⟨rfl, h2, k2⟩
  have r2 := k2.at g1 (by simp; omega)
  have hc2 : ∀ o, w2.cell? ⟨w.heap.size, o, none⟩ = #[.bool false, .bool false, .int .i64 0][o]? := cell_of r2
  have hf2 : ∀ o, w2.frozen? ⟨w.heap.size, o, none⟩ = false := frozen_of r2
  have K1 : Hid _ := k1.trans (k2.mono (by simp))
  have H2 : Hid _ := h2
  clear h1 k1 g1 k2 h2
  simp only [res]
  go_wp2
  refine bodyPost_ret (v := res false false 0) (by simp [results, Tryz.results51, go_sem, res, cell_of (resLaid r2 false false 0)]) rfl ⟨rfl, ?_, ?_⟩
  · have h3 := H2.out.resLaid r2 false false 0
    rw [show ∀ (m : M) (i : Nat) (t : Thr), ({ m with ths := put m.ths i t } : M) = m.thr i t from fun _ _ _ => rfl, thr_thr] at h3
    simp only [put_same] at h3
    exact h3
  · exact ((K1.out.setCell (.inr (by simp)) _).setCell (.inr (by simp)) _).setCell (.inr (by simp)) _
end Go.Proofs.YtfgfpggjcfhccaaGreat
