import Derived.Test.YtfgfpggjcfhccaaGreatMy
namespace Go.Proofs.YtfgfpggjcfhccaaGreat
open Go.RowKit
set_option maxRecDepth 100000 in
set_option maxHeartbeats 800000 in
theorem s_9c {r tb : Nat} {sl : Value} {B : Nat} {m : M} {w : World} (h : RefAt r tb sl B m w) {i : Nat} (hi : i < m.nth) (hat : (m.ths i).at_ = 9) (o : Out)
    (run : ∀ W, RefAt r tb sl B m W → DoesS 57 #[.pointer (some ⟨r, 0, none⟩), .pointer (some ⟨tb, i * 9, none⟩)] r tb sl B o W) :
    DoesS 36 #[.pointer (some ⟨r, 0, none⟩), .pointer (some ⟨tb, i * 9, none⟩)] r tb sl B o w := by
  obtain ⟨hs, hf, -, c1, c2, -, c4, -⟩ := h.thCell hi
  obtain ⟨hsr, -⟩ := h.mapCell
  have hnot := fun (b : Nat) (cs : Array Value) (t : TypeId) (W : World) (H : RefAt r tb sl B m W) (hb : W.heap[b]? = some (.cells cs t (0, 0))) (ht : t ≠ 88) => H.notOwn hb ht
  have H : Hid _ := h
  have HN : Hid _ := hnot
  have RUN : Hid _ := run
  rw [hat] at c4
  clear h hat run hnot
  generalize (m.ths i).val = y at *
  generalize (m.ths i).key = k at *
  go_enter Tryz.func36, Tryz.ntmps36
  go_wp2_with fail
  have h1 := (H.out.alloc (.cells #[.bool false, .bool false, .int .i64 0] 52)).alloc (.cells #[Value.int .i64 0, .int .i64 y] 88)
  have g1 := two (w1 := w) (w := w) rfl (.cells #[.bool false, .bool false, .int .i64 0] 52) (.cells #[Value.int .i64 0, .int .i64 y] 88)
  have k1 := ((Kept.refl (r :: tb :: sl.ownBlock.toList) w).alloc (.cells #[.bool false, .bool false, .int .i64 0] 52)).alloc (.cells #[Value.int .i64 0, .int .i64 y] 88)
  refine Calls.mono (RUN.out _ h1) ?_
  rintro e w2 ⟨rfl, ⟨sl', h2, hq⟩, k2⟩
  have r2 := k2.at g1 (by
    simp only [List.mem_cons, not_or]
    exact ⟨by omega, by omega, HN.out _ _ _ _ h1 g1 (by simp)⟩)
  have hc2 : ∀ o, w2.cell? ⟨w.heap.size, o, none⟩ = #[.bool false, .bool false, .int .i64 0][o]? := cell_of r2
  have hf2 : ∀ o, w2.frozen? ⟨w.heap.size, o, none⟩ = false := frozen_of r2
  have KK : Hid _ := k1.trans k2
  have H2 : Hid _ := h2
  have HQ : Hid (∀ g, sl'.ownBlock = some g → sl.ownBlock = some g ∨ w.heap.size ≤ g) := fun g hg => (hq g hg).imp id fun q => by simp only [World.size_alloc] at q; omega
  clear h1 k1 g1 k2 h2 hq
  simp only [Out.val, res]
  go_wp2
  refine bodyPost_ret (v := res o.d o.f o.v) (by simp [results, Tryz.results36, go_sem, res, cell_of (resLaid r2 o.d o.f o.v)]) rfl ⟨rfl, ⟨sl', H2.out.resLaid r2 o.d o.f o.v, HQ.out⟩, ?_⟩
  exact ((KK.out.setCell (.inr (by simp)) _).setCell (.inr (by simp)) _).setCell (.inr (by simp)) _
set_option maxRecDepth 100000 in
set_option maxHeartbeats 800000 in
theorem s_10c {r tb : Nat} {sl : Value} {B : Nat} {m : M} {w : World} (h : RefAt r tb sl B m w) {i : Nat} (hi : i < m.nth) (hat : (m.ths i).at_ = 10) (o : Out)
    (run : ∀ W, RefAt r tb sl B m W → DoesS 57 #[.pointer (some ⟨r, 0, none⟩), .pointer (some ⟨tb, i * 9, none⟩)] r tb sl B o W) :
    DoesS 36 #[.pointer (some ⟨r, 0, none⟩), .pointer (some ⟨tb, i * 9, none⟩)] r tb sl B o w := by
  obtain ⟨hs, hf, -, c1, c2, -, c4, -⟩ := h.thCell hi
  obtain ⟨hsr, -⟩ := h.mapCell
  have hnot := fun (b : Nat) (cs : Array Value) (t : TypeId) (W : World) (H : RefAt r tb sl B m W) (hb : W.heap[b]? = some (.cells cs t (0, 0))) (ht : t ≠ 88) => H.notOwn hb ht
  have H : Hid _ := h
  have HN : Hid _ := hnot
  have RUN : Hid _ := run
  rw [hat] at c4
  clear h hat run hnot
  generalize (m.ths i).val = y at *
  generalize (m.ths i).key = k at *
  go_enter Tryz.func36, Tryz.ntmps36
  go_wp2_with fail
  have h1 := (H.out.alloc (.cells #[.bool false, .bool false, .int .i64 0] 52)).alloc (.cells #[Value.int .i64 0, .int .i64 y] 88)
  have g1 := two (w1 := w) (w := w) rfl (.cells #[.bool false, .bool false, .int .i64 0] 52) (.cells #[Value.int .i64 0, .int .i64 y] 88)
  have k1 := ((Kept.refl (r :: tb :: sl.ownBlock.toList) w).alloc (.cells #[.bool false, .bool false, .int .i64 0] 52)).alloc (.cells #[Value.int .i64 0, .int .i64 y] 88)
  refine Calls.mono (RUN.out _ h1) ?_
  rintro e w2 ⟨rfl, ⟨sl', h2, hq⟩, k2⟩
  have r2 := k2.at g1 (by
    simp only [List.mem_cons, not_or]
    exact ⟨by omega, by omega, HN.out _ _ _ _ h1 g1 (by simp)⟩)
  have hc2 : ∀ o, w2.cell? ⟨w.heap.size, o, none⟩ = #[.bool false, .bool false, .int .i64 0][o]? := cell_of r2
  have hf2 : ∀ o, w2.frozen? ⟨w.heap.size, o, none⟩ = false := frozen_of r2
  have KK : Hid _ := k1.trans k2
  have H2 : Hid _ := h2
  have HQ : Hid (∀ g, sl'.ownBlock = some g → sl.ownBlock = some g ∨ w.heap.size ≤ g) := fun g hg => (hq g hg).imp id fun q => by simp only [World.size_alloc] at q; omega
  clear h1 k1 g1 k2 h2 hq
  simp only [Out.val, res]
  go_wp2
  refine bodyPost_ret (v := res o.d o.f o.v) (by simp [results, Tryz.results36, go_sem, res, cell_of (resLaid r2 o.d o.f o.v)]) rfl ⟨rfl, ⟨sl', H2.out.resLaid r2 o.d o.f o.v, HQ.out⟩, ?_⟩
  exact ((KK.out.setCell (.inr (by simp)) _).setCell (.inr (by simp)) _).setCell (.inr (by simp)) _
/-- A step of Store. -/
theorem does_store {r tb : Nat} {sl : Value} {B : Nat} {m : M} {w : World} (h : RefAt r tb sl B m w) (hI : m.Inv) {i : Nat} (hi : i < m.nth) (ho : ThOk m (m.ths i)) (hk : (m.ths i).kind = 1) (h4 : ¬ (m.ths i).at_ = 4) (hnc : m.nc < 1000000) (hB : B ≤ w.heap.size) :
    DoesS 36 #[.pointer (some ⟨r, 0, none⟩), .pointer (some ⟨tb, i * 9, none⟩)] r tb sl B (m.store i) w := by
  have hak := ho.ak
  have hop := ho.op
  unfold OpOk at hop
  have hk0 : 0 ≤ (m.ths i).key := hop.2.2.1
  have hk7 : (m.ths i).key < 8 := by omega
  have hE : NeedsE (m.ths i).kind (m.ths i).at_ → 0 ≤ (m.ths i).e ∧ (m.ths i).e.toNat < m.nc := fun q => ⟨ho.ne q, by have := ho.ne q; have := ho.e.2; omega⟩
  have ha : (m.ths i).at_ = 1 ∨ (m.ths i).at_ = 2 ∨ (m.ths i).at_ = 3 ∨ (m.ths i).at_ = 5 ∨ (m.ths i).at_ = 6 ∨ (m.ths i).at_ = 7 ∨ (m.ths i).at_ = 8 ∨ (m.ths i).at_ = 9 ∨ (m.ths i).at_ = 10 ∨ (m.ths i).at_ = 11 ∨ (m.ths i).at_ = 12 ∨ (m.ths i).at_ = 13 ∨ (m.ths i).at_ = 14 := by
    have : 1 ≤ (m.ths i).at_ ∧ (m.ths i).at_ ≤ 14 := by simpa [AtOk, hk] using hak
    omega
  rcases ha with e | e | e | e | e | e | e | e | e | e | e | e | e
  · by_cases hr : m.read (m.key i) < 0
    · rw [show m.store i = (m.sets i (m.read (m.key i))).goes i 4 by simp [M.store, e, hr]]
      exact (s_1_no h hi hk0 hk7 e hr).s
    · rw [show m.store i = (m.sets i (m.read (m.key i))).goes i 2 by simp [M.store, e, hr]]
      exact (s_1_in h hi hk0 hk7 e (Int.not_lt.1 hr)).s
  · obtain ⟨a, b⟩ := hE (by simp [NeedsE, hk, e])
    by_cases hr : (m.cells (m.ths i).e.toNat).st = 2
    · rw [show m.store i = (m.sees i (m.cells (m.ths i).e.toNat).st (m.cells (m.ths i).e.toNat).v).goes i 4 by simp [M.store, e, hr]]
      exact (s_2_out h hi a b e hr).s
    · rw [show m.store i = (m.sees i (m.cells (m.ths i).e.toNat).st (m.cells (m.ths i).e.toNat).v).goes i 3 by simp [M.store, e, hr]]
      exact (s_2_on h hi a b e hr).s
  · obtain ⟨a, b⟩ := hE (by simp [NeedsE, hk, e])
    by_cases hr : (m.cells (m.ths i).e.toNat).st = (m.ths i).sst ∧ (m.cells (m.ths i).e.toNat).v = (m.ths i).sv
    · rw [show m.store i = { m with cells := put m.cells (m.ths i).e.toNat ⟨0, (m.ths i).val⟩ }.ends i true (m.ths i).val by simp [M.store, e, hr]]
      exact s_3_yes h hi a b e hr.1 hr.2
    · rw [show m.store i = m.goes i 2 by simp [M.store, e, hr]]
      exact (s_3_no h hi a b e hr).s
  · by_cases hr : m.read (m.key i) < 0
    · rw [show m.store i = (m.sets i (m.read (m.key i))).goes i 8 by simp [M.store, e, hr]]
      exact (s_5_no h hi hk0 hk7 e hr).s
    · rw [show m.store i = (m.sets i (m.read (m.key i))).goes i 6 by simp [M.store, e, hr]]
      exact (s_5_in h hi hk0 hk7 e (Int.not_lt.1 hr)).s
  · obtain ⟨a, b⟩ := hE (by simp [NeedsE, hk, e])
    by_cases hr : (m.cells (m.ths i).e.toNat).st = 2
    · rw [show m.store i = { m with cells := put m.cells (m.ths i).e.toNat ⟨1, 0⟩ }.goes i 7 by simp [M.store, e, hr]]
      exact s_6_on h hi a b e hr
    · rw [show m.store i = m.goes i 13 by simp [M.store, e, hr]]
      exact (s_6_out h hi a b e hr).s
  · rw [show m.store i = { m with dirty := put m.dirty (m.key i) (m.ths i).e }.goes i 13 by simp [M.store, e]]
    exact (s_7 h hi hk0 hk7 e).s
  · by_cases hr : m.dirty (m.key i) < 0
    · by_cases ha : m.am = true
      · rw [show m.store i = (m.sets i (m.dirty (m.key i))).goes i 12 by simp [M.store, e, hr, ha]]
        exact (s_8_am h hi hk0 hk7 e hr ha).s
      · have ha' : m.am = false := by simpa using ha
        rw [show m.store i = (m.sets i (m.dirty (m.key i))).goes i 9 by simp [M.store, e, hr, ha']]
        exact (s_8_no h hi hk0 hk7 e hr ha').s
    · rw [show m.store i = (m.sets i (m.dirty (m.key i))).goes i 13 by simp [M.store, e, hr]]
      exact (s_8_in h hi hk0 hk7 e (Int.not_lt.1 hr)).s
  · rw [show m.store i = { m with hd := true, dirty := fun _ => -1 }.scan i 0 by simp [M.store, e]]
    exact s_9c h hi e _ fun W hW => s_9 hW hi e
  · have hnx := ho.nx hk e
    have hel : (m.read (m.nxt i)).toNat < m.nc := by
      have := hI.rd (m.nxt i) (by unfold M.nxt; omega)
      have h0 : 0 ≤ m.read (m.nxt i) := hnx.2.2
      omega
    rw [show m.store i = (m.copied i).scan i (m.nxt i + 1) by simp [M.store, e]]
    refine s_10c h hi e _ fun W hW => ?_
    by_cases a0 : (m.cells (m.read (m.nxt i)).toNat).st = 0
    · rw [show m.copied i = { m with dirty := put m.dirty (m.nxt i) (m.read (m.nxt i)) } by unfold M.copied; rw [if_pos a0]]
      exact s_10_value hW hi e hnx.1 hnx.2.1 hnx.2.2 hel a0
    · by_cases a1 : (m.cells (m.read (m.nxt i)).toNat).st = 1
      · rw [show m.copied i = { m with cells := put m.cells (m.read (m.nxt i)).toNat ⟨2, 0⟩ } by unfold M.copied; rw [if_neg a0, if_pos a1]]
        exact s_10_empty hW hi e hnx.1 hnx.2.1 hnx.2.2 hel a1
      · rw [show m.copied i = m by unfold M.copied; rw [if_neg a0, if_neg a1]]
        exact s_10_gone hW hi e hnx.1 hnx.2.1 hnx.2.2 hel a0 a1
  · rw [show m.store i = { m with am := true }.goes i 12 by simp [M.store, e]]
    exact (s_11 h hi e).s
  · rw [show m.store i = { m.adds 0 (m.ths i).val with dirty := put m.dirty (m.key i) m.nc }.goes i 14 by simp [M.store, e]]
    exact s_12 h hi hk0 hk7 e hnc hB
  · obtain ⟨a, b⟩ := hE (by simp [NeedsE, hk, e])
    rw [show m.store i = { m with cells := put m.cells (m.ths i).e.toNat ⟨0, (m.ths i).val⟩ }.goes i 14 by simp [M.store, e]]
    exact s_13 h hi a b e
  · rw [show m.store i = { m with hol := -1 }.ends i true (m.ths i).val by simp [M.store, e]]
    exact (s_14 h hi e).s
end Go.Proofs.YtfgfpggjcfhccaaGreat
