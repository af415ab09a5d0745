import Derived.Test.YtfgfpggjcfhccaaGreatMl
namespace Go.Proofs.YtfgfpggjcfhccaaGreat
open Go.RowKit
/-- A row is the entries' list if it has their cells. -/
theorem cellList_eq (c : Nat → Cel) (n : Nat) (l : List Value) (hl : l.length = n * 2) (h : ∀ a, a < n → l[a * 2]? = some (.int .i64 (c a).st) ∧ l[a * 2 + 1]? = some (.int .i64 (c a).v)) : l = cellList c n := by
  apply List.ext_getElem?
  intro q
  by_cases hq : q < n * 2
  · have ha : q / 2 < n := by omega
    have h1 := h (q / 2) ha
    have h2 := cellList_at c ha
    rcases (by omega : q = q / 2 * 2 ∨ q = q / 2 * 2 + 1) with e | e
    · rw [e, h1.1, h2.1]
    · rw [e, h1.2, h2.2]
  · rw [List.getElem?_eq_none (by omega), List.getElem?_eq_none (by rw [cellList_length]; omega)]
theorem cur_at {cur : Array Value} {c : Nat → Cel} {n : Nat} (h : cur.toList.take (n * 2) = cellList c n) {a : Nat} (ha : a < n) : cur[a * 2]? = some (.int .i64 (c a).st) ∧ cur[a * 2 + 1]? = some (.int .i64 (c a).v) := by
  have hc := cellList_at c ha
  constructor
  · rw [← Array.getElem?_toList, ← hc.1, ← h, List.getElem?_take, if_pos (by omega)]
  · rw [← Array.getElem?_toList, ← hc.2, ← h, List.getElem?_take, if_pos (by omega)]
/-- One entry is set. -/
theorem RefAt.setEntry {r tb : Nat} {sl : Value} {B : Nat} {m : M} {w : World} (h : RefAt r tb sl B m w) {g cap : Nat} (hsl : sl = .slice (some ⟨g, 0, none⟩) m.nc cap) {j : Nat} (hj : j < m.nc) (x y : Int) :
    RefAt r tb sl B { m with cells := put m.cells j ⟨x, y⟩ } ((w.setCell ⟨g, j * 2, none⟩ (.int .i64 x)).setCell ⟨g, j * 2 + 1, none⟩ (.int .i64 y)) := by
  have hn := h.own_ne (g := g) (by rw [hsl]; rfl)
  obtain ⟨cs, a1, a2⟩ := h.own
  obtain ⟨ct, b1, b2⟩ := h.ths
  refine ⟨h.nth, ⟨cs, block_set_ne (block_set_ne a1 (Ne.symm hn.1) _ _) (Ne.symm hn.1) _ _, ⟨a2.size, a2.c0, a2.rd, a2.am, a2.hd, a2.dt, a2.mis, a2.hol, a2.cl, a2.th⟩⟩, ⟨ct, block_set_ne (block_set_ne b1 (Ne.symm hn.2) _ _) (Ne.symm hn.2) _ _, b2⟩, ⟨cellList_length _ _, ?_⟩⟩
  rcases h.row.2 with ⟨_, h0⟩ | ⟨g', cap', cur, e1, e2, e3, e4, e5, e6, e7⟩
  · omega
  · rw [hsl] at e1
    injection e1 with e1 _ e1'
    injection e1 with e1
    injection e1 with e1
    subst e1 e1'
    refine .inr ⟨g, cap, _, hsl, e2, block_set_same (block_set_same e3 _ _) _ _, e4, e5, by simpa using e6, ?_⟩
    refine cellList_eq _ _ _ (by simp; omega) fun a ha => ?_
    have hc := cur_at e7 ha
    show _ = some (Value.int .i64 (put m.cells j ⟨x, y⟩ a).st) ∧ _ = some (Value.int .i64 (put m.cells j ⟨x, y⟩ a).v)
    rw [List.getElem?_take, if_pos (by omega), List.getElem?_take, if_pos (by omega), Array.getElem?_toList, Array.getElem?_toList]
    by_cases haj : a = j
    · subst haj
      rw [put_same]
      constructor
      · rw [Array.getElem?_setIfInBounds_ne (by omega), Array.getElem?_setIfInBounds_self_of_lt (by omega)]
      · rw [Array.getElem?_setIfInBounds_self_of_lt (by simp; omega)]
    · rw [put_other _ _ haj]
      constructor
      · rw [Array.getElem?_setIfInBounds_ne (by omega), Array.getElem?_setIfInBounds_ne (by omega)]; exact hc.1
      · rw [Array.getElem?_setIfInBounds_ne (by omega), Array.getElem?_setIfInBounds_ne (by omega)]; exact hc.2
end Go.Proofs.YtfgfpggjcfhccaaGreat
