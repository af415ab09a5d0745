import Derived.Test.YtmnkphenobfbfaaZf
import Derived.Test.YtmnkphenobfbfaaYa
import Derived.Test.YtmnkphenobfbfaaYi
import Derived.Deep.AppendLies
namespace Go.Proofs.Ytmnkphenobfbfaa
open Go.RowKit
/-! Calls in memory. -/
/-- A call's nine cells. -/
def rowC (h : Hist) (c : Nat) : Array Value := #[.int .i64 (h.ops c).kind, .int .i64 (h.ops c).key, .int .i64 (h.ops c).val, .int .i64 (h.ops c).old, .int .i64 (h.frm c), .int .i64 (h.til c), .bool (decide (0 < h.til c)), .bool (h.res c).1, .int .i64 (h.res c).2]
def Cells9 (cur : Array Value) (h : Hist) : Prop := ∀ c, c < h.n → cur[c * 9]? = some (.int .i64 (h.ops c).kind) ∧ cur[c * 9 + 1]? = some (.int .i64 (h.ops c).key) ∧ cur[c * 9 + 2]? = some (.int .i64 (h.ops c).val) ∧ cur[c * 9 + 3]? = some (.int .i64 (h.ops c).old) ∧
  cur[c * 9 + 4]? = some (.int .i64 (h.frm c)) ∧ cur[c * 9 + 5]? = some (.int .i64 (h.til c)) ∧ cur[c * 9 + 6]? = some (.bool (decide (0 < h.til c))) ∧ cur[c * 9 + 7]? = some (.bool (h.res c).1) ∧ cur[c * 9 + 8]? = some (.int .i64 (h.res c).2)
structure CallsAt (w : World) (a : Option Addr) (h : Hist) : Prop where
  at_ : ∀ c, c < h.n → ∃ g cur, a = some ⟨g, 0, none⟩ ∧ w.heap[g]? = some (.cells cur 82 (0, 0)) ∧ Cells9 cur h
structure LeftAt (w : World) (a : Option Addr) (n : Nat) (lf : Nat → Bool) : Prop where
  at_ : ∀ c, c < n → ∃ g cur, a = some ⟨g, 0, none⟩ ∧ w.heap[g]? = some (.cells cur 4 (0, 0)) ∧ ∀ k, k < n → cur[k]? = some (.bool (lf k))
theorem CallsAt.kept {w w' : World} {a : Option Addr} {h : Hist} (H : CallsAt w a h) (k : Kept [] w w') : CallsAt w' a h :=
  ⟨fun c hc => by obtain ⟨g, cur, e1, e2, e3⟩ := H.at_ c hc; exact ⟨g, cur, e1, k.at e2 (by simp), e3⟩⟩
theorem LeftAt.kept {w w' : World} {a : Option Addr} {n : Nat} {lf : Nat → Bool} (H : LeftAt w a n lf) (k : Kept [] w w') : LeftAt w' a n lf :=
  ⟨fun c hc => by obtain ⟨g, cur, e1, e2, e3⟩ := H.at_ c hc; exact ⟨g, cur, e1, k.at e2 (by simp), e3⟩⟩
theorem LeftAt.cells {w : World} {a : Option Addr} {n : Nat} {lf : Nat → Bool} (H : LeftAt w a n lf) {c : Nat} (hc : c < n) : ∃ g, a = some ⟨g, 0, none⟩ ∧ (∀ k, k < n → w.cell? ⟨g, k, none⟩ = some (.bool (lf k))) ∧ (∀ o, w.frozen? ⟨g, o, none⟩ = false) ∧ g < w.heap.size := by
  obtain ⟨g, cur, e1, e2, e3⟩ := H.at_ c hc
  exact ⟨g, e1, fun k hk => by rw [cell_of e2]; exact e3 k hk, frozen_of e2, lt_of_block e2⟩
theorem CallsAt.cells {w : World} {a : Option Addr} {h : Hist} (H : CallsAt w a h) {c : Nat} (hc : c < h.n) : ∃ g, a = some ⟨g, 0, none⟩ ∧ g < w.heap.size ∧ ∀ c, c < h.n → w.cell? ⟨g, c * 9, none⟩ = some (.int .i64 (h.ops c).kind) ∧ w.cell? ⟨g, c * 9 + 1, none⟩ = some (.int .i64 (h.ops c).key) ∧ w.cell? ⟨g, c * 9 + 2, none⟩ = some (.int .i64 (h.ops c).val) ∧ w.cell? ⟨g, c * 9 + 3, none⟩ = some (.int .i64 (h.ops c).old) ∧
    w.cell? ⟨g, c * 9 + 4, none⟩ = some (.int .i64 (h.frm c)) ∧ w.cell? ⟨g, c * 9 + 5, none⟩ = some (.int .i64 (h.til c)) ∧ w.cell? ⟨g, c * 9 + 6, none⟩ = some (.bool (decide (0 < h.til c))) ∧ w.cell? ⟨g, c * 9 + 7, none⟩ = some (.bool (h.res c).1) ∧ w.cell? ⟨g, c * 9 + 8, none⟩ = some (.int .i64 (h.res c).2) := by
  obtain ⟨g, cur, e1, e2, e3⟩ := H.at_ c hc
  refine ⟨g, e1, lt_of_block e2, fun k hk => ?_⟩
  simp only [cell_of e2]
  exact e3 k hk
/-- One is taken out. -/
theorem LeftAt.take {w : World} {g n : Nat} {lf : Nat → Bool} (H : LeftAt w (some ⟨g, 0, none⟩) n lf) {i : Nat} (hi : i < n) (v : Bool) : LeftAt (w.setCell ⟨g, i, none⟩ (.bool v)) (some ⟨g, 0, none⟩) n (put lf i v) := by
  refine ⟨fun c hc => ?_⟩
  obtain ⟨g', cur, e1, e2, e3⟩ := H.at_ c hc
  simp only [Option.some.injEq, Addr.mk.injEq, and_true] at e1
  subst e1
  refine ⟨g, _, rfl, block_set_same e2 i _, fun k hk => ?_⟩
  rw [Array.getElem?_setIfInBounds]
  have hsz : i < cur.size := by
    rcases Nat.lt_or_ge i cur.size with q | q
    · exact q
    · have := e3 i hi; rw [Array.getElem?_eq_none q] at this; cases this
  by_cases q : i = k
  · subst q; rw [if_pos rfl, if_pos hsz, put_same]
  · rw [if_neg q, put_other _ _ (fun r => q r.symm)]; exact e3 k hk
theorem CallsAt.left {w : World} {a : Option Addr} {h : Hist} (H : CallsAt w a h) {g n : Nat} {lf : Nat → Bool} (L : LeftAt w (some ⟨g, 0, none⟩) n lf) {i : Nat} (hi : i < n) (v : Value) : CallsAt (w.setCell ⟨g, i, none⟩ v) a h := by
  refine ⟨fun c hc => ?_⟩
  obtain ⟨g1, cur, e1, e2, e3⟩ := H.at_ c hc
  obtain ⟨g', cur', d1, d2, d3⟩ := L.at_ i hi
  simp only [Option.some.injEq, Addr.mk.injEq, and_true] at d1
  subst d1
  exact ⟨g1, cur, e1, block_set_ne e2 (ne_of_blocks e2 d2 (by simp)) _ _, e3⟩
/-- It is put back: all is as it was. -/
theorem kept_back {w W1 : World} {g n : Nat} {lf : Nat → Bool} (L : LeftAt w (some ⟨g, 0, none⟩) n lf) {i : Nat} (hi : i < n) (hl : lf i = true) (k : Kept [] (w.setCell ⟨g, i, none⟩ (.bool false)) W1) : Kept [] w (W1.setCell ⟨g, i, none⟩ (.bool true)) := by
  obtain ⟨g', cur, d1, d2, d3⟩ := L.at_ i hi
  simp only [Option.some.injEq, Addr.mk.injEq, and_true] at d1
  subst d1
  have b1 := k.at (block_set_same d2 i (.bool false)) (by simp)
  have b2 := block_set_same b1 i (.bool true)
  have hc : (cur.setIfInBounds i (.bool false)).setIfInBounds i (.bool true) = cur := by
    apply Array.ext_getElem?
    intro j
    rw [Array.getElem?_setIfInBounds, Array.getElem?_setIfInBounds]
    by_cases q : i = j
    · subst q
      have h3 := d3 i hi
      rw [hl] at h3
      have hsz : i < cur.size := by
        rcases Nat.lt_or_ge i cur.size with q | q
        · exact q
        · rw [Array.getElem?_eq_none q] at h3; cases h3
      rw [if_pos rfl, if_pos (by simpa using hsz), h3]
    · rw [if_neg q, if_neg q]
  rw [hc] at b2
  refine ⟨k.os, k.tape, k.output, ?_, fun j hj _ => ?_⟩
  · have := k.size; simpa [World.setCell] using this
  · by_cases q : j = g
    · subst q; rw [b2, d2]
    · rw [Below.heap_setCell _ _ _ _ q, k.block j (by simpa [World.setCell] using hj) (by simp), Below.heap_setCell _ _ _ _ q]
end Go.Proofs.Ytmnkphenobfbfaa
