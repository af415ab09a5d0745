import Derived.Test.YtmnkphenobfbfaaGreatXg
import Derived.Deep.RegionHeld3
import Derived.RegionTactic
namespace Go.Proofs.YtmnkphenobfbfaaGreat
open Go.RowKit
/-! The document's machine. -/
/-- A thread's nine cells, from i * 9 on. -/
structure ThAt (cs : Array Value) (i : Nat) (t : Thr) : Prop where
  c0 : cs[i * 9]? = some (.int .i64 t.kind)
  c1 : cs[i * 9 + 1]? = some (.int .i64 t.key)
  c2 : cs[i * 9 + 2]? = some (.int .i64 t.val)
  c3 : cs[i * 9 + 3]? = some (.int .i64 t.old)
  c4 : cs[i * 9 + 4]? = some (.int .i64 t.at_)
  c5 : cs[i * 9 + 5]? = some (.int .i64 t.e)
  c6 : cs[i * 9 + 6]? = some (.int .i64 t.sst)
  c7 : cs[i * 9 + 7]? = some (.int .i64 t.sv)
  c8 : cs[i * 9 + 8]? = some (.int .i64 t.next)
/-- The map's own 23 cells. -/
structure MapCells (cs : Array Value) (tb : Nat) (sl : Value) (m : M) : Prop where
  size : cs.size = 23
  c0 : cs[0]? = some sl
  rd : ∀ k, k < 8 → cs[1 + k]? = some (.int .i64 (m.read k))
  am : cs[9]? = some (.bool m.am)
  hd : cs[10]? = some (.bool m.hd)
  dt : ∀ k, k < 8 → cs[11 + k]? = some (.int .i64 (m.dirty k))
  mis : cs[19]? = some (.int .i64 m.mis)
  hol : cs[20]? = some (.int .i64 m.hol)
  cl : cs[21]? = some (.bool m.cl)
  th : cs[22]? = some (.slice (some ⟨tb, 0, none⟩) m.nth m.nth)
/-- The entries' row: two cells each. -/
def cellList (c : Nat → Cel) : Nat → List Value
  | 0 => []
  | n + 1 => cellList c n ++ [.int .i64 (c n).st, .int .i64 (c n).v]
/-- The document's map lies at r, its threads at tb, its entries in sl. -/
structure RefAt (r tb : Nat) (sl : Value) (B : Nat) (m : M) (w : World) : Prop where
  nth : m.nth ≤ 6
  own : ∃ cs, w.heap[r]? = some (.cells cs 59 (0, 0)) ∧ MapCells cs tb sl m
  ths : ∃ cs, w.heap[tb]? = some (.cells cs 90 (0, 0)) ∧ cs.size = m.nth * 9 ∧ ∀ i, i < m.nth → ThAt cs i (m.ths i)
  row : w.ownsRow B 88 2 sl m.nc (cellList m.cells m.nc)
theorem cellList_length (c : Nat → Cel) (n : Nat) : (cellList c n).length = n * 2 := by
  induction n with
  | zero => rfl
  | succ n ih => simp [cellList, ih]; omega
theorem cellList_at (c : Nat → Cel) {n i : Nat} (h : i < n) : (cellList c n)[i * 2]? = some (.int .i64 (c i).st) ∧ (cellList c n)[i * 2 + 1]? = some (.int .i64 (c i).v) := by
  induction n with
  | zero => omega
  | succ n ih =>
    have hl := cellList_length c n
    simp only [cellList]
    by_cases hi : i < n
    · have := ih hi
      rw [List.getElem?_append_left (by omega), List.getElem?_append_left (by omega)]
      exact this
    · obtain rfl : i = n := by omega
      rw [List.getElem?_append_right (by omega), List.getElem?_append_right (by omega), hl]
      simp
theorem RefAt.kept {r tb : Nat} {sl : Value} {B : Nat} {m : M} {w w' : World} {F : List Nat} (h : RefAt r tb sl B m w) (k : Kept F w w') (h1 : r ∉ F) (h2 : tb ∉ F) (h3 : ∀ g, sl.ownBlock = some g → g ∉ F) : RefAt r tb sl B m w' := by
  obtain ⟨cs, a1, a2⟩ := h.own
  obtain ⟨ct, b1, b2⟩ := h.ths
  refine ⟨h.nth, ⟨cs, k.at a1 h1, a2⟩, ⟨ct, k.at b1 h2, b2⟩, ⟨h.row.1, ?_⟩⟩
  rcases h.row.2 with h' | ⟨g, cap, cur, e1, e2, e3, e4⟩
  · exact .inl h'
  · exact .inr ⟨g, cap, cur, e1, e2, k.at e3 (h3 g (by rw [e1]; rfl)), e4⟩
theorem RefAt.keptNil {r tb : Nat} {sl : Value} {B : Nat} {m : M} {w w' : World} (h : RefAt r tb sl B m w) (k : Kept [] w w') : RefAt r tb sl B m w' := h.kept k (by simp) (by simp) (by simp)
theorem RefAt.rne {r tb : Nat} {sl : Value} {B : Nat} {m : M} {w : World} (h : RefAt r tb sl B m w) : r ≠ tb := by
  obtain ⟨cs, a1, _⟩ := h.own
  obtain ⟨ct, b1, _⟩ := h.ths
  exact ne_of_blocks a1 b1 (by simp)
theorem RefAt.own_ne {r tb : Nat} {sl : Value} {B : Nat} {m : M} {w : World} (h : RefAt r tb sl B m w) {g : Nat} (hg : sl.ownBlock = some g) : g ≠ r ∧ g ≠ tb := by
  obtain ⟨cs, a1, _⟩ := h.own
  obtain ⟨ct, b1, _⟩ := h.ths
  rcases h.row.2 with ⟨rfl, _⟩ | ⟨g', cap, cur, rfl, _, e3, _⟩
  · simp [Value.ownBlock] at hg
  · simp only [Value.ownBlock, Option.some.injEq] at hg
    subst hg
    exact ⟨ne_of_blocks e3 a1 (by simp), ne_of_blocks e3 b1 (by simp)⟩
theorem ThAt.other {cs : Array Value} {i j a : Nat} {t : Thr} (h : ThAt cs j t) (hne : j ≠ i) (ha : a < 9) (v : Value) : ThAt (cs.setIfInBounds (i * 9 + a) v) j t := by
  refine ⟨?_, ?_, ?_, ?_, ?_, ?_, ?_, ?_, ?_⟩ <;> rw [Array.getElem?_setIfInBounds_ne (by omega)]
  · exact h.c0
  · exact h.c1
  · exact h.c2
  · exact h.c3
  · exact h.c4
  · exact h.c5
  · exact h.c6
  · exact h.c7
  · exact h.c8
/-- One cell of a thread, and the thread that lies there now. -/
theorem RefAt.thread {r tb : Nat} {sl : Value} {B : Nat} {m : M} {w : World} (h : RefAt r tb sl B m w) {i a : Nat} (ha : a < 9) (v : Value) (t : Thr)
    (ht : ∀ cs : Array Value, cs.size = m.nth * 9 → ThAt cs i (m.ths i) → ThAt (cs.setIfInBounds (i * 9 + a) v) i t) :
    RefAt r tb sl B { m with ths := put m.ths i t } (w.setCell ⟨tb, i * 9 + a, none⟩ v) := by
  obtain ⟨cs, a1, a2⟩ := h.own
  obtain ⟨ct, b1, b2, b3⟩ := h.ths
  have hrow := h.row
  refine ⟨h.nth, ⟨cs, block_set_ne a1 h.rne _ _, ⟨a2.size, a2.c0, a2.rd, a2.am, a2.hd, a2.dt, a2.mis, a2.hol, a2.cl, a2.th⟩⟩, ⟨_, block_set_same b1 _ _, by simpa using b2, fun j hj => ?_⟩, ⟨hrow.1, ?_⟩⟩
  · show ThAt _ j (put m.ths i t j)
    by_cases hji : j = i
    · subst hji
      rw [put_same]
      exact ht ct b2 (b3 j hj)
    · rw [put_other _ _ hji]
      exact (b3 j hj).other hji ha _
  · rcases hrow.2 with h' | ⟨g, cap, cur, e1, e2, e3, e4⟩
    · exact .inl h'
    · exact .inr ⟨g, cap, cur, e1, e2, block_set_ne e3 (h.own_ne (by rw [e1]; rfl)).2 _ _, e4⟩
/-- A thread's At. -/
theorem RefAt.putAt {r tb : Nat} {sl : Value} {B : Nat} {m : M} {w : World} (h : RefAt r tb sl B m w) {i : Nat} (hi : i < m.nth) (x : Int) :
    RefAt r tb sl B { m with ths := put m.ths i { m.ths i with at_ := x } } (w.setCell ⟨tb, i * 9 + 4, none⟩ (.int .i64 x)) := by
  refine h.thread (by omega) _ _ fun cs hs t => ?_
  refine ⟨?_, ?_, ?_, ?_, ?_, ?_, ?_, ?_, ?_⟩
  · rw [Array.getElem?_setIfInBounds_ne (by omega)]; exact t.c0
  · rw [Array.getElem?_setIfInBounds_ne (by omega)]; exact t.c1
  · rw [Array.getElem?_setIfInBounds_ne (by omega)]; exact t.c2
  · rw [Array.getElem?_setIfInBounds_ne (by omega)]; exact t.c3
  · rw [Array.getElem?_setIfInBounds_self_of_lt (by omega)]
  · rw [Array.getElem?_setIfInBounds_ne (by omega)]; exact t.c5
  · rw [Array.getElem?_setIfInBounds_ne (by omega)]; exact t.c6
  · rw [Array.getElem?_setIfInBounds_ne (by omega)]; exact t.c7
  · rw [Array.getElem?_setIfInBounds_ne (by omega)]; exact t.c8
/-- A thread's E. -/
theorem RefAt.putE {r tb : Nat} {sl : Value} {B : Nat} {m : M} {w : World} (h : RefAt r tb sl B m w) {i : Nat} (hi : i < m.nth) (x : Int) :
    RefAt r tb sl B { m with ths := put m.ths i { m.ths i with e := x } } (w.setCell ⟨tb, i * 9 + 5, none⟩ (.int .i64 x)) := by
  refine h.thread (by omega) _ _ fun cs hs t => ?_
  refine ⟨?_, ?_, ?_, ?_, ?_, ?_, ?_, ?_, ?_⟩
  · rw [Array.getElem?_setIfInBounds_ne (by omega)]; exact t.c0
  · rw [Array.getElem?_setIfInBounds_ne (by omega)]; exact t.c1
  · rw [Array.getElem?_setIfInBounds_ne (by omega)]; exact t.c2
  · rw [Array.getElem?_setIfInBounds_ne (by omega)]; exact t.c3
  · rw [Array.getElem?_setIfInBounds_ne (by omega)]; exact t.c4
  · rw [Array.getElem?_setIfInBounds_self_of_lt (by omega)]
  · rw [Array.getElem?_setIfInBounds_ne (by omega)]; exact t.c6
  · rw [Array.getElem?_setIfInBounds_ne (by omega)]; exact t.c7
  · rw [Array.getElem?_setIfInBounds_ne (by omega)]; exact t.c8
/-- A thread's Seen's state. -/
theorem RefAt.putSst {r tb : Nat} {sl : Value} {B : Nat} {m : M} {w : World} (h : RefAt r tb sl B m w) {i : Nat} (hi : i < m.nth) (x : Int) :
    RefAt r tb sl B { m with ths := put m.ths i { m.ths i with sst := x } } (w.setCell ⟨tb, i * 9 + 6, none⟩ (.int .i64 x)) := by
  refine h.thread (by omega) _ _ fun cs hs t => ?_
  refine ⟨?_, ?_, ?_, ?_, ?_, ?_, ?_, ?_, ?_⟩
  · rw [Array.getElem?_setIfInBounds_ne (by omega)]; exact t.c0
  · rw [Array.getElem?_setIfInBounds_ne (by omega)]; exact t.c1
  · rw [Array.getElem?_setIfInBounds_ne (by omega)]; exact t.c2
  · rw [Array.getElem?_setIfInBounds_ne (by omega)]; exact t.c3
  · rw [Array.getElem?_setIfInBounds_ne (by omega)]; exact t.c4
  · rw [Array.getElem?_setIfInBounds_ne (by omega)]; exact t.c5
  · rw [Array.getElem?_setIfInBounds_self_of_lt (by omega)]
  · rw [Array.getElem?_setIfInBounds_ne (by omega)]; exact t.c7
  · rw [Array.getElem?_setIfInBounds_ne (by omega)]; exact t.c8
/-- A thread's Seen's value. -/
theorem RefAt.putSv {r tb : Nat} {sl : Value} {B : Nat} {m : M} {w : World} (h : RefAt r tb sl B m w) {i : Nat} (hi : i < m.nth) (x : Int) :
    RefAt r tb sl B { m with ths := put m.ths i { m.ths i with sv := x } } (w.setCell ⟨tb, i * 9 + 7, none⟩ (.int .i64 x)) := by
  refine h.thread (by omega) _ _ fun cs hs t => ?_
  refine ⟨?_, ?_, ?_, ?_, ?_, ?_, ?_, ?_, ?_⟩
  · rw [Array.getElem?_setIfInBounds_ne (by omega)]; exact t.c0
  · rw [Array.getElem?_setIfInBounds_ne (by omega)]; exact t.c1
  · rw [Array.getElem?_setIfInBounds_ne (by omega)]; exact t.c2
  · rw [Array.getElem?_setIfInBounds_ne (by omega)]; exact t.c3
  · rw [Array.getElem?_setIfInBounds_ne (by omega)]; exact t.c4
  · rw [Array.getElem?_setIfInBounds_ne (by omega)]; exact t.c5
  · rw [Array.getElem?_setIfInBounds_ne (by omega)]; exact t.c6
  · rw [Array.getElem?_setIfInBounds_self_of_lt (by omega)]
  · rw [Array.getElem?_setIfInBounds_ne (by omega)]; exact t.c8
/-- A thread's Next. -/
theorem RefAt.putNext {r tb : Nat} {sl : Value} {B : Nat} {m : M} {w : World} (h : RefAt r tb sl B m w) {i : Nat} (hi : i < m.nth) (x : Int) :
    RefAt r tb sl B { m with ths := put m.ths i { m.ths i with next := x } } (w.setCell ⟨tb, i * 9 + 8, none⟩ (.int .i64 x)) := by
  refine h.thread (by omega) _ _ fun cs hs t => ?_
  refine ⟨?_, ?_, ?_, ?_, ?_, ?_, ?_, ?_, ?_⟩
  · rw [Array.getElem?_setIfInBounds_ne (by omega)]; exact t.c0
  · rw [Array.getElem?_setIfInBounds_ne (by omega)]; exact t.c1
  · rw [Array.getElem?_setIfInBounds_ne (by omega)]; exact t.c2
  · rw [Array.getElem?_setIfInBounds_ne (by omega)]; exact t.c3
  · rw [Array.getElem?_setIfInBounds_ne (by omega)]; exact t.c4
  · rw [Array.getElem?_setIfInBounds_ne (by omega)]; exact t.c5
  · rw [Array.getElem?_setIfInBounds_ne (by omega)]; exact t.c6
  · rw [Array.getElem?_setIfInBounds_ne (by omega)]; exact t.c7
  · rw [Array.getElem?_setIfInBounds_self_of_lt (by omega)]
/-- One cell of the map, and the map that lies there now. -/
theorem RefAt.map {r tb : Nat} {sl : Value} {B : Nat} {m : M} {w : World} (h : RefAt r tb sl B m w) {a : Nat} (v : Value) (m' : M) (e1 : m'.nth = m.nth) (e2 : m'.nc = m.nc) (e3 : m'.cells = m.cells) (e4 : m'.ths = m.ths)
    (hm : ∀ cs : Array Value, MapCells cs tb sl m → MapCells (cs.setIfInBounds a v) tb sl m') : RefAt r tb sl B m' (w.setCell ⟨r, a, none⟩ v) := by
  obtain ⟨cs, a1, a2⟩ := h.own
  obtain ⟨ct, b1, b2, b3⟩ := h.ths
  have hrow := h.row
  refine ⟨by rw [e1]; exact h.nth, ⟨_, block_set_same a1 _ _, hm cs a2⟩, ⟨ct, block_set_ne b1 (Ne.symm h.rne) _ _, by rw [e1]; exact b2, by rw [e1, e4]; exact b3⟩, ?_⟩
  rw [e2, e3]
  refine ⟨hrow.1, ?_⟩
  rcases hrow.2 with h' | ⟨g, cap, cur, f1, f2, f3, f4⟩
  · exact .inl h'
  · exact .inr ⟨g, cap, cur, f1, f2, block_set_ne f3 (h.own_ne (by rw [f1]; rfl)).1 _ _, f4⟩
/-- Amended. -/
theorem RefAt.setAm {r tb : Nat} {sl : Value} {B : Nat} {m : M} {w : World} (h : RefAt r tb sl B m w) (x : Bool) : RefAt r tb sl B { m with am := x } (w.setCell ⟨r, 9, none⟩ (.bool x)) := by
  refine h.map _ _ rfl rfl rfl rfl fun cs c => ?_
  have hs := c.size
  refine ⟨?_, ?_, ?_, ?_, ?_, ?_, ?_, ?_, ?_, ?_⟩
  · simpa using hs
  · rw [Array.getElem?_setIfInBounds_ne (by omega)]; exact c.c0
  · intro k hk; rw [Array.getElem?_setIfInBounds_ne (by omega)]; exact c.rd k hk
  · rw [Array.getElem?_setIfInBounds_self_of_lt (by omega)]
  · rw [Array.getElem?_setIfInBounds_ne (by omega)]; exact c.hd
  · intro k hk; rw [Array.getElem?_setIfInBounds_ne (by omega)]; exact c.dt k hk
  · rw [Array.getElem?_setIfInBounds_ne (by omega)]; exact c.mis
  · rw [Array.getElem?_setIfInBounds_ne (by omega)]; exact c.hol
  · rw [Array.getElem?_setIfInBounds_ne (by omega)]; exact c.cl
  · rw [Array.getElem?_setIfInBounds_ne (by omega)]; exact c.th
/-- HasDirty. -/
theorem RefAt.setHd {r tb : Nat} {sl : Value} {B : Nat} {m : M} {w : World} (h : RefAt r tb sl B m w) (x : Bool) : RefAt r tb sl B { m with hd := x } (w.setCell ⟨r, 10, none⟩ (.bool x)) := by
  refine h.map _ _ rfl rfl rfl rfl fun cs c => ?_
  have hs := c.size
  refine ⟨?_, ?_, ?_, ?_, ?_, ?_, ?_, ?_, ?_, ?_⟩
  · simpa using hs
  · rw [Array.getElem?_setIfInBounds_ne (by omega)]; exact c.c0
  · intro k hk; rw [Array.getElem?_setIfInBounds_ne (by omega)]; exact c.rd k hk
  · rw [Array.getElem?_setIfInBounds_ne (by omega)]; exact c.am
  · rw [Array.getElem?_setIfInBounds_self_of_lt (by omega)]
  · intro k hk; rw [Array.getElem?_setIfInBounds_ne (by omega)]; exact c.dt k hk
  · rw [Array.getElem?_setIfInBounds_ne (by omega)]; exact c.mis
  · rw [Array.getElem?_setIfInBounds_ne (by omega)]; exact c.hol
  · rw [Array.getElem?_setIfInBounds_ne (by omega)]; exact c.cl
  · rw [Array.getElem?_setIfInBounds_ne (by omega)]; exact c.th
/-- Misses. -/
theorem RefAt.setMis {r tb : Nat} {sl : Value} {B : Nat} {m : M} {w : World} (h : RefAt r tb sl B m w) (x : Int) : RefAt r tb sl B { m with mis := x } (w.setCell ⟨r, 19, none⟩ (.int .i64 x)) := by
  refine h.map _ _ rfl rfl rfl rfl fun cs c => ?_
  have hs := c.size
  refine ⟨?_, ?_, ?_, ?_, ?_, ?_, ?_, ?_, ?_, ?_⟩
  · simpa using hs
  · rw [Array.getElem?_setIfInBounds_ne (by omega)]; exact c.c0
  · intro k hk; rw [Array.getElem?_setIfInBounds_ne (by omega)]; exact c.rd k hk
  · rw [Array.getElem?_setIfInBounds_ne (by omega)]; exact c.am
  · rw [Array.getElem?_setIfInBounds_ne (by omega)]; exact c.hd
  · intro k hk; rw [Array.getElem?_setIfInBounds_ne (by omega)]; exact c.dt k hk
  · rw [Array.getElem?_setIfInBounds_self_of_lt (by omega)]
  · rw [Array.getElem?_setIfInBounds_ne (by omega)]; exact c.hol
  · rw [Array.getElem?_setIfInBounds_ne (by omega)]; exact c.cl
  · rw [Array.getElem?_setIfInBounds_ne (by omega)]; exact c.th
/-- Holder. -/
theorem RefAt.setHol {r tb : Nat} {sl : Value} {B : Nat} {m : M} {w : World} (h : RefAt r tb sl B m w) (x : Int) : RefAt r tb sl B { m with hol := x } (w.setCell ⟨r, 20, none⟩ (.int .i64 x)) := by
  refine h.map _ _ rfl rfl rfl rfl fun cs c => ?_
  have hs := c.size
  refine ⟨?_, ?_, ?_, ?_, ?_, ?_, ?_, ?_, ?_, ?_⟩
  · simpa using hs
  · rw [Array.getElem?_setIfInBounds_ne (by omega)]; exact c.c0
  · intro k hk; rw [Array.getElem?_setIfInBounds_ne (by omega)]; exact c.rd k hk
  · rw [Array.getElem?_setIfInBounds_ne (by omega)]; exact c.am
  · rw [Array.getElem?_setIfInBounds_ne (by omega)]; exact c.hd
  · intro k hk; rw [Array.getElem?_setIfInBounds_ne (by omega)]; exact c.dt k hk
  · rw [Array.getElem?_setIfInBounds_ne (by omega)]; exact c.mis
  · rw [Array.getElem?_setIfInBounds_self_of_lt (by omega)]
  · rw [Array.getElem?_setIfInBounds_ne (by omega)]; exact c.cl
  · rw [Array.getElem?_setIfInBounds_ne (by omega)]; exact c.th
/-- Closed. -/
theorem RefAt.setCl {r tb : Nat} {sl : Value} {B : Nat} {m : M} {w : World} (h : RefAt r tb sl B m w) (x : Bool) : RefAt r tb sl B { m with cl := x } (w.setCell ⟨r, 21, none⟩ (.bool x)) := by
  refine h.map _ _ rfl rfl rfl rfl fun cs c => ?_
  have hs := c.size
  refine ⟨?_, ?_, ?_, ?_, ?_, ?_, ?_, ?_, ?_, ?_⟩
  · simpa using hs
  · rw [Array.getElem?_setIfInBounds_ne (by omega)]; exact c.c0
  · intro k hk; rw [Array.getElem?_setIfInBounds_ne (by omega)]; exact c.rd k hk
  · rw [Array.getElem?_setIfInBounds_ne (by omega)]; exact c.am
  · rw [Array.getElem?_setIfInBounds_ne (by omega)]; exact c.hd
  · intro k hk; rw [Array.getElem?_setIfInBounds_ne (by omega)]; exact c.dt k hk
  · rw [Array.getElem?_setIfInBounds_ne (by omega)]; exact c.mis
  · rw [Array.getElem?_setIfInBounds_ne (by omega)]; exact c.hol
  · rw [Array.getElem?_setIfInBounds_self_of_lt (by omega)]
  · rw [Array.getElem?_setIfInBounds_ne (by omega)]; exact c.th
/-- One place of Dirty. -/
theorem RefAt.setDirty {r tb : Nat} {sl : Value} {B : Nat} {m : M} {w : World} (h : RefAt r tb sl B m w) {k : Nat} (hk : k < 8) (x : Int) : RefAt r tb sl B { m with dirty := put m.dirty k x } (w.setCell ⟨r, 11 + k, none⟩ (.int .i64 x)) := by
  refine h.map _ _ rfl rfl rfl rfl fun cs c => ?_
  have hs := c.size
  refine ⟨?_, ?_, ?_, ?_, ?_, ?_, ?_, ?_, ?_, ?_⟩
  · simpa using hs
  · rw [Array.getElem?_setIfInBounds_ne (by omega)]; exact c.c0
  · intro j hj; rw [Array.getElem?_setIfInBounds_ne (by omega)]; exact c.rd j hj
  · rw [Array.getElem?_setIfInBounds_ne (by omega)]; exact c.am
  · rw [Array.getElem?_setIfInBounds_ne (by omega)]; exact c.hd
  · intro j hj
    show _ = some (Value.int .i64 (put m.dirty k x j))
    by_cases hjk : j = k
    · subst hjk
      rw [put_same, Array.getElem?_setIfInBounds_self_of_lt (by omega)]
    · rw [put_other _ _ hjk, Array.getElem?_setIfInBounds_ne (by omega)]; exact c.dt j hj
  · rw [Array.getElem?_setIfInBounds_ne (by omega)]; exact c.mis
  · rw [Array.getElem?_setIfInBounds_ne (by omega)]; exact c.hol
  · rw [Array.getElem?_setIfInBounds_ne (by omega)]; exact c.cl
  · rw [Array.getElem?_setIfInBounds_ne (by omega)]; exact c.th
/-- One place of Read. -/
theorem RefAt.setRead {r tb : Nat} {sl : Value} {B : Nat} {m : M} {w : World} (h : RefAt r tb sl B m w) {k : Nat} (hk : k < 8) (x : Int) : RefAt r tb sl B { m with read := put m.read k x } (w.setCell ⟨r, 1 + k, none⟩ (.int .i64 x)) := by
  refine h.map _ _ rfl rfl rfl rfl fun cs c => ?_
  have hs := c.size
  refine ⟨?_, ?_, ?_, ?_, ?_, ?_, ?_, ?_, ?_, ?_⟩
  · simpa using hs
  · rw [Array.getElem?_setIfInBounds_ne (by omega)]; exact c.c0
  · intro j hj
    show _ = some (Value.int .i64 (put m.read k x j))
    by_cases hjk : j = k
    · subst hjk
      rw [put_same, Array.getElem?_setIfInBounds_self_of_lt (by omega)]
    · rw [put_other _ _ hjk, Array.getElem?_setIfInBounds_ne (by omega)]; exact c.rd j hj
  · rw [Array.getElem?_setIfInBounds_ne (by omega)]; exact c.am
  · rw [Array.getElem?_setIfInBounds_ne (by omega)]; exact c.hd
  · intro j hj; rw [Array.getElem?_setIfInBounds_ne (by omega)]; exact c.dt j hj
  · rw [Array.getElem?_setIfInBounds_ne (by omega)]; exact c.mis
  · rw [Array.getElem?_setIfInBounds_ne (by omega)]; exact c.hol
  · rw [Array.getElem?_setIfInBounds_ne (by omega)]; exact c.cl
  · rw [Array.getElem?_setIfInBounds_ne (by omega)]; exact c.th
end Go.Proofs.YtmnkphenobfbfaaGreat
namespace Go.Proofs.YtmnkphenobfbfaaGreat
open Go.RowKit
theorem RefAt.thCell {r tb : Nat} {sl : Value} {B : Nat} {m : M} {w : World} (h : RefAt r tb sl B m w) {i : Nat} (hi : i < m.nth) : tb < w.heap.size ∧ (∀ o, w.frozen? ⟨tb, o, none⟩ = false) ∧
    w.cell? ⟨tb, i * 9, none⟩ = some (.int .i64 (m.ths i).kind) ∧ w.cell? ⟨tb, i * 9 + 1, none⟩ = some (.int .i64 (m.ths i).key) ∧ w.cell? ⟨tb, i * 9 + 2, none⟩ = some (.int .i64 (m.ths i).val) ∧ w.cell? ⟨tb, i * 9 + 3, none⟩ = some (.int .i64 (m.ths i).old) ∧
    w.cell? ⟨tb, i * 9 + 4, none⟩ = some (.int .i64 (m.ths i).at_) ∧ w.cell? ⟨tb, i * 9 + 5, none⟩ = some (.int .i64 (m.ths i).e) ∧ w.cell? ⟨tb, i * 9 + 6, none⟩ = some (.int .i64 (m.ths i).sst) ∧ w.cell? ⟨tb, i * 9 + 7, none⟩ = some (.int .i64 (m.ths i).sv) ∧
    w.cell? ⟨tb, i * 9 + 8, none⟩ = some (.int .i64 (m.ths i).next) := by
  obtain ⟨ct, b1, b2, b3⟩ := h.ths
  have t := b3 i hi
  exact ⟨lt_of_block b1, frozen_of b1, by rw [cell_of b1]; exact t.c0, by rw [cell_of b1]; exact t.c1, by rw [cell_of b1]; exact t.c2, by rw [cell_of b1]; exact t.c3, by rw [cell_of b1]; exact t.c4, by rw [cell_of b1]; exact t.c5, by rw [cell_of b1]; exact t.c6, by rw [cell_of b1]; exact t.c7, by rw [cell_of b1]; exact t.c8⟩
theorem RefAt.mapCell {r tb : Nat} {sl : Value} {B : Nat} {m : M} {w : World} (h : RefAt r tb sl B m w) : r < w.heap.size ∧ (∀ o, w.frozen? ⟨r, o, none⟩ = false) ∧
    w.cell? ⟨r, 0, none⟩ = some sl ∧ (∀ k, k < 8 → w.cell? ⟨r, 1 + k, none⟩ = some (.int .i64 (m.read k))) ∧ w.cell? ⟨r, 9, none⟩ = some (.bool m.am) ∧ w.cell? ⟨r, 10, none⟩ = some (.bool m.hd) ∧
    (∀ k, k < 8 → w.cell? ⟨r, 11 + k, none⟩ = some (.int .i64 (m.dirty k))) ∧ w.cell? ⟨r, 19, none⟩ = some (.int .i64 m.mis) ∧ w.cell? ⟨r, 20, none⟩ = some (.int .i64 m.hol) ∧ w.cell? ⟨r, 21, none⟩ = some (.bool m.cl) ∧
    w.cell? ⟨r, 22, none⟩ = some (.slice (some ⟨tb, 0, none⟩) m.nth m.nth) := by
  obtain ⟨cs, b1, t⟩ := h.own
  exact ⟨lt_of_block b1, frozen_of b1, by rw [cell_of b1]; exact t.c0, fun k hk => by rw [cell_of b1]; exact t.rd k hk, by rw [cell_of b1]; exact t.am, by rw [cell_of b1]; exact t.hd, fun k hk => by rw [cell_of b1]; exact t.dt k hk, by rw [cell_of b1]; exact t.mis, by rw [cell_of b1]; exact t.hol, by rw [cell_of b1]; exact t.cl, by rw [cell_of b1]; exact t.th⟩
theorem RefAt.alloc {r tb : Nat} {sl : Value} {B : Nat} {m : M} {w : World} (h : RefAt r tb sl B m w) (o : Obj) : RefAt r tb sl B m (w.alloc o) := h.keptNil ((Kept.refl [] w).alloc o)
theorem RefAt.drew {r tb : Nat} {sl : Value} {B : Nat} {m : M} {w : World} (h : RefAt r tb sl B m w) : RefAt r tb sl B m w.drew := h.keptNil (Kept.refl [] w).drew
def res (d f : Bool) (v : Int) : Value := .agg #[.bool d, .bool f, .int .i64 v]
set_option maxRecDepth 100000 in
set_option maxHeartbeats 800000 in
theorem m_ends {r tb : Nat} {sl : Value} {B : Nat} {m : M} {w : World} (h : RefAt r tb sl B m w) {i : Nat} (hi : i < m.nth) (f : Bool) (v : Int) :
    Calls Tryz.prog 57 #[.pointer (some ⟨tb, i * 9, none⟩), .bool f, .int .i64 v] w fun e w' => e = .returned (res true f v) ∧ RefAt r tb sl B (m.thr i { m.ths i with at_ := 0 }) w' ∧ Kept [tb] w w' := by
  obtain ⟨hs, hf, -, -, -, -, c4, -⟩ := h.thCell hi
  have H : Hid _ := h
  clear h
  go_enter Tryz.func57, Tryz.ntmps57
  go_wp2
  refine bodyPost_ret (v := res true f v) (by simp [results, Tryz.results57, go_sem, res]) rfl ⟨rfl, ?_, ?_⟩
  · exact (H.out.putAt hi 0).alloc _
  · exact ((Kept.refl _ w).setCell (.inl (by simp)) _).alloc _
set_option maxRecDepth 100000 in
set_option maxHeartbeats 800000 in
theorem m_goes {r tb : Nat} {sl : Value} {B : Nat} {m : M} {w : World} (h : RefAt r tb sl B m w) {i : Nat} (hi : i < m.nth) (a : Int) :
    Calls Tryz.prog 54 #[.pointer (some ⟨tb, i * 9, none⟩), .int .i64 a] w fun e w' => e = .returned (res false false 0) ∧ RefAt r tb sl B (m.thr i { m.ths i with at_ := a }) w' ∧ Kept [tb] w w' := by
  obtain ⟨hs, hf, -, -, -, -, c4, -⟩ := h.thCell hi
  have H : Hid _ := h
  clear h
  go_enter Tryz.func54, Tryz.ntmps54
  go_wp2
  refine bodyPost_ret (v := res false false 0) (by simp [results, Tryz.results54, go_sem, res]) rfl ⟨rfl, ?_, ?_⟩
  · exact (H.out.putAt hi a).alloc _
  · exact ((Kept.refl _ w).setCell (.inl (by simp)) _).alloc _
end Go.Proofs.YtmnkphenobfbfaaGreat
namespace Go.Proofs.YtmnkphenobfbfaaGreat
open Go.RowKit
/-- A step's answer lies in a new block, and is read there. -/
theorem RefAt.resSet {r tb : Nat} {sl : Value} {B : Nat} {m : M} {w : World} {g : Nat} {cs : Array Value} (h : RefAt r tb sl B m w) (hg : w.heap[g]? = some (.cells cs 52 (0, 0))) (o : Nat) (v : Value) :
    RefAt r tb sl B m (w.setCell ⟨g, o, none⟩ v) := by
  refine h.kept (F := [g]) ((Kept.refl _ w).setCell (.inl (by simp)) _) ?_ ?_ ?_
  · obtain ⟨c, b1, _⟩ := h.own
    simpa using ne_of_blocks b1 hg (by simp)
  · obtain ⟨c, b1, _⟩ := h.ths
    simpa using ne_of_blocks b1 hg (by simp)
  · intro g' hg'
    rcases h.row.2 with ⟨rfl, _⟩ | ⟨g2, cap, cur, rfl, _, e3, _⟩
    · simp [Value.ownBlock] at hg'
    · simp only [Value.ownBlock, Option.some.injEq] at hg'
      subst hg'
      simpa using ne_of_blocks e3 hg (by simp)
/-- Where the call's answer is laid. -/
theorem resLaid {w : World} {g : Nat} (hg : w.heap[g]? = some (.cells #[.bool false, .bool false, .int .i64 0] 52 (0, 0))) (d f : Bool) (v : Int) :
    (((w.setCell ⟨g, 0, none⟩ (.bool d)).setCell ⟨g, 1, none⟩ (.bool f)).setCell ⟨g, 2, none⟩ (.int .i64 v)).heap[g]? = some (.cells #[.bool d, .bool f, .int .i64 v] 52 (0, 0)) :=
  block_set_same (block_set_same (block_set_same hg 0 (.bool d)) 1 (.bool f)) 2 (.int .i64 v)
theorem RefAt.resLaid {r tb : Nat} {sl : Value} {B : Nat} {m : M} {w : World} {g : Nat} (h : RefAt r tb sl B m w) (hg : w.heap[g]? = some (.cells #[.bool false, .bool false, .int .i64 0] 52 (0, 0))) (d f : Bool) (v : Int) :
    RefAt r tb sl B m (((w.setCell ⟨g, 0, none⟩ (.bool d)).setCell ⟨g, 1, none⟩ (.bool f)).setCell ⟨g, 2, none⟩ (.int .i64 v)) :=
  ((h.resSet hg _ _).resSet (block_set_same hg _ _) _ _).resSet (block_set_same (block_set_same hg _ _) _ _) _ _
theorem size_set (w : World) (a : Addr) (v : Value) : (w.setCell a v).heap.size = w.heap.size := by simp [World.setCell]
/-- The new block of an answer, behind a draw. -/
theorem newRes {w w1 : World} (h : w1.heap.size = w.heap.size) : (w1.alloc (.cells #[.bool false, .bool false, .int .i64 0] 52)).drew.heap[w.heap.size]? = some (.cells #[.bool false, .bool false, .int .i64 0] 52 (0, 0)) := by
  have := block_alloc_new w1 (.cells #[.bool false, .bool false, .int .i64 0] 52)
  rw [h] at this
  exact this
theorem newRes0 {w w1 : World} (h : w1.heap.size = w.heap.size) : (w1.alloc (.cells #[.bool false, .bool false, .int .i64 0] 52)).heap[w.heap.size]? = some (.cells #[.bool false, .bool false, .int .i64 0] 52 (0, 0)) := by
  have := block_alloc_new w1 (.cells #[.bool false, .bool false, .int .i64 0] 52)
  rw [h] at this
  exact this
set_option maxRecDepth 100000 in
set_option maxHeartbeats 800000 in
theorem m_first_in {r tb : Nat} {sl : Value} {B : Nat} {m : M} {w : World} (h : RefAt r tb sl B m w) {i : Nat} (hi : i < m.nth) {k : Int} (hk0 : 0 ≤ k) (hk7 : k < 8) (hkey : (m.ths i).key = k) (entry : Int) (he : 0 ≤ m.read k.toNat) :
    Calls Tryz.prog 52 #[.pointer (some ⟨r, 0, none⟩), .pointer (some ⟨tb, i * 9, none⟩), .int .i64 entry] w fun e w' => e = .returned (res false false 0) ∧ RefAt r tb sl B (m.thr i { m.ths i with e := m.read k.toNat, at_ := entry }) w' ∧ Kept [tb] w w' := by
  obtain ⟨hs, hf, -, c1, -, -, -, c5, -⟩ := h.thCell hi
  obtain ⟨hsr, -, -, crd, c9, -⟩ := h.mapCell
  have ck := crd k.toNat (by omega)
  rw [hkey] at c1
  have hne := h.rne
  have H : Hid _ := h
  clear h crd hkey
  generalize hx : m.read k.toNat = x at *
  go_enter Tryz.func52, Tryz.ntmps52
  go_wp2
  go_region
  go_wp2_with fail
  have h1 := ((H.out.putE hi x).alloc (.cells #[.bool false, .bool false, .int .i64 0] 52)).drew
  have g1 := newRes (w := w) (size_set w ⟨tb, i * 9 + 5, none⟩ (.int .i64 x))
  have k1 := (((Kept.refl [tb] w).setCell (p := ⟨tb, i * 9 + 5, none⟩) (.inl (by simp)) (.int .i64 x)).alloc (.cells #[.bool false, .bool false, .int .i64 0] 52)).drew
  refine (m_goes h1 hi entry).mono ?_
  rintro e w2 ⟨rfl, h2, k2⟩
  have r2 := k2.at g1 (by simp; omega)
  have hc2 : ∀ o, w2.cell? ⟨w.heap.size, o, none⟩ = #[.bool false, .bool false, .int .i64 0][o]? := cell_of r2
  have hf2 : ∀ o, w2.frozen? ⟨w.heap.size, o, none⟩ = false := frozen_of r2
  have K1 : Hid _ := k1.trans (k2.mono (by simp))
  have H2 : Hid _ := h2
  clear h1 k1 g1 k2 h2
  simp only [res]
  go_wp2
  refine bodyPost_ret (v := res false false 0) (by simp [results, Tryz.results52, go_sem, res, cell_of (resLaid r2 false false 0)]) rfl ⟨rfl, ?_, ?_⟩
  · have h3 := H2.out.resLaid r2 false false 0
    rw [show ∀ (m : M) (i : Nat) (t : Thr), ({ m with ths := put m.ths i t } : M) = m.thr i t from fun _ _ _ => rfl, thr_thr] at h3
    simp only [put_same] at h3
    exact h3
  · exact ((K1.out.setCell (.inr (by simp)) _).setCell (.inr (by simp)) _).setCell (.inr (by simp)) _
set_option maxRecDepth 100000 in
set_option maxHeartbeats 800000 in
theorem m_first_end {r tb : Nat} {sl : Value} {B : Nat} {m : M} {w : World} (h : RefAt r tb sl B m w) {i : Nat} (hi : i < m.nth) {k : Int} (hk0 : 0 ≤ k) (hk7 : k < 8) (hkey : (m.ths i).key = k) (entry : Int) (he : m.read k.toNat < 0) (ha : m.am = false) :
    Calls Tryz.prog 52 #[.pointer (some ⟨r, 0, none⟩), .pointer (some ⟨tb, i * 9, none⟩), .int .i64 entry] w fun e w' => e = .returned (res true false 0) ∧ RefAt r tb sl B (m.thr i { m.ths i with e := m.read k.toNat, at_ := 0 }) w' ∧ Kept [tb] w w' := by
  obtain ⟨hs, hf, -, c1, -, -, -, c5, -⟩ := h.thCell hi
  obtain ⟨hsr, -, -, crd, c9, -⟩ := h.mapCell
  have ck := crd k.toNat (by omega)
  rw [hkey] at c1
  have hne := h.rne
  have H : Hid _ := h
  clear h crd hkey
  generalize hx : m.read k.toNat = x at *
  rw [ha] at c9
  go_enter Tryz.func52, Tryz.ntmps52
  go_wp2
  go_region
  go_wp2_with fail
  have h1 := ((H.out.putE hi x).alloc (.cells #[.bool false, .bool false, .int .i64 0] 52)).drew
  have g1 := newRes (w := w) (size_set w ⟨tb, i * 9 + 5, none⟩ (.int .i64 x))
  have k1 := (((Kept.refl [tb] w).setCell (p := ⟨tb, i * 9 + 5, none⟩) (.inl (by simp)) (.int .i64 x)).alloc (.cells #[.bool false, .bool false, .int .i64 0] 52)).drew
  refine (m_ends h1 hi false 0).mono ?_
  rintro e w2 ⟨rfl, h2, k2⟩
  have r2 := k2.at g1 (by simp; omega)
  have hc2 : ∀ o, w2.cell? ⟨w.heap.size, o, none⟩ = #[.bool false, .bool false, .int .i64 0][o]? := cell_of r2
  have hf2 : ∀ o, w2.frozen? ⟨w.heap.size, o, none⟩ = false := frozen_of r2
  have K1 : Hid _ := k1.trans (k2.mono (by simp))
  have H2 : Hid _ := h2
  clear h1 k1 g1 k2 h2
  simp only [res]
  go_wp2
  refine bodyPost_ret (v := res true false 0) (by simp [results, Tryz.results52, go_sem, res, cell_of (resLaid r2 true false 0)]) rfl ⟨rfl, ?_, ?_⟩
  · have h3 := H2.out.resLaid r2 true false 0
    rw [show ∀ (m : M) (i : Nat) (t : Thr), ({ m with ths := put m.ths i t } : M) = m.thr i t from fun _ _ _ => rfl, thr_thr] at h3
    simp only [put_same] at h3
    exact h3
  · exact ((K1.out.setCell (.inr (by simp)) _).setCell (.inr (by simp)) _).setCell (.inr (by simp)) _
set_option maxRecDepth 100000 in
set_option maxHeartbeats 800000 in
theorem m_first_on {r tb : Nat} {sl : Value} {B : Nat} {m : M} {w : World} (h : RefAt r tb sl B m w) {i : Nat} (hi : i < m.nth) {k : Int} (hk0 : 0 ≤ k) (hk7 : k < 8) (hkey : (m.ths i).key = k) (entry : Int) (he : m.read k.toNat < 0) (ha : m.am = true) :
    Calls Tryz.prog 52 #[.pointer (some ⟨r, 0, none⟩), .pointer (some ⟨tb, i * 9, none⟩), .int .i64 entry] w fun e w' => e = .returned (res false false 0) ∧ RefAt r tb sl B (m.thr i { m.ths i with e := m.read k.toNat, at_ := 2 }) w' ∧ Kept [tb] w w' := by
  obtain ⟨hs, hf, -, c1, -, -, -, c5, -⟩ := h.thCell hi
  obtain ⟨hsr, -, -, crd, c9, -⟩ := h.mapCell
  have ck := crd k.toNat (by omega)
  rw [hkey] at c1
  have hne := h.rne
  have H : Hid _ := h
  clear h crd hkey
  generalize hx : m.read k.toNat = x at *
  rw [ha] at c9
  go_enter Tryz.func52, Tryz.ntmps52
  go_wp2
  go_region
  go_wp2_with fail
  have h1 := ((H.out.putE hi x).alloc (.cells #[.bool false, .bool false, .int .i64 0] 52)).drew
  have g1 := newRes (w := w) (size_set w ⟨tb, i * 9 + 5, none⟩ (.int .i64 x))
  have k1 := (((Kept.refl [tb] w).setCell (p := ⟨tb, i * 9 + 5, none⟩) (.inl (by simp)) (.int .i64 x)).alloc (.cells #[.bool false, .bool false, .int .i64 0] 52)).drew
  refine (m_goes h1 hi 2).mono ?_
  rintro e w2 ⟨rfl, h2, k2⟩
  have r2 := k2.at g1 (by simp; omega)
  have hc2 : ∀ o, w2.cell? ⟨w.heap.size, o, none⟩ = #[.bool false, .bool false, .int .i64 0][o]? := cell_of r2
  have hf2 : ∀ o, w2.frozen? ⟨w.heap.size, o, none⟩ = false := frozen_of r2
  have K1 : Hid _ := k1.trans (k2.mono (by simp))
  have H2 : Hid _ := h2
  clear h1 k1 g1 k2 h2
  simp only [res]
  go_wp2
  refine bodyPost_ret (v := res false false 0) (by simp [results, Tryz.results52, go_sem, res, cell_of (resLaid r2 false false 0)]) rfl ⟨rfl, ?_, ?_⟩
  · have h3 := H2.out.resLaid r2 false false 0
    rw [show ∀ (m : M) (i : Nat) (t : Thr), ({ m with ths := put m.ths i t } : M) = m.thr i t from fun _ _ _ => rfl, thr_thr] at h3
    simp only [put_same] at h3
    exact h3
  · exact ((K1.out.setCell (.inr (by simp)) _).setCell (.inr (by simp)) _).setCell (.inr (by simp)) _
end Go.Proofs.YtmnkphenobfbfaaGreat
namespace Go.Proofs.YtmnkphenobfbfaaGreat
open Go.RowKit
set_option maxRecDepth 100000 in
set_option maxHeartbeats 800000 in
theorem m_third_in {r tb : Nat} {sl : Value} {B : Nat} {m : M} {w : World} (h : RefAt r tb sl B m w) {i : Nat} (hi : i < m.nth) {k : Int} (hk0 : 0 ≤ k) (hk7 : k < 8) (hkey : (m.ths i).key = k) (free : Int) (he : 0 ≤ m.read k.toNat) :
    Calls Tryz.prog 53 #[.pointer (some ⟨r, 0, none⟩), .pointer (some ⟨tb, i * 9, none⟩), .int .i64 free] w fun e w' => e = .returned (res false false 0) ∧ RefAt r tb sl B (m.thr i { m.ths i with e := m.read k.toNat, at_ := free }) w' ∧ Kept [tb] w w' := by
  obtain ⟨hs, hf, -, c1, -, -, -, c5, -⟩ := h.thCell hi
  obtain ⟨hsr, -, -, crd, c9, -⟩ := h.mapCell
  have ck := crd k.toNat (by omega)
  rw [hkey] at c1
  have hne := h.rne
  have H : Hid _ := h
  clear h crd hkey
  generalize hx : m.read k.toNat = x at *
  go_enter Tryz.func53, Tryz.ntmps53
  go_wp2
  go_region
  go_wp2_with fail
  have h1 := ((H.out.putE hi x).alloc (.cells #[.bool false, .bool false, .int .i64 0] 52)).drew
  have g1 := newRes (w := w) (size_set w ⟨tb, i * 9 + 5, none⟩ (.int .i64 x))
  have k1 := (((Kept.refl [tb] w).setCell (p := ⟨tb, i * 9 + 5, none⟩) (.inl (by simp)) (.int .i64 x)).alloc (.cells #[.bool false, .bool false, .int .i64 0] 52)).drew
  refine (m_goes h1 hi free).mono ?_
  rintro e w2 ⟨rfl, h2, k2⟩
  have r2 := k2.at g1 (by simp; omega)
  have hc2 : ∀ o, w2.cell? ⟨w.heap.size, o, none⟩ = #[.bool false, .bool false, .int .i64 0][o]? := cell_of r2
  have hf2 : ∀ o, w2.frozen? ⟨w.heap.size, o, none⟩ = false := frozen_of r2
  have K1 : Hid _ := k1.trans (k2.mono (by simp))
  have H2 : Hid _ := h2
  clear h1 k1 g1 k2 h2
  simp only [res]
  go_wp2
  refine bodyPost_ret (v := res false false 0) (by simp [results, Tryz.results53, go_sem, res, cell_of (resLaid r2 false false 0)]) rfl ⟨rfl, ?_, ?_⟩
  · have h3 := H2.out.resLaid r2 false false 0
    rw [show ∀ (m : M) (i : Nat) (t : Thr), ({ m with ths := put m.ths i t } : M) = m.thr i t from fun _ _ _ => rfl, thr_thr] at h3
    simp only [put_same] at h3
    exact h3
  · exact ((K1.out.setCell (.inr (by simp)) _).setCell (.inr (by simp)) _).setCell (.inr (by simp)) _
set_option maxRecDepth 100000 in
set_option maxHeartbeats 800000 in
theorem m_third_out {r tb : Nat} {sl : Value} {B : Nat} {m : M} {w : World} (h : RefAt r tb sl B m w) {i : Nat} (hi : i < m.nth) {k : Int} (hk0 : 0 ≤ k) (hk7 : k < 8) (hkey : (m.ths i).key = k) (free : Int) (he : m.read k.toNat < 0) (ha : m.am = false) :
    Calls Tryz.prog 53 #[.pointer (some ⟨r, 0, none⟩), .pointer (some ⟨tb, i * 9, none⟩), .int .i64 free] w fun e w' => e = .returned (res false false 0) ∧ RefAt r tb sl B (m.thr i { m.ths i with e := m.read k.toNat, at_ := free }) w' ∧ Kept [tb] w w' := by
  obtain ⟨hs, hf, -, c1, -, -, -, c5, -⟩ := h.thCell hi
  obtain ⟨hsr, -, -, crd, c9, -⟩ := h.mapCell
  have ck := crd k.toNat (by omega)
  rw [hkey] at c1
  have hne := h.rne
  have H : Hid _ := h
  clear h crd hkey
  generalize hx : m.read k.toNat = x at *
  rw [ha] at c9
  go_enter Tryz.func53, Tryz.ntmps53
  go_wp2
  go_region
  go_wp2_with fail
  have h1 := ((H.out.putE hi x).alloc (.cells #[.bool false, .bool false, .int .i64 0] 52)).drew
  have g1 := newRes (w := w) (size_set w ⟨tb, i * 9 + 5, none⟩ (.int .i64 x))
  have k1 := (((Kept.refl [tb] w).setCell (p := ⟨tb, i * 9 + 5, none⟩) (.inl (by simp)) (.int .i64 x)).alloc (.cells #[.bool false, .bool false, .int .i64 0] 52)).drew
  refine (m_goes h1 hi free).mono ?_
  rintro e w2 ⟨rfl, h2, k2⟩
  have r2 := k2.at g1 (by simp; omega)
  have hc2 : ∀ o, w2.cell? ⟨w.heap.size, o, none⟩ = #[.bool false, .bool false, .int .i64 0][o]? := cell_of r2
  have hf2 : ∀ o, w2.frozen? ⟨w.heap.size, o, none⟩ = false := frozen_of r2
  have K1 : Hid _ := k1.trans (k2.mono (by simp))
  have H2 : Hid _ := h2
  clear h1 k1 g1 k2 h2
  simp only [res]
  go_wp2
  refine bodyPost_ret (v := res false false 0) (by simp [results, Tryz.results53, go_sem, res, cell_of (resLaid r2 false false 0)]) rfl ⟨rfl, ?_, ?_⟩
  · have h3 := H2.out.resLaid r2 false false 0
    rw [show ∀ (m : M) (i : Nat) (t : Thr), ({ m with ths := put m.ths i t } : M) = m.thr i t from fun _ _ _ => rfl, thr_thr] at h3
    simp only [put_same] at h3
    exact h3
  · exact ((K1.out.setCell (.inr (by simp)) _).setCell (.inr (by simp)) _).setCell (.inr (by simp)) _
set_option maxRecDepth 100000 in
set_option maxHeartbeats 800000 in
theorem m_third_on {r tb : Nat} {sl : Value} {B : Nat} {m : M} {w : World} (h : RefAt r tb sl B m w) {i : Nat} (hi : i < m.nth) {k : Int} (hk0 : 0 ≤ k) (hk7 : k < 8) (hkey : (m.ths i).key = k) (free : Int) (he : m.read k.toNat < 0) (ha : m.am = true) :
    Calls Tryz.prog 53 #[.pointer (some ⟨r, 0, none⟩), .pointer (some ⟨tb, i * 9, none⟩), .int .i64 free] w fun e w' => e = .returned (res false false 0) ∧ RefAt r tb sl B (m.thr i { m.ths i with e := m.read k.toNat, at_ := 4 }) w' ∧ Kept [tb] w w' := by
  obtain ⟨hs, hf, -, c1, -, -, -, c5, -⟩ := h.thCell hi
  obtain ⟨hsr, -, -, crd, c9, -⟩ := h.mapCell
  have ck := crd k.toNat (by omega)
  rw [hkey] at c1
  have hne := h.rne
  have H : Hid _ := h
  clear h crd hkey
  generalize hx : m.read k.toNat = x at *
  rw [ha] at c9
  go_enter Tryz.func53, Tryz.ntmps53
  go_wp2
  go_region
  go_wp2_with fail
  have h1 := ((H.out.putE hi x).alloc (.cells #[.bool false, .bool false, .int .i64 0] 52)).drew
  have g1 := newRes (w := w) (size_set w ⟨tb, i * 9 + 5, none⟩ (.int .i64 x))
  have k1 := (((Kept.refl [tb] w).setCell (p := ⟨tb, i * 9 + 5, none⟩) (.inl (by simp)) (.int .i64 x)).alloc (.cells #[.bool false, .bool false, .int .i64 0] 52)).drew
  refine (m_goes h1 hi 4).mono ?_
  rintro e w2 ⟨rfl, h2, k2⟩
  have r2 := k2.at g1 (by simp; omega)
  have hc2 : ∀ o, w2.cell? ⟨w.heap.size, o, none⟩ = #[.bool false, .bool false, .int .i64 0][o]? := cell_of r2
  have hf2 : ∀ o, w2.frozen? ⟨w.heap.size, o, none⟩ = false := frozen_of r2
  have K1 : Hid _ := k1.trans (k2.mono (by simp))
  have H2 : Hid _ := h2
  clear h1 k1 g1 k2 h2
  simp only [res]
  go_wp2
  refine bodyPost_ret (v := res false false 0) (by simp [results, Tryz.results53, go_sem, res, cell_of (resLaid r2 false false 0)]) rfl ⟨rfl, ?_, ?_⟩
  · have h3 := H2.out.resLaid r2 false false 0
    rw [show ∀ (m : M) (i : Nat) (t : Thr), ({ m with ths := put m.ths i t } : M) = m.thr i t from fun _ _ _ => rfl, thr_thr] at h3
    simp only [put_same] at h3
    exact h3
  · exact ((K1.out.setCell (.inr (by simp)) _).setCell (.inr (by simp)) _).setCell (.inr (by simp)) _
end Go.Proofs.YtmnkphenobfbfaaGreat
namespace Go.Proofs.YtmnkphenobfbfaaGreat
open Go.RowKit
set_option maxRecDepth 100000 in
set_option maxHeartbeats 800000 in
theorem m_frees_end {r tb : Nat} {sl : Value} {B : Nat} {m : M} {w : World} (h : RefAt r tb sl B m w) {i : Nat} (hi : i < m.nth) (entry : Int) (he : (m.ths i).e < 0) :
    Calls Tryz.prog 56 #[.pointer (some ⟨r, 0, none⟩), .pointer (some ⟨tb, i * 9, none⟩), .int .i64 entry] w fun e w' => e = .returned (res true false 0) ∧ RefAt r tb sl B ({ m with hol := -1 }.thr i { m.ths i with at_ := 0 }) w' ∧ Kept [r, tb] w w' := by
  obtain ⟨hs, hf, -, -, -, -, -, c5, -⟩ := h.thCell hi
  obtain ⟨hsr, hfr, -, -, -, -, -, -, c20, -⟩ := h.mapCell
  have hne := h.rne
  have H : Hid _ := h
  clear h
  generalize (m.ths i).e = x at c5 he
  go_enter Tryz.func56, Tryz.ntmps56
  go_wp2_with fail
  have h1 := (H.out.setHol (-1)).alloc (.cells #[.bool false, .bool false, .int .i64 0] 52)
  have g1 := newRes0 (w := w) (size_set w ⟨r, 20, none⟩ (.int .i64 (-1)))
  have k1 := ((Kept.refl [r, tb] w).setCell (p := ⟨r, 20, none⟩) (.inl (by simp)) (.int .i64 (-1))).alloc (.cells #[.bool false, .bool false, .int .i64 0] 52)
  refine (m_ends h1 hi false 0).mono ?_
  rintro e w2 ⟨rfl, h2, k2⟩
  have r2 := k2.at g1 (by simp; omega)
  have hc2 : ∀ o, w2.cell? ⟨w.heap.size, o, none⟩ = #[.bool false, .bool false, .int .i64 0][o]? := cell_of r2
  have hf2 : ∀ o, w2.frozen? ⟨w.heap.size, o, none⟩ = false := frozen_of r2
  have K1 : Hid _ := k1.trans (k2.mono (by simp))
  have H2 : Hid _ := h2
  clear h1 k1 g1 k2 h2
  simp only [res]
  go_wp2
  refine bodyPost_ret (v := res true false 0) (by simp [results, Tryz.results56, go_sem, res, cell_of (resLaid r2 true false 0)]) rfl ⟨rfl, ?_, ?_⟩
  · have h3 := H2.out.resLaid r2 true false 0
    exact h3
  · exact ((K1.out.setCell (.inr (by simp)) _).setCell (.inr (by simp)) _).setCell (.inr (by simp)) _
set_option maxRecDepth 100000 in
set_option maxHeartbeats 800000 in
theorem m_frees_on {r tb : Nat} {sl : Value} {B : Nat} {m : M} {w : World} (h : RefAt r tb sl B m w) {i : Nat} (hi : i < m.nth) (entry : Int) (he : 0 ≤ (m.ths i).e) :
    Calls Tryz.prog 56 #[.pointer (some ⟨r, 0, none⟩), .pointer (some ⟨tb, i * 9, none⟩), .int .i64 entry] w fun e w' => e = .returned (res false false 0) ∧ RefAt r tb sl B ({ m with hol := -1 }.thr i { m.ths i with at_ := entry }) w' ∧ Kept [r, tb] w w' := by
  obtain ⟨hs, hf, -, -, -, -, -, c5, -⟩ := h.thCell hi
  obtain ⟨hsr, hfr, -, -, -, -, -, -, c20, -⟩ := h.mapCell
  have hne := h.rne
  have H : Hid _ := h
  clear h
  generalize (m.ths i).e = x at c5 he
  go_enter Tryz.func56, Tryz.ntmps56
  go_wp2_with fail
  have h1 := (H.out.setHol (-1)).alloc (.cells #[.bool false, .bool false, .int .i64 0] 52)
  have g1 := newRes0 (w := w) (size_set w ⟨r, 20, none⟩ (.int .i64 (-1)))
  have k1 := ((Kept.refl [r, tb] w).setCell (p := ⟨r, 20, none⟩) (.inl (by simp)) (.int .i64 (-1))).alloc (.cells #[.bool false, .bool false, .int .i64 0] 52)
  refine (m_goes h1 hi entry).mono ?_
  rintro e w2 ⟨rfl, h2, k2⟩
  have r2 := k2.at g1 (by simp; omega)
  have hc2 : ∀ o, w2.cell? ⟨w.heap.size, o, none⟩ = #[.bool false, .bool false, .int .i64 0][o]? := cell_of r2
  have hf2 : ∀ o, w2.frozen? ⟨w.heap.size, o, none⟩ = false := frozen_of r2
  have K1 : Hid _ := k1.trans (k2.mono (by simp))
  have H2 : Hid _ := h2
  clear h1 k1 g1 k2 h2
  simp only [res]
  go_wp2
  refine bodyPost_ret (v := res false false 0) (by simp [results, Tryz.results56, go_sem, res, cell_of (resLaid r2 false false 0)]) rfl ⟨rfl, ?_, ?_⟩
  · have h3 := H2.out.resLaid r2 false false 0
    exact h3
  · exact ((K1.out.setCell (.inr (by simp)) _).setCell (.inr (by simp)) _).setCell (.inr (by simp)) _
end Go.Proofs.YtmnkphenobfbfaaGreat
namespace Go.Proofs.YtmnkphenobfbfaaGreat
open Go.RowKit
theorem row8_at (f : Nat → Int) {k : Nat} (hk : k < 8) : #[Value.int .i64 (f 0), .int .i64 (f 1), .int .i64 (f 2), .int .i64 (f 3), .int .i64 (f 4), .int .i64 (f 5), .int .i64 (f 6), .int .i64 (f 7)][k]? = some (.int .i64 (f k)) := by
  match k, hk with
  | 0, _ | 1, _ | 2, _ | 3, _ | 4, _ | 5, _ | 6, _ | 7, _ => rfl
set_option maxRecDepth 100000 in
set_option maxHeartbeats 800000 in
theorem m_keys (f : Nat → Int) (w : World) : Calls Tryz.prog 71 #[.agg #[.int .i64 (f 0), .int .i64 (f 1), .int .i64 (f 2), .int .i64 (f 3), .int .i64 (f 4), .int .i64 (f 5), .int .i64 (f 6), .int .i64 (f 7)]] w fun e w' => e = .returned (.int .i64 (cnt f 8)) ∧ Kept [] w w' := by
  have hb := block_alloc_new w (.cells #[.int .i64 (f 0), .int .i64 (f 1), .int .i64 (f 2), .int .i64 (f 3), .int .i64 (f 4), .int .i64 (f 5), .int .i64 (f 6), .int .i64 (f 7)] 56)
  have hc : ∀ k, k < 8 → (w.alloc (.cells #[.int .i64 (f 0), .int .i64 (f 1), .int .i64 (f 2), .int .i64 (f 3), .int .i64 (f 4), .int .i64 (f 5), .int .i64 (f 6), .int .i64 (f 7)] 56)).cell? ⟨w.heap.size, k, none⟩ = some (.int .i64 (f k)) := fun k hk => by rw [cell_of hb]; exact row8_at f hk
  have HC : Hid _ := hc
  clear hb hc
  go_enter Tryz.func71, Tryz.ntmps71
  go_wp2
  go_loop [3, 4] (fun n i => ∃ k : Nat, k ≤ 8 ∧ i = .int .i64 k ∧ n = .int .i64 (cnt f k)) (fun _ i => 8 - (intOf i).toNat)
  case atStart => exact ⟨0, by omega, rfl, rfl⟩
  case round =>
    obtain ⟨k, hk, rfl, rfl⟩ := hrel
    by_cases hlt : k < 8
    · have hck := HC.out k hlt
      have hkt : ((k : Int)).toNat = k := by simp
      have hle := cnt_le f k
      by_cases hf : 0 ≤ f k
      · go_wp2
        go_round
        case rel => exact ⟨k + 1, by omega, by go_num, by simp only [cnt, if_pos hf]; go_num⟩
        case measure => simp [intOf]; omega
      · go_wp2
        go_round
        case rel => exact ⟨k + 1, by omega, by go_num, by simp only [cnt, if_neg hf]; go_num⟩
        case measure => simp [intOf]; omega
    · obtain rfl : k = 8 := by omega
      go_wp2
      go_ret
      exact ⟨rfl, (Kept.refl [] w).alloc _⟩
end Go.Proofs.YtmnkphenobfbfaaGreat
namespace Go.Proofs.YtmnkphenobfbfaaGreat
open Go.RowKit
theorem RefAt.readIs {r tb : Nat} {sl : Value} {B : Nat} {m : M} {w : World} (h : RefAt r tb sl B m w) (f : Nat → Int) (hf : ∀ k, k < 8 → m.read k = f k) : RefAt r tb sl B { m with read := f } w := by
  obtain ⟨cs, a1, a2⟩ := h.own
  exact ⟨h.nth, ⟨cs, a1, ⟨a2.size, a2.c0, fun k hk => by rw [a2.rd k hk, hf k hk], a2.am, a2.hd, a2.dt, a2.mis, a2.hol, a2.cl, a2.th⟩⟩, h.ths, h.row⟩
theorem RefAt.dirtyIs {r tb : Nat} {sl : Value} {B : Nat} {m : M} {w : World} (h : RefAt r tb sl B m w) (f : Nat → Int) (hf : ∀ k, k < 8 → m.dirty k = f k) : RefAt r tb sl B { m with dirty := f } w := by
  obtain ⟨cs, a1, a2⟩ := h.own
  exact ⟨h.nth, ⟨cs, a1, ⟨a2.size, a2.c0, a2.rd, a2.am, a2.hd, fun k hk => by rw [a2.dt k hk, hf k hk], a2.mis, a2.hol, a2.cl, a2.th⟩⟩, h.ths, h.row⟩
theorem RefAt.setReads {r tb : Nat} {sl : Value} {B : Nat} {m : M} {w : World} (h : RefAt r tb sl B m w) (f : Nat → Int) : RefAt r tb sl B { m with read := f }
    ((((((((w.setCell ⟨r, 1, none⟩ (.int .i64 (f 0))).setCell ⟨r, 2, none⟩ (.int .i64 (f 1))).setCell ⟨r, 3, none⟩ (.int .i64 (f 2))).setCell ⟨r, 4, none⟩ (.int .i64 (f 3))).setCell ⟨r, 5, none⟩ (.int .i64 (f 4))).setCell ⟨r, 6, none⟩ (.int .i64 (f 5))).setCell ⟨r, 7, none⟩ (.int .i64 (f 6))).setCell ⟨r, 8, none⟩ (.int .i64 (f 7))) := by
  refine (((((((((h.setRead (k := 0) (by omega) (f 0)).setRead (k := 1) (by omega) (f 1)).setRead (k := 2) (by omega) (f 2)).setRead (k := 3) (by omega) (f 3)).setRead (k := 4) (by omega) (f 4)).setRead (k := 5) (by omega) (f 5)).setRead (k := 6) (by omega) (f 6)).setRead (k := 7) (by omega) (f 7)).readIs f ?_)
  intro k hk
  match k, hk with
  | 0, _ | 1, _ | 2, _ | 3, _ | 4, _ | 5, _ | 6, _ | 7, _ => simp [put]
theorem RefAt.setDirties {r tb : Nat} {sl : Value} {B : Nat} {m : M} {w : World} (h : RefAt r tb sl B m w) (f : Nat → Int) : RefAt r tb sl B { m with dirty := f }
    ((((((((w.setCell ⟨r, 11, none⟩ (.int .i64 (f 0))).setCell ⟨r, 12, none⟩ (.int .i64 (f 1))).setCell ⟨r, 13, none⟩ (.int .i64 (f 2))).setCell ⟨r, 14, none⟩ (.int .i64 (f 3))).setCell ⟨r, 15, none⟩ (.int .i64 (f 4))).setCell ⟨r, 16, none⟩ (.int .i64 (f 5))).setCell ⟨r, 17, none⟩ (.int .i64 (f 6))).setCell ⟨r, 18, none⟩ (.int .i64 (f 7))) := by
  refine (((((((((h.setDirty (k := 0) (by omega) (f 0)).setDirty (k := 1) (by omega) (f 1)).setDirty (k := 2) (by omega) (f 2)).setDirty (k := 3) (by omega) (f 3)).setDirty (k := 4) (by omega) (f 4)).setDirty (k := 5) (by omega) (f 5)).setDirty (k := 6) (by omega) (f 6)).setDirty (k := 7) (by omega) (f 7)).dirtyIs f ?_)
  intro k hk
  match k, hk with
  | 0, _ | 1, _ | 2, _ | 3, _ | 4, _ | 5, _ | 6, _ | 7, _ => simp [put]
theorem Kept.setReads {F : List Nat} {w0 w : World} {r : Nat} (h : Kept F w0 w) (hr : r ∈ F) (f : Nat → Int) : Kept F w0 ((((((((w.setCell ⟨r, 1, none⟩ (.int .i64 (f 0))).setCell ⟨r, 2, none⟩ (.int .i64 (f 1))).setCell ⟨r, 3, none⟩ (.int .i64 (f 2))).setCell ⟨r, 4, none⟩ (.int .i64 (f 3))).setCell ⟨r, 5, none⟩ (.int .i64 (f 4))).setCell ⟨r, 6, none⟩ (.int .i64 (f 5))).setCell ⟨r, 7, none⟩ (.int .i64 (f 6))).setCell ⟨r, 8, none⟩ (.int .i64 (f 7))) :=
  (((((((h.setCell (.inl hr) _).setCell (.inl hr) _).setCell (.inl hr) _).setCell (.inl hr) _).setCell (.inl hr) _).setCell (.inl hr) _).setCell (.inl hr) _).setCell (.inl hr) _
theorem Kept.setDirties {F : List Nat} {w0 w : World} {r : Nat} (h : Kept F w0 w) (hr : r ∈ F) (f : Nat → Int) : Kept F w0 ((((((((w.setCell ⟨r, 11, none⟩ (.int .i64 (f 0))).setCell ⟨r, 12, none⟩ (.int .i64 (f 1))).setCell ⟨r, 13, none⟩ (.int .i64 (f 2))).setCell ⟨r, 14, none⟩ (.int .i64 (f 3))).setCell ⟨r, 15, none⟩ (.int .i64 (f 4))).setCell ⟨r, 16, none⟩ (.int .i64 (f 5))).setCell ⟨r, 17, none⟩ (.int .i64 (f 6))).setCell ⟨r, 18, none⟩ (.int .i64 (f 7))) :=
  (((((((h.setCell (.inl hr) _).setCell (.inl hr) _).setCell (.inl hr) _).setCell (.inl hr) _).setCell (.inl hr) _).setCell (.inl hr) _).setCell (.inl hr) _).setCell (.inl hr) _
set_option maxRecDepth 100000 in
set_option maxHeartbeats 800000 in
theorem m_missed_a {r tb : Nat} {sl : Value} {B : Nat} {m : M} {w : World} (h : RefAt r tb sl B m w) {i : Nat} (hi : i < m.nth) (a free : Int) (h5 : 5 ≤ a) (h6 : a ≤ 6) (hat : (m.ths i).at_ = 10 * a + 1) :
    Calls Tryz.prog 55 #[.pointer (some ⟨r, 0, none⟩), .pointer (some ⟨tb, i * 9, none⟩), .int .i64 a, .int .i64 free] w fun e w' => e = .returned (res false false 0) ∧ RefAt r tb sl B ({ m with read := m.dirty, am := false }.thr i { m.ths i with at_ := 10 * a + 2 }) w' ∧ Kept [r, tb] w w' := by
  obtain ⟨hs, hf, -, -, -, -, c4, -⟩ := h.thCell hi
  obtain ⟨hsr, hfr, -, crd, c9, -, cdt, -⟩ := h.mapCell
  have d0 := cdt 0 (by omega)
  have e0 := crd 0 (by omega)
  have d1 := cdt 1 (by omega)
  have e1 := crd 1 (by omega)
  have d2 := cdt 2 (by omega)
  have e2 := crd 2 (by omega)
  have d3 := cdt 3 (by omega)
  have e3 := crd 3 (by omega)
  have d4 := cdt 4 (by omega)
  have e4 := crd 4 (by omega)
  have d5 := cdt 5 (by omega)
  have e5 := crd 5 (by omega)
  have d6 := cdt 6 (by omega)
  have e6 := crd 6 (by omega)
  have d7 := cdt 7 (by omega)
  have e7 := crd 7 (by omega)
  have hne := h.rne
  have H : Hid _ := h
  rw [hat] at c4
  clear h crd cdt hat
  go_enter Tryz.func55, Tryz.ntmps55
  go_wp2_with fail
  have h1 := ((H.out.setReads m.dirty).setAm false).alloc (.cells #[.bool false, .bool false, .int .i64 0] 52)
  have g1 := newRes0 (w := w) (w1 := (((((((((w.setCell ⟨r, 1, none⟩ (.int .i64 (m.dirty 0))).setCell ⟨r, 2, none⟩ (.int .i64 (m.dirty 1))).setCell ⟨r, 3, none⟩ (.int .i64 (m.dirty 2))).setCell ⟨r, 4, none⟩ (.int .i64 (m.dirty 3))).setCell ⟨r, 5, none⟩ (.int .i64 (m.dirty 4))).setCell ⟨r, 6, none⟩ (.int .i64 (m.dirty 5))).setCell ⟨r, 7, none⟩ (.int .i64 (m.dirty 6))).setCell ⟨r, 8, none⟩ (.int .i64 (m.dirty 7)))).setCell ⟨r, 9, none⟩ (.bool false)) (by simp only [size_set])
  have k1 := (((Kept.refl [r, tb] w).setReads (r := r) (by simp) m.dirty).setCell (p := ⟨r, 9, none⟩) (.inl (by simp)) (.bool false)).alloc (.cells #[.bool false, .bool false, .int .i64 0] 52)
  refine (m_goes h1 hi (10 * a + 2)).mono ?_
  rintro e w2 ⟨rfl, h2, k2⟩
  have r2 := k2.at g1 (by simp; omega)
  have hc2 : ∀ o, w2.cell? ⟨w.heap.size, o, none⟩ = #[.bool false, .bool false, .int .i64 0][o]? := cell_of r2
  have hf2 : ∀ o, w2.frozen? ⟨w.heap.size, o, none⟩ = false := frozen_of r2
  have K1 : Hid _ := k1.trans (k2.mono (by simp))
  have H2 : Hid _ := h2
  clear h1 k1 g1 k2 h2
  simp only [res]
  go_wp2
  refine bodyPost_ret (v := res false false 0) (by simp [results, Tryz.results55, go_sem, res, cell_of (resLaid r2 false false 0)]) rfl ⟨rfl, ?_, ?_⟩
  · have h3 := H2.out.resLaid r2 false false 0
    exact h3
  · exact ((K1.out.setCell (.inr (by simp)) _).setCell (.inr (by simp)) _).setCell (.inr (by simp)) _
set_option maxRecDepth 100000 in
set_option maxHeartbeats 800000 in
theorem m_missed_c {r tb : Nat} {sl : Value} {B : Nat} {m : M} {w : World} (h : RefAt r tb sl B m w) {i : Nat} (hi : i < m.nth) (a free : Int) (h5 : 5 ≤ a) (h6 : a ≤ 6) (hat : (m.ths i).at_ = 10 * a + 3) :
    Calls Tryz.prog 55 #[.pointer (some ⟨r, 0, none⟩), .pointer (some ⟨tb, i * 9, none⟩), .int .i64 a, .int .i64 free] w fun e w' => e = .returned (res false false 0) ∧ RefAt r tb sl B ({ m with mis := 0 }.thr i { m.ths i with at_ := free }) w' ∧ Kept [r, tb] w w' := by
  obtain ⟨hs, hf, -, -, -, -, c4, -⟩ := h.thCell hi
  obtain ⟨hsr, hfr, -, -, -, -, -, c19, -⟩ := h.mapCell
  have hne := h.rne
  have H : Hid _ := h
  rw [hat] at c4
  clear h hat
  go_enter Tryz.func55, Tryz.ntmps55
  go_wp2_with fail
  have h1 := (H.out.setMis 0).alloc (.cells #[.bool false, .bool false, .int .i64 0] 52)
  have g1 := newRes0 (w := w) (size_set w ⟨r, 19, none⟩ (.int .i64 0))
  have k1 := ((Kept.refl [r, tb] w).setCell (p := ⟨r, 19, none⟩) (.inl (by simp)) (.int .i64 0)).alloc (.cells #[.bool false, .bool false, .int .i64 0] 52)
  refine (m_goes h1 hi free).mono ?_
  rintro e w2 ⟨rfl, h2, k2⟩
  have r2 := k2.at g1 (by simp; omega)
  have hc2 : ∀ o, w2.cell? ⟨w.heap.size, o, none⟩ = #[.bool false, .bool false, .int .i64 0][o]? := cell_of r2
  have hf2 : ∀ o, w2.frozen? ⟨w.heap.size, o, none⟩ = false := frozen_of r2
  have K1 : Hid _ := k1.trans (k2.mono (by simp))
  have H2 : Hid _ := h2
  clear h1 k1 g1 k2 h2
  simp only [res]
  go_wp2
  refine bodyPost_ret (v := res false false 0) (by simp [results, Tryz.results55, go_sem, res, cell_of (resLaid r2 false false 0)]) rfl ⟨rfl, ?_, ?_⟩
  · have h3 := H2.out.resLaid r2 false false 0
    exact h3
  · exact ((K1.out.setCell (.inr (by simp)) _).setCell (.inr (by simp)) _).setCell (.inr (by simp)) _
end Go.Proofs.YtmnkphenobfbfaaGreat
