import Derived.Test.YtfgfpggjcfhccaaGreatBase
namespace Go.Proofs.YtfgfpggjcfhccaaGreat
open Go.RowKit
/-! The document's machine. -/
/-- An entry: how it stands with it, and its value. -/
structure Cel where
  st : Int
  v : Int
/-- What a thread is at (at_ 0: nothing). -/
structure Thr where
  kind : Int
  key : Int
  val : Int
  old : Int
  at_ : Int
  e : Int
  sst : Int
  sv : Int
  next : Int
/-- All that is shared, and the threads. -/
structure M where
  nc : Nat
  cells : Nat → Cel
  read : Nat → Int
  am : Bool
  hd : Bool
  dirty : Nat → Int
  mis : Int
  hol : Int
  cl : Bool
  nth : Nat
  ths : Nat → Thr
def put {α : Type} (f : Nat → α) (i : Nat) (x : α) : Nat → α := fun j => if j = i then x else f j
theorem put_same {α : Type} (f : Nat → α) (i : Nat) (x : α) : put f i x i = x := by simp [put]
theorem put_other {α : Type} (f : Nat → α) {i j : Nat} (x : α) (h : j ≠ i) : put f i x j = f j := by simp [put, h]
/-- A thread's nine cells, from i * 9 on. -/
structure ThAt (cs : Array Value) (i : Nat) (t : Thr) : Prop where
  c0 : cs[i * 9]? = some (.int .i64 t.kind)
  c1 : cs[i * 9 + 1]? = some (.int .i64 t.key)
  c2 : cs[i * 9 + 2]? = some (.int .i64 t.val)
  c3 : cs[i * 9 + 3]? = some (.int .i64 t.old)
  c4 : cs[i * 9 + 4]? = some (.int .i64 t.at_)
  c5 : cs[i * 9 + 5]? = some (.int .i64 t.e)
  c6 : cs[i * 9 + 6]? = some (.int .i64 t.sst)
  c7 : cs[i * 9 + 7]? = some (.int .i64 t.sv)
  c8 : cs[i * 9 + 8]? = some (.int .i64 t.next)
/-- The map's own 23 cells. -/
structure MapCells (cs : Array Value) (tb : Nat) (sl : Value) (m : M) : Prop where
  size : cs.size = 23
  c0 : cs[0]? = some sl
  rd : ∀ k, k < 8 → cs[1 + k]? = some (.int .i64 (m.read k))
  am : cs[9]? = some (.bool m.am)
  hd : cs[10]? = some (.bool m.hd)
  dt : ∀ k, k < 8 → cs[11 + k]? = some (.int .i64 (m.dirty k))
  mis : cs[19]? = some (.int .i64 m.mis)
  hol : cs[20]? = some (.int .i64 m.hol)
  cl : cs[21]? = some (.bool m.cl)
  th : cs[22]? = some (.slice (some ⟨tb, 0, none⟩) m.nth m.nth)
/-- The entries' row: two cells each. -/
def cellList (c : Nat → Cel) : Nat → List Value
  | 0 => []
  | n + 1 => cellList c n ++ [.int .i64 (c n).st, .int .i64 (c n).v]
/-- The document's map lies at r, its threads at tb, its entries in sl. -/
structure RefAt (r tb : Nat) (sl : Value) (B : Nat) (m : M) (w : World) : Prop where
  nth : m.nth ≤ 6
  own : ∃ cs, w.heap[r]? = some (.cells cs 59 (0, 0)) ∧ MapCells cs tb sl m
  ths : ∃ cs, w.heap[tb]? = some (.cells cs 90 (0, 0)) ∧ cs.size = m.nth * 9 ∧ ∀ i, i < m.nth → ThAt cs i (m.ths i)
  row : w.ownsRow B 88 2 sl m.nc (cellList m.cells m.nc)
theorem cellList_length (c : Nat → Cel) (n : Nat) : (cellList c n).length = n * 2 := by
  induction n with
  | zero => rfl
  | succ n ih => simp [cellList, ih]; omega
theorem cellList_at (c : Nat → Cel) {n i : Nat} (h : i < n) : (cellList c n)[i * 2]? = some (.int .i64 (c i).st) ∧ (cellList c n)[i * 2 + 1]? = some (.int .i64 (c i).v) := by
  induction n with
  | zero => omega
  | succ n ih =>
    have hl := cellList_length c n
    simp only [cellList]
    by_cases hi : i < n
    · have := ih hi
      rw [List.getElem?_append_left (by omega), List.getElem?_append_left (by omega)]
      exact this
    · obtain rfl : i = n := by omega
      rw [List.getElem?_append_right (by omega), List.getElem?_append_right (by omega), hl]
      simp
theorem RefAt.kept {r tb : Nat} {sl : Value} {B : Nat} {m : M} {w w' : World} {F : List Nat} (h : RefAt r tb sl B m w) (k : Kept F w w') (h1 : r ∉ F) (h2 : tb ∉ F) (h3 : ∀ g, sl.ownBlock = some g → g ∉ F) : RefAt r tb sl B m w' := by
  obtain ⟨cs, a1, a2⟩ := h.own
  obtain ⟨ct, b1, b2⟩ := h.ths
  refine ⟨h.nth, ⟨cs, k.at a1 h1, a2⟩, ⟨ct, k.at b1 h2, b2⟩, ⟨h.row.1, ?_⟩⟩
  rcases h.row.2 with h' | ⟨g, cap, cur, e1, e2, e3, e4⟩
  · exact .inl h'
  · exact .inr ⟨g, cap, cur, e1, e2, k.at e3 (h3 g (by rw [e1]; rfl)), e4⟩
theorem RefAt.keptNil {r tb : Nat} {sl : Value} {B : Nat} {m : M} {w w' : World} (h : RefAt r tb sl B m w) (k : Kept [] w w') : RefAt r tb sl B m w' := h.kept k (by simp) (by simp) (by simp)
theorem RefAt.rne {r tb : Nat} {sl : Value} {B : Nat} {m : M} {w : World} (h : RefAt r tb sl B m w) : r ≠ tb := by
  obtain ⟨cs, a1, _⟩ := h.own
  obtain ⟨ct, b1, _⟩ := h.ths
  exact ne_of_blocks a1 b1 (by simp)
theorem RefAt.own_ne {r tb : Nat} {sl : Value} {B : Nat} {m : M} {w : World} (h : RefAt r tb sl B m w) {g : Nat} (hg : sl.ownBlock = some g) : g ≠ r ∧ g ≠ tb := by
  obtain ⟨cs, a1, _⟩ := h.own
  obtain ⟨ct, b1, _⟩ := h.ths
  rcases h.row.2 with ⟨rfl, _⟩ | ⟨g', cap, cur, rfl, _, e3, _⟩
  · simp [Value.ownBlock] at hg
  · simp only [Value.ownBlock, Option.some.injEq] at hg
    subst hg
    exact ⟨ne_of_blocks e3 a1 (by simp), ne_of_blocks e3 b1 (by simp)⟩
theorem ThAt.other {cs : Array Value} {i j a : Nat} {t : Thr} (h : ThAt cs j t) (hne : j ≠ i) (ha : a < 9) (v : Value) : ThAt (cs.setIfInBounds (i * 9 + a) v) j t := by
  refine ⟨?_, ?_, ?_, ?_, ?_, ?_, ?_, ?_, ?_⟩ <;> rw [Array.getElem?_setIfInBounds_ne (by omega)]
  · exact h.c0
  · exact h.c1
  · exact h.c2
  · exact h.c3
  · exact h.c4
  · exact h.c5
  · exact h.c6
  · exact h.c7
  · exact h.c8
/-- One cell of a thread, and the thread that lies there now. -/
theorem RefAt.thread {r tb : Nat} {sl : Value} {B : Nat} {m : M} {w : World} (h : RefAt r tb sl B m w) {i a : Nat} (ha : a < 9) (v : Value) (t : Thr)
    (ht : ∀ cs : Array Value, cs.size = m.nth * 9 → ThAt cs i (m.ths i) → ThAt (cs.setIfInBounds (i * 9 + a) v) i t) :
    RefAt r tb sl B { m with ths := put m.ths i t } (w.setCell ⟨tb, i * 9 + a, none⟩ v) := by
  obtain ⟨cs, a1, a2⟩ := h.own
  obtain ⟨ct, b1, b2, b3⟩ := h.ths
  have hrow := h.row
  refine ⟨h.nth, ⟨cs, block_set_ne a1 h.rne _ _, ⟨a2.size, a2.c0, a2.rd, a2.am, a2.hd, a2.dt, a2.mis, a2.hol, a2.cl, a2.th⟩⟩, ⟨_, block_set_same b1 _ _, by simpa using b2, fun j hj => ?_⟩, ⟨hrow.1, ?_⟩⟩
  · show ThAt _ j (put m.ths i t j)
    by_cases hji : j = i
    · subst hji
      rw [put_same]
      exact ht ct b2 (b3 j hj)
    · rw [put_other _ _ hji]
      exact (b3 j hj).other hji ha _
  · rcases hrow.2 with h' | ⟨g, cap, cur, e1, e2, e3, e4⟩
    · exact .inl h'
    · exact .inr ⟨g, cap, cur, e1, e2, block_set_ne e3 (h.own_ne (by rw [e1]; rfl)).2 _ _, e4⟩
/-- A thread's At. -/
theorem RefAt.putAt {r tb : Nat} {sl : Value} {B : Nat} {m : M} {w : World} (h : RefAt r tb sl B m w) {i : Nat} (hi : i < m.nth) (x : Int) :
    RefAt r tb sl B { m with ths := put m.ths i { m.ths i with at_ := x } } (w.setCell ⟨tb, i * 9 + 4, none⟩ (.int .i64 x)) := by
  refine h.thread (by omega) _ _ fun cs hs t => ?_
  refine ⟨?_, ?_, ?_, ?_, ?_, ?_, ?_, ?_, ?_⟩
  · rw [Array.getElem?_setIfInBounds_ne (by omega)]; exact t.c0
  · rw [Array.getElem?_setIfInBounds_ne (by omega)]; exact t.c1
  · rw [Array.getElem?_setIfInBounds_ne (by omega)]; exact t.c2
  · rw [Array.getElem?_setIfInBounds_ne (by omega)]; exact t.c3
  · rw [Array.getElem?_setIfInBounds_self_of_lt (by omega)]
  · rw [Array.getElem?_setIfInBounds_ne (by omega)]; exact t.c5
  · rw [Array.getElem?_setIfInBounds_ne (by omega)]; exact t.c6
  · rw [Array.getElem?_setIfInBounds_ne (by omega)]; exact t.c7
  · rw [Array.getElem?_setIfInBounds_ne (by omega)]; exact t.c8
/-- A thread's E. -/
theorem RefAt.putE {r tb : Nat} {sl : Value} {B : Nat} {m : M} {w : World} (h : RefAt r tb sl B m w) {i : Nat} (hi : i < m.nth) (x : Int) :
    RefAt r tb sl B { m with ths := put m.ths i { m.ths i with e := x } } (w.setCell ⟨tb, i * 9 + 5, none⟩ (.int .i64 x)) := by
  refine h.thread (by omega) _ _ fun cs hs t => ?_
  refine ⟨?_, ?_, ?_, ?_, ?_, ?_, ?_, ?_, ?_⟩
  · rw [Array.getElem?_setIfInBounds_ne (by omega)]; exact t.c0
  · rw [Array.getElem?_setIfInBounds_ne (by omega)]; exact t.c1
  · rw [Array.getElem?_setIfInBounds_ne (by omega)]; exact t.c2
  · rw [Array.getElem?_setIfInBounds_ne (by omega)]; exact t.c3
  · rw [Array.getElem?_setIfInBounds_ne (by omega)]; exact t.c4
  · rw [Array.getElem?_setIfInBounds_self_of_lt (by omega)]
  · rw [Array.getElem?_setIfInBounds_ne (by omega)]; exact t.c6
  · rw [Array.getElem?_setIfInBounds_ne (by omega)]; exact t.c7
  · rw [Array.getElem?_setIfInBounds_ne (by omega)]; exact t.c8
/-- A thread's Seen's state. -/
theorem RefAt.putSst {r tb : Nat} {sl : Value} {B : Nat} {m : M} {w : World} (h : RefAt r tb sl B m w) {i : Nat} (hi : i < m.nth) (x : Int) :
    RefAt r tb sl B { m with ths := put m.ths i { m.ths i with sst := x } } (w.setCell ⟨tb, i * 9 + 6, none⟩ (.int .i64 x)) := by
  refine h.thread (by omega) _ _ fun cs hs t => ?_
  refine ⟨?_, ?_, ?_, ?_, ?_, ?_, ?_, ?_, ?_⟩
  · rw [Array.getElem?_setIfInBounds_ne (by omega)]; exact t.c0
  · rw [Array.getElem?_setIfInBounds_ne (by omega)]; exact t.c1
  · rw [Array.getElem?_setIfInBounds_ne (by omega)]; exact t.c2
  · rw [Array.getElem?_setIfInBounds_ne (by omega)]; exact t.c3
  · rw [Array.getElem?_setIfInBounds_ne (by omega)]; exact t.c4
  · rw [Array.getElem?_setIfInBounds_ne (by omega)]; exact t.c5
  · rw [Array.getElem?_setIfInBounds_self_of_lt (by omega)]
  · rw [Array.getElem?_setIfInBounds_ne (by omega)]; exact t.c7
  · rw [Array.getElem?_setIfInBounds_ne (by omega)]; exact t.c8
/-- A thread's Seen's value. -/
theorem RefAt.putSv {r tb : Nat} {sl : Value} {B : Nat} {m : M} {w : World} (h : RefAt r tb sl B m w) {i : Nat} (hi : i < m.nth) (x : Int) :
    RefAt r tb sl B { m with ths := put m.ths i { m.ths i with sv := x } } (w.setCell ⟨tb, i * 9 + 7, none⟩ (.int .i64 x)) := by
  refine h.thread (by omega) _ _ fun cs hs t => ?_
  refine ⟨?_, ?_, ?_, ?_, ?_, ?_, ?_, ?_, ?_⟩
  · rw [Array.getElem?_setIfInBounds_ne (by omega)]; exact t.c0
  · rw [Array.getElem?_setIfInBounds_ne (by omega)]; exact t.c1
  · rw [Array.getElem?_setIfInBounds_ne (by omega)]; exact t.c2
  · rw [Array.getElem?_setIfInBounds_ne (by omega)]; exact t.c3
  · rw [Array.getElem?_setIfInBounds_ne (by omega)]; exact t.c4
  · rw [Array.getElem?_setIfInBounds_ne (by omega)]; exact t.c5
  · rw [Array.getElem?_setIfInBounds_ne (by omega)]; exact t.c6
  · rw [Array.getElem?_setIfInBounds_self_of_lt (by omega)]
  · rw [Array.getElem?_setIfInBounds_ne (by omega)]; exact t.c8
/-- A thread's Next. -/
theorem RefAt.putNext {r tb : Nat} {sl : Value} {B : Nat} {m : M} {w : World} (h : RefAt r tb sl B m w) {i : Nat} (hi : i < m.nth) (x : Int) :
    RefAt r tb sl B { m with ths := put m.ths i { m.ths i with next := x } } (w.setCell ⟨tb, i * 9 + 8, none⟩ (.int .i64 x)) := by
  refine h.thread (by omega) _ _ fun cs hs t => ?_
  refine ⟨?_, ?_, ?_, ?_, ?_, ?_, ?_, ?_, ?_⟩
  · rw [Array.getElem?_setIfInBounds_ne (by omega)]; exact t.c0
  · rw [Array.getElem?_setIfInBounds_ne (by omega)]; exact t.c1
  · rw [Array.getElem?_setIfInBounds_ne (by omega)]; exact t.c2
  · rw [Array.getElem?_setIfInBounds_ne (by omega)]; exact t.c3
  · rw [Array.getElem?_setIfInBounds_ne (by omega)]; exact t.c4
  · rw [Array.getElem?_setIfInBounds_ne (by omega)]; exact t.c5
  · rw [Array.getElem?_setIfInBounds_ne (by omega)]; exact t.c6
  · rw [Array.getElem?_setIfInBounds_ne (by omega)]; exact t.c7
  · rw [Array.getElem?_setIfInBounds_self_of_lt (by omega)]
/-- One cell of the map, and the map that lies there now. -/
theorem RefAt.map {r tb : Nat} {sl : Value} {B : Nat} {m : M} {w : World} (h : RefAt r tb sl B m w) {a : Nat} (v : Value) (m' : M) (e1 : m'.nth = m.nth) (e2 : m'.nc = m.nc) (e3 : m'.cells = m.cells) (e4 : m'.ths = m.ths)
    (hm : ∀ cs : Array Value, MapCells cs tb sl m → MapCells (cs.setIfInBounds a v) tb sl m') : RefAt r tb sl B m' (w.setCell ⟨r, a, none⟩ v) := by
  obtain ⟨cs, a1, a2⟩ := h.own
  obtain ⟨ct, b1, b2, b3⟩ := h.ths
  have hrow := h.row
  refine ⟨by rw [e1]; exact h.nth, ⟨_, block_set_same a1 _ _, hm cs a2⟩, ⟨ct, block_set_ne b1 (Ne.symm h.rne) _ _, by rw [e1]; exact b2, by rw [e1, e4]; exact b3⟩, ?_⟩
  rw [e2, e3]
  refine ⟨hrow.1, ?_⟩
  rcases hrow.2 with h' | ⟨g, cap, cur, f1, f2, f3, f4⟩
  · exact .inl h'
  · exact .inr ⟨g, cap, cur, f1, f2, block_set_ne f3 (h.own_ne (by rw [f1]; rfl)).1 _ _, f4⟩
/-- Amended. -/
theorem RefAt.setAm {r tb : Nat} {sl : Value} {B : Nat} {m : M} {w : World} (h : RefAt r tb sl B m w) (x : Bool) : RefAt r tb sl B { m with am := x } (w.setCell ⟨r, 9, none⟩ (.bool x)) := by
  refine h.map _ _ rfl rfl rfl rfl fun cs c => ?_
  have hs := c.size
  refine ⟨?_, ?_, ?_, ?_, ?_, ?_, ?_, ?_, ?_, ?_⟩
  · simpa using hs
  · rw [Array.getElem?_setIfInBounds_ne (by omega)]; exact c.c0
  · intro k hk; rw [Array.getElem?_setIfInBounds_ne (by omega)]; exact c.rd k hk
  · rw [Array.getElem?_setIfInBounds_self_of_lt (by omega)]
  · rw [Array.getElem?_setIfInBounds_ne (by omega)]; exact c.hd
  · intro k hk; rw [Array.getElem?_setIfInBounds_ne (by omega)]; exact c.dt k hk
  · rw [Array.getElem?_setIfInBounds_ne (by omega)]; exact c.mis
  · rw [Array.getElem?_setIfInBounds_ne (by omega)]; exact c.hol
  · rw [Array.getElem?_setIfInBounds_ne (by omega)]; exact c.cl
  · rw [Array.getElem?_setIfInBounds_ne (by omega)]; exact c.th
/-- HasDirty. -/
theorem RefAt.setHd {r tb : Nat} {sl : Value} {B : Nat} {m : M} {w : World} (h : RefAt r tb sl B m w) (x : Bool) : RefAt r tb sl B { m with hd := x } (w.setCell ⟨r, 10, none⟩ (.bool x)) := by
  refine h.map _ _ rfl rfl rfl rfl fun cs c => ?_
  have hs := c.size
  refine ⟨?_, ?_, ?_, ?_, ?_, ?_, ?_, ?_, ?_, ?_⟩
  · simpa using hs
  · rw [Array.getElem?_setIfInBounds_ne (by omega)]; exact c.c0
  · intro k hk; rw [Array.getElem?_setIfInBounds_ne (by omega)]; exact c.rd k hk
  · rw [Array.getElem?_setIfInBounds_ne (by omega)]; exact c.am
  · rw [Array.getElem?_setIfInBounds_self_of_lt (by omega)]
  · intro k hk; rw [Array.getElem?_setIfInBounds_ne (by omega)]; exact c.dt k hk
  · rw [Array.getElem?_setIfInBounds_ne (by omega)]; exact c.mis
  · rw [Array.getElem?_setIfInBounds_ne (by omega)]; exact c.hol
  · rw [Array.getElem?_setIfInBounds_ne (by omega)]; exact c.cl
  · rw [Array.getElem?_setIfInBounds_ne (by omega)]; exact c.th
/-- Misses. -/
theorem RefAt.setMis {r tb : Nat} {sl : Value} {B : Nat} {m : M} {w : World} (h : RefAt r tb sl B m w) (x : Int) : RefAt r tb sl B { m with mis := x } (w.setCell ⟨r, 19, none⟩ (.int .i64 x)) := by
  refine h.map _ _ rfl rfl rfl rfl fun cs c => ?_
  have hs := c.size
  refine ⟨?_, ?_, ?_, ?_, ?_, ?_, ?_, ?_, ?_, ?_⟩
  · simpa using hs
  · rw [Array.getElem?_setIfInBounds_ne (by omega)]; exact c.c0
  · intro k hk; rw [Array.getElem?_setIfInBounds_ne (by omega)]; exact c.rd k hk
  · rw [Array.getElem?_setIfInBounds_ne (by omega)]; exact c.am
  · rw [Array.getElem?_setIfInBounds_ne (by omega)]; exact c.hd
  · intro k hk; rw [Array.getElem?_setIfInBounds_ne (by omega)]; exact c.dt k hk
  · rw [Array.getElem?_setIfInBounds_self_of_lt (by omega)]
  · rw [Array.getElem?_setIfInBounds_ne (by omega)]; exact c.hol
  · rw [Array.getElem?_setIfInBounds_ne (by omega)]; exact c.cl
  · rw [Array.getElem?_setIfInBounds_ne (by omega)]; exact c.th
/-- Holder. -/
theorem RefAt.setHol {r tb : Nat} {sl : Value} {B : Nat} {m : M} {w : World} (h : RefAt r tb sl B m w) (x : Int) : RefAt r tb sl B { m with hol := x } (w.setCell ⟨r, 20, none⟩ (.int .i64 x)) := by
  refine h.map _ _ rfl rfl rfl rfl fun cs c => ?_
  have hs := c.size
  refine ⟨?_, ?_, ?_, ?_, ?_, ?_, ?_, ?_, ?_, ?_⟩
  · simpa using hs
  · rw [Array.getElem?_setIfInBounds_ne (by omega)]; exact c.c0
  · intro k hk; rw [Array.getElem?_setIfInBounds_ne (by omega)]; exact c.rd k hk
  · rw [Array.getElem?_setIfInBounds_ne (by omega)]; exact c.am
  · rw [Array.getElem?_setIfInBounds_ne (by omega)]; exact c.hd
  · intro k hk; rw [Array.getElem?_setIfInBounds_ne (by omega)]; exact c.dt k hk
  · rw [Array.getElem?_setIfInBounds_ne (by omega)]; exact c.mis
  · rw [Array.getElem?_setIfInBounds_self_of_lt (by omega)]
  · rw [Array.getElem?_setIfInBounds_ne (by omega)]; exact c.cl
  · rw [Array.getElem?_setIfInBounds_ne (by omega)]; exact c.th
/-- Closed. -/
theorem RefAt.setCl {r tb : Nat} {sl : Value} {B : Nat} {m : M} {w : World} (h : RefAt r tb sl B m w) (x : Bool) : RefAt r tb sl B { m with cl := x } (w.setCell ⟨r, 21, none⟩ (.bool x)) := by
  refine h.map _ _ rfl rfl rfl rfl fun cs c => ?_
  have hs := c.size
  refine ⟨?_, ?_, ?_, ?_, ?_, ?_, ?_, ?_, ?_, ?_⟩
  · simpa using hs
  · rw [Array.getElem?_setIfInBounds_ne (by omega)]; exact c.c0
  · intro k hk; rw [Array.getElem?_setIfInBounds_ne (by omega)]; exact c.rd k hk
  · rw [Array.getElem?_setIfInBounds_ne (by omega)]; exact c.am
  · rw [Array.getElem?_setIfInBounds_ne (by omega)]; exact c.hd
  · intro k hk; rw [Array.getElem?_setIfInBounds_ne (by omega)]; exact c.dt k hk
  · rw [Array.getElem?_setIfInBounds_ne (by omega)]; exact c.mis
  · rw [Array.getElem?_setIfInBounds_ne (by omega)]; exact c.hol
  · rw [Array.getElem?_setIfInBounds_self_of_lt (by omega)]
  · rw [Array.getElem?_setIfInBounds_ne (by omega)]; exact c.th
/-- One place of Dirty. -/
theorem RefAt.setDirty {r tb : Nat} {sl : Value} {B : Nat} {m : M} {w : World} (h : RefAt r tb sl B m w) {k : Nat} (hk : k < 8) (x : Int) : RefAt r tb sl B { m with dirty := put m.dirty k x } (w.setCell ⟨r, 11 + k, none⟩ (.int .i64 x)) := by
  refine h.map _ _ rfl rfl rfl rfl fun cs c => ?_
  have hs := c.size
  refine ⟨?_, ?_, ?_, ?_, ?_, ?_, ?_, ?_, ?_, ?_⟩
  · simpa using hs
  · rw [Array.getElem?_setIfInBounds_ne (by omega)]; exact c.c0
  · intro j hj; rw [Array.getElem?_setIfInBounds_ne (by omega)]; exact c.rd j hj
  · rw [Array.getElem?_setIfInBounds_ne (by omega)]; exact c.am
  · rw [Array.getElem?_setIfInBounds_ne (by omega)]; exact c.hd
  · intro j hj
    show _ = some (Value.int .i64 (put m.dirty k x j))
    by_cases hjk : j = k
    · subst hjk
      rw [put_same, Array.getElem?_setIfInBounds_self_of_lt (by omega)]
    · rw [put_other _ _ hjk, Array.getElem?_setIfInBounds_ne (by omega)]; exact c.dt j hj
  · rw [Array.getElem?_setIfInBounds_ne (by omega)]; exact c.mis
  · rw [Array.getElem?_setIfInBounds_ne (by omega)]; exact c.hol
  · rw [Array.getElem?_setIfInBounds_ne (by omega)]; exact c.cl
  · rw [Array.getElem?_setIfInBounds_ne (by omega)]; exact c.th
/-- One place of Read. -/
theorem RefAt.setRead {r tb : Nat} {sl : Value} {B : Nat} {m : M} {w : World} (h : RefAt r tb sl B m w) {k : Nat} (hk : k < 8) (x : Int) : RefAt r tb sl B { m with read := put m.read k x } (w.setCell ⟨r, 1 + k, none⟩ (.int .i64 x)) := by
  refine h.map _ _ rfl rfl rfl rfl fun cs c => ?_
  have hs := c.size
  refine ⟨?_, ?_, ?_, ?_, ?_, ?_, ?_, ?_, ?_, ?_⟩
  · simpa using hs
  · rw [Array.getElem?_setIfInBounds_ne (by omega)]; exact c.c0
  · intro j hj
    show _ = some (Value.int .i64 (put m.read k x j))
    by_cases hjk : j = k
    · subst hjk
      rw [put_same, Array.getElem?_setIfInBounds_self_of_lt (by omega)]
    · rw [put_other _ _ hjk, Array.getElem?_setIfInBounds_ne (by omega)]; exact c.rd j hj
  · rw [Array.getElem?_setIfInBounds_ne (by omega)]; exact c.am
  · rw [Array.getElem?_setIfInBounds_ne (by omega)]; exact c.hd
  · intro j hj; rw [Array.getElem?_setIfInBounds_ne (by omega)]; exact c.dt j hj
  · rw [Array.getElem?_setIfInBounds_ne (by omega)]; exact c.mis
  · rw [Array.getElem?_setIfInBounds_ne (by omega)]; exact c.hol
  · rw [Array.getElem?_setIfInBounds_ne (by omega)]; exact c.cl
  · rw [Array.getElem?_setIfInBounds_ne (by omega)]; exact c.th
end Go.Proofs.YtfgfpggjcfhccaaGreat
