import Derived.Test.YtfgfpggjcfhccaaGreatBase
import Derived.Test.YtfgfpggjcfhccaaGreatLocks
namespace Go.Proofs.YtfgfpggjcfhccaaGreat
open Go.RowKit

/-- Where a map of the program lies: its own block, its channel, what is shared, the row of threads, the threads. -/
structure PM where
  m : Nat
  c : Nat
  s : Nat
  tb : Nat
  cap : Nat
  ts : List Nat

/-- At what a thread is: nothing, or at the first step of a Load. -/
def thCells (i s t : Nat) : Option (Int × Int × Int) → Array Value
  | none => #[.int .i64 i, .pointer (some ⟨s, 0, none⟩), .int .i64 0, .int .i64 0, .int .i64 0, .int .i64 0, .pointer none, .int .i64 0, .int .i64 0, .int .i64 0, .nilFunc]
  | some (k, v, o) => #[.int .i64 i, .pointer (some ⟨s, 0, none⟩), .int .i64 0, .int .i64 k, .int .i64 v, .int .i64 o, .pointer none, .int .i64 0, .int .i64 0, .int .i64 0, .func (.func 68) #[.pointer (some ⟨t, 0, none⟩)] #[]]

def pmCells (p : PM) (lock : Int) : Array Value :=
  #[.int .i32 lock, .int .u32 0, .chan (some p.c), .pointer (some ⟨p.s, 0, none⟩), .slice (some ⟨p.tb, 0, none⟩) p.ts.length p.cap]

def shCells : Array Value :=
  #[.pointer none, .pointer none, .pointer none, .pointer none, .pointer none, .pointer none, .pointer none, .pointer none, .bool false,
    .pointer none, .pointer none, .pointer none, .pointer none, .pointer none, .pointer none, .pointer none, .pointer none, .bool false,
    .int .i64 0, .int .i64 (-1)]

/-- A map without keys; 'lock': the state word of the calls' lock. -/
structure PAt (p : PM) (lock : Int) (w : World) (cl : Bool) (th : Nat → Option (Int × Int × Int)) : Prop where
  len : p.ts.length ≤ 6
  cap : p.ts.length ≤ p.cap
  m : w.heap[p.m]? = some (.cells (pmCells p lock) 78 (0, 0))
  c : w.heap[p.c]? = some (.chan 0 #[] cl 0 0 false)
  s : w.heap[p.s]? = some (.cells shCells 111 (0, 0))
  tb : ∃ cs : Array Value, w.heap[p.tb]? = some (.cells cs 79 (0, 0)) ∧ ∀ (i t : Nat), p.ts[i]? = some t → cs[i]? = some (.pointer (some ⟨t, 0, none⟩))
  ts : ∀ (i t : Nat), p.ts[i]? = some t → w.heap[t]? = some (.cells (thCells i p.s t (th i)) 116 (0, 0))

/-- Nothing of a map stands in F. -/
structure PM.off (p : PM) (F : List Nat) : Prop where
  m : p.m ∉ F
  c : p.c ∉ F
  s : p.s ∉ F
  tb : p.tb ∉ F
  ts : ∀ (i t : Nat), p.ts[i]? = some t → t ∉ F

theorem PAt.kept {p : PM} {l : Int} {w w' : World} {cl : Bool} {th : Nat → Option (Int × Int × Int)} {F : List Nat} (h : PAt p l w cl th) (k : Kept F w w') (hF : p.off F) : PAt p l w' cl th := by
  obtain ⟨cs, h1, h2⟩ := h.tb
  exact ⟨h.len, h.cap, k.at h.m hF.m, k.at h.c hF.c, k.at h.s hF.s, ⟨cs, k.at h1 hF.tb, h2⟩, fun i t hi => k.at (h.ts i t hi) (hF.ts i t hi)⟩
theorem PAt.keptNil {p : PM} {l : Int} {w w' : World} {cl : Bool} {th : Nat → Option (Int × Int × Int)} (h : PAt p l w cl th) (k : Kept [] w w') : PAt p l w' cl th :=
  h.kept k ⟨by simp, by simp, by simp, by simp, fun _ _ _ => by simp⟩
theorem PAt.alloc {p : PM} {l : Int} {w : World} {cl : Bool} {th : Nat → Option (Int × Int × Int)} (h : PAt p l w cl th) (o : Obj) : PAt p l (w.alloc o) cl th :=
  h.keptNil ((Kept.refl [] w).alloc o)
theorem PAt.drew {p : PM} {l : Int} {w : World} {cl : Bool} {th : Nat → Option (Int × Int × Int)} (h : PAt p l w cl th) : PAt p l w.drew cl th :=
  h.keptNil (Kept.refl [] w).drew
/-- The lock's word is another. -/
theorem PAt.lock {p : PM} {l : Int} {w : World} {cl : Bool} {th : Nat → Option (Int × Int × Int)} (h : PAt p l w cl th) (l' : Int) : PAt p l' (w.setCell ⟨p.m, 0, none⟩ (.int .i32 l')) cl th := by
  obtain ⟨cs, h1, h2⟩ := h.tb
  refine ⟨h.len, h.cap, ?_, ?_, ?_, ⟨cs, ?_, h2⟩, fun i t hi => ?_⟩
  · rw [block_set_same h.m]; simp [pmCells]
  · exact block_set_ne h.c (ne_of_blocks h.c h.m (by simp)) _ _
  · exact block_set_ne h.s (ne_of_blocks h.s h.m (by simp)) _ _
  · exact block_set_ne h1 (ne_of_blocks h1 h.m (by simp)) _ _
  · exact block_set_ne (h.ts i t hi) (ne_of_blocks (h.ts i t hi) h.m (by simp)) _ _
/-- A cell of a block that is none of the map's. -/
theorem PAt.set {p : PM} {l : Int} {w : World} {cl : Bool} {th : Nat → Option (Int × Int × Int)} (h : PAt p l w cl th) {b : Nat} {cs : Array Value} {T : TypeId} {z : Nat × Nat}
    (hb : w.heap[b]? = some (.cells cs T z)) (h1 : T ≠ 78) (h2 : T ≠ 111) (h3 : T ≠ 79) (h4 : T ≠ 116) (o : Nat) (v : Value) : PAt p l (w.setCell ⟨b, o, none⟩ v) cl th := by
  obtain ⟨cs', g1, g2⟩ := h.tb
  refine ⟨h.len, h.cap, ?_, ?_, ?_, ⟨cs', ?_, g2⟩, fun i t hi => ?_⟩
  · exact block_set_ne h.m (ne_of_blocks h.m hb (by intro e; injection e with _ e2 _; exact h1 e2.symm)) _ _
  · exact block_set_ne h.c (ne_of_blocks h.c hb (by simp)) _ _
  · exact block_set_ne h.s (ne_of_blocks h.s hb (by intro e; injection e with _ e2 _; exact h2 e2.symm)) _ _
  · exact block_set_ne g1 (ne_of_blocks g1 hb (by intro e; injection e with _ e2 _; exact h3 e2.symm)) _ _
  · exact block_set_ne (h.ts i t hi) (ne_of_blocks (h.ts i t hi) hb (by intro e; injection e with _ e2 _; exact h4 e2.symm)) _ _
theorem PAt.nth {p : PM} {l : Int} {w : World} {cl : Bool} {th : Nat → Option (Int × Int × Int)} (h : PAt p l w cl th) {i : Nat} (hi : i < p.ts.length) :
    ∃ t, p.ts[i]? = some t ∧ w.cell? ⟨p.tb, i, none⟩ = some (.pointer (some ⟨t, 0, none⟩)) ∧ w.heap[t]? = some (.cells (thCells i p.s t (th i)) 116 (0, 0)) := by
  obtain ⟨cs, h1, h2⟩ := h.tb
  have e : p.ts[i]? = some p.ts[i] := List.getElem?_eq_getElem hi
  exact ⟨p.ts[i], e, by rw [cell_of h1]; exact h2 i _ e, h.ts i _ e⟩
end Go.Proofs.YtfgfpggjcfhccaaGreat
