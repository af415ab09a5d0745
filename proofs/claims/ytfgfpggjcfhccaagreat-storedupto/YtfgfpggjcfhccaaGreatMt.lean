import Derived.Test.YtfgfpggjcfhccaaGreatMs
namespace Go.Proofs.YtfgfpggjcfhccaaGreat
/-! The document's machine, whole. -/
/-- The first key from k on, at most n further, that a table has; else k + n. -/
def nextKey (f : Nat → Int) : Nat → Nat → Nat
  | 0, k => k
  | n + 1, k => if 0 ≤ f k then k else nextKey f n (k + 1)
theorem nextKey_le (f : Nat → Int) (n k : Nat) : k ≤ nextKey f n k ∧ nextKey f n k ≤ k + n := by
  induction n generalizing k with
  | zero => simp [nextKey]
  | succ n ih => simp only [nextKey]; split; omega; have := ih (k + 1); omega
theorem nextKey_has (f : Nat → Int) (n k : Nat) (h : nextKey f n k < k + n) : 0 ≤ f (nextKey f n k) := by
  induction n generalizing k with
  | zero => simp [nextKey] at h
  | succ n ih =>
    simp only [nextKey] at h ⊢
    split
    · assumption
    · rename_i hn
      rw [if_neg hn] at h
      exact ih (k + 1) (by omega)
/-- How Store's 9 and 10 end: the next key of READ from k on. -/
def M.scan (m : M) (i : Nat) (k : Nat) : Out :=
  if nextKey m.read (8 - k) k < 8 then (m.thr i { m.ths i with next := nextKey m.read (8 - k) k }).goes i 10
  else (m.thr i { m.ths i with next := nextKey m.read (8 - k) k }).goes i 11
def M.nxt (m : M) (i : Nat) : Nat := (m.ths i).next.toNat
/-- Store's 10, its entry. -/
def M.copied (m : M) (i : Nat) : M :=
  if (m.cells (m.read (m.nxt i)).toNat).st = 0 then { m with dirty := put m.dirty (m.nxt i) (m.read (m.nxt i)) }
  else if (m.cells (m.read (m.nxt i)).toNat).st = 1 then { m with cells := put m.cells (m.read (m.nxt i)).toNat ⟨2, 0⟩ }
  else m
def M.store (m : M) (i : Nat) : Out :=
  if (m.ths i).at_ = 1 then (m.sets i (m.read (m.key i))).goes i (if m.read (m.key i) < 0 then 4 else 2)
  else if (m.ths i).at_ = 2 then (m.sees i (m.cells (m.ths i).e.toNat).st (m.cells (m.ths i).e.toNat).v).goes i (if (m.cells (m.ths i).e.toNat).st = 2 then 4 else 3)
  else if (m.ths i).at_ = 3 then
    if (m.cells (m.ths i).e.toNat).st = (m.ths i).sst ∧ (m.cells (m.ths i).e.toNat).v = (m.ths i).sv then { m with cells := put m.cells (m.ths i).e.toNat ⟨0, (m.ths i).val⟩ }.ends i true (m.ths i).val
    else m.goes i 2
  else if (m.ths i).at_ = 5 then (m.sets i (m.read (m.key i))).goes i (if m.read (m.key i) < 0 then 8 else 6)
  else if (m.ths i).at_ = 6 then
    if (m.cells (m.ths i).e.toNat).st = 2 then { m with cells := put m.cells (m.ths i).e.toNat ⟨1, 0⟩ }.goes i 7 else m.goes i 13
  else if (m.ths i).at_ = 7 then { m with dirty := put m.dirty (m.key i) (m.ths i).e }.goes i 13
  else if (m.ths i).at_ = 8 then (m.sets i (m.dirty (m.key i))).goes i (if m.dirty (m.key i) < 0 then (if m.am then 12 else 9) else 13)
  else if (m.ths i).at_ = 9 then { m with hd := true, dirty := fun _ => -1 }.scan i 0
  else if (m.ths i).at_ = 10 then (m.copied i).scan i (m.nxt i + 1)
  else if (m.ths i).at_ = 11 then { m with am := true }.goes i 12
  else if (m.ths i).at_ = 12 then { m.adds 0 (m.ths i).val with dirty := put m.dirty (m.key i) m.nc }.goes i 14
  else if (m.ths i).at_ = 13 then { m with cells := put m.cells (m.ths i).e.toNat ⟨0, (m.ths i).val⟩ }.goes i 14
  else { m with hol := -1 }.ends i true (m.ths i).val
def M.remove (m : M) (i : Nat) : Out :=
  if (m.ths i).at_ = 1 then m.first i 8
  else if (m.ths i).at_ = 3 then m.third i 7
  else if (m.ths i).at_ = 4 then (m.sets i (m.dirty (m.key i))).goes i 5
  else if (m.ths i).at_ = 5 then { m with dirty := put m.dirty (m.key i) (-1) }.goes i 6
  else if (m.ths i).at_ = 6 ∨ (m.ths i).at_ = 61 ∨ (m.ths i).at_ = 62 ∨ (m.ths i).at_ = 63 then m.missed i 6 7
  else if (m.ths i).at_ = 7 then m.frees i 8
  else if (m.ths i).at_ = 8 then
    if (m.cells (m.ths i).e.toNat).st = 0 then (m.sees i (m.cells (m.ths i).e.toNat).st (m.cells (m.ths i).e.toNat).v).goes i 9
    else (m.sees i (m.cells (m.ths i).e.toNat).st (m.cells (m.ths i).e.toNat).v).ends i false 0
  else if (m.cells (m.ths i).e.toNat).st = (m.ths i).sst ∧ (m.cells (m.ths i).e.toNat).v = (m.ths i).sv then { m with cells := put m.cells (m.ths i).e.toNat ⟨1, 0⟩ }.ends i true (m.ths i).sv
  else m.goes i 8
def M.replace (m : M) (i : Nat) : Out :=
  if (m.ths i).at_ = 1 then m.first i 8
  else if (m.ths i).at_ = 3 then m.third i 7
  else if (m.ths i).at_ = 4 then (m.sets i (m.dirty (m.key i))).goes i (if m.dirty (m.key i) < 0 then 7 else 6)
  else if (m.ths i).at_ = 6 ∨ (m.ths i).at_ = 61 ∨ (m.ths i).at_ = 62 ∨ (m.ths i).at_ = 63 then m.missed i 6 7
  else if (m.ths i).at_ = 7 then m.frees i 8
  else if (m.ths i).at_ = 8 then
    if (m.cells (m.ths i).e.toNat).st = 0 ∧ (m.cells (m.ths i).e.toNat).v = (m.ths i).old then m.goes i 9 else m.ends i false 0
  else if (m.cells (m.ths i).e.toNat).st = 0 ∧ (m.cells (m.ths i).e.toNat).v = (m.ths i).old then { m with cells := put m.cells (m.ths i).e.toNat ⟨0, (m.ths i).val⟩ }.ends i true (m.ths i).old
  else m.goes i 8
/-- At which step the lock is taken. -/
def M.lockAt (m : M) (i : Nat) : Int := if (m.ths i).kind = 1 then 4 else 2
/-- A step of thread i, which is at something; none: it is blocked. -/
def M.does (m : M) (i : Nat) : Option Out :=
  if (m.ths i).at_ = m.lockAt i then
    if 0 ≤ m.hol then none else some ({ m with hol := i }.goes i (m.lockAt i + 1))
  else if (m.ths i).kind = 0 then some (m.load i)
  else if (m.ths i).kind = 1 then some (m.store i)
  else if (m.ths i).kind = 2 then some (m.remove i)
  else some (m.replace i)
/-- What a call answers: its error, its result, the machine behind it. -/
structure Ans where
  err : Int
  o : Out
def M.still (m : M) (e : Int) : Ans := ⟨e, false, false, 0, m⟩
def M.step (m : M) (n : Int) : Ans :=
  if m.cl = true then m.still 5
  else if n < 0 ∨ (m.nth : Int) ≤ n then m.still 1
  else if (m.ths n.toNat).at_ = 0 then m.still 3
  else match m.does n.toNat with
    | none => m.still 4
    | some o => ⟨0, o⟩
/-- What an operation must be. -/
def OpOk (kind key val old : Int) : Prop :=
  0 ≤ kind ∧ kind ≤ 3 ∧ 0 ≤ key ∧ key ≤ 7 ∧ (kind = 1 ∨ kind = 3 → 1 ≤ val ∧ val ≤ 1000) ∧ (kind = 3 → 1 ≤ old ∧ old ≤ 1000)
instance (kind key val old : Int) : Decidable (OpOk kind key val old) := by unfold OpOk; infer_instance
def M.begin (m : M) (n : Int) (kind key val old : Int) : Int × M :=
  if m.cl = true then (5, m)
  else if n < 0 ∨ (m.nth : Int) ≤ n ∨ ¬ OpOk kind key val old then (1, m)
  else if 0 < (m.ths n.toNat).at_ then (2, m)
  else (0, m.thr n.toNat ⟨kind, key, val, old, 1, -1, 0, 0, 0⟩)
end Go.Proofs.YtfgfpggjcfhccaaGreat
