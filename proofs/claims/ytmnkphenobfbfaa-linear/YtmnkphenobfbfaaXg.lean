import Derived.Test.YtmnkphenobfbfaaGa
namespace Go.Proofs.Ytmnkphenobfbfaa
/-! The document's machine: all that knows no program. -/
/-- An entry: how it stands with it, and its value. -/
structure Cel where
  st : Int
  v : Int
/-- What a thread is at (at_ 0: nothing). -/
structure Thr where
  kind : Int
  key : Int
  val : Int
  old : Int
  at_ : Int
  e : Int
  sst : Int
  sv : Int
  next : Int
/-- All that is shared, and the threads. -/
structure M where
  nc : Nat
  cells : Nat → Cel
  read : Nat → Int
  am : Bool
  hd : Bool
  dirty : Nat → Int
  mis : Int
  hol : Int
  cl : Bool
  nth : Nat
  ths : Nat → Thr
def put {α : Type} (f : Nat → α) (i : Nat) (x : α) : Nat → α := fun j => if j = i then x else f j
theorem put_same {α : Type} (f : Nat → α) (i : Nat) (x : α) : put f i x i = x := by simp [put]
theorem put_other {α : Type} (f : Nat → α) {i j : Nat} (x : α) (h : j ≠ i) : put f i x j = f j := by simp [put, h]
def M.thr (m : M) (i : Nat) (t : Thr) : M := { m with ths := put m.ths i t }
theorem put_put {α : Type} (f : Nat → α) (i : Nat) (x y : α) : put (put f i x) i y = put f i y := by
  funext j
  by_cases h : j = i <;> simp [put, h]
theorem thr_thr (m : M) (i : Nat) (s t : Thr) : (m.thr i s).thr i t = m.thr i t := by
  simp [M.thr, put_put]
theorem thr_ths (m : M) (i : Nat) (t : Thr) : (m.thr i t).ths i = t := put_same _ _ _
/-- How many of a table's first n keys it has. -/
def cnt (f : Nat → Int) : Nat → Nat
  | 0 => 0
  | n + 1 => cnt f n + if 0 ≤ f n then 1 else 0
theorem cnt_le (f : Nat → Int) (n : Nat) : cnt f n ≤ n := by
  induction n with
  | zero => simp [cnt]
  | succ n ih => simp only [cnt]; split <;> omega
/-- What a step answers, and the machine behind it. -/
structure Out where
  d : Bool
  f : Bool
  v : Int
  m : M
def M.goes (m : M) (i : Nat) (a : Int) : Out := ⟨false, false, 0, m.thr i { m.ths i with at_ := a }⟩
def M.ends (m : M) (i : Nat) (f : Bool) (v : Int) : Out := ⟨true, f, v, m.thr i { m.ths i with at_ := 0 }⟩
/-- The thread's entry is e now. -/
def M.sets (m : M) (i : Nat) (e : Int) : M := m.thr i { m.ths i with e := e }
def M.key (m : M) (i : Nat) : Nat := (m.ths i).key.toNat
def M.first (m : M) (i : Nat) (entry : Int) : Out :=
  if 0 ≤ m.read (m.key i) then (m.sets i (m.read (m.key i))).goes i entry
  else if m.am then (m.sets i (m.read (m.key i))).goes i 2 else (m.sets i (m.read (m.key i))).ends i false 0
def M.third (m : M) (i : Nat) (free : Int) : Out :=
  if 0 ≤ m.read (m.key i) then (m.sets i (m.read (m.key i))).goes i free
  else if m.am then (m.sets i (m.read (m.key i))).goes i 4 else (m.sets i (m.read (m.key i))).goes i free
def M.frees (m : M) (i : Nat) (entry : Int) : Out :=
  if (m.ths i).e < 0 then { m with hol := -1 }.ends i false 0 else { m with hol := -1 }.goes i entry
def M.missed (m : M) (i : Nat) (a free : Int) : Out :=
  if (m.ths i).at_ = 10 * a + 1 then { m with read := m.dirty, am := false }.goes i (10 * a + 2)
  else if (m.ths i).at_ = 10 * a + 2 then { m with hd := false, dirty := fun _ => -1 }.goes i (10 * a + 3)
  else if (m.ths i).at_ = 10 * a + 3 then { m with mis := 0 }.goes i free
  else if m.mis + 1 < cnt m.dirty 8 then { m with mis := m.mis + 1 }.goes i free else { m with mis := m.mis + 1 }.goes i (10 * a + 1)
theorem sets_thr (m : M) (i : Nat) (e a : Int) : (m.sets i e).thr i { (m.sets i e).ths i with at_ := a } = m.thr i { m.ths i with e := e, at_ := a } := by
  simp only [M.sets, thr_thr, thr_ths]
def M.load (m : M) (i : Nat) : Out :=
  if (m.ths i).at_ = 1 then m.first i 7
  else if (m.ths i).at_ = 3 then m.third i 6
  else if (m.ths i).at_ = 4 then (m.sets i (m.dirty (m.key i))).goes i 5
  else if (m.ths i).at_ = 5 ∨ (m.ths i).at_ = 51 ∨ (m.ths i).at_ = 52 ∨ (m.ths i).at_ = 53 then m.missed i 5 6
  else if (m.ths i).at_ = 6 then m.frees i 7
  else m.ends i ((m.cells (m.ths i).e.toNat).st == 0) (m.cells (m.ths i).e.toNat).v
/-- The thread has seen an entry. -/
def M.sees (m : M) (i : Nat) (x y : Int) : M := m.thr i { m.ths i with sst := x, sv := y }
/-- One more entry, in whatever block the row lies now. -/
def M.adds (m : M) (x y : Int) : M := { m with nc := m.nc + 1, cells := put m.cells m.nc ⟨x, y⟩ }
/-! The document's machine, whole. -/
/-- The first key from k on, at most n further, that a table has; else k + n. -/
def nextKey (f : Nat → Int) : Nat → Nat → Nat
  | 0, k => k
  | n + 1, k => if 0 ≤ f k then k else nextKey f n (k + 1)
theorem nextKey_le (f : Nat → Int) (n k : Nat) : k ≤ nextKey f n k ∧ nextKey f n k ≤ k + n := by
  induction n generalizing k with
  | zero => simp [nextKey]
  | succ n ih => simp only [nextKey]; split; omega; have := ih (k + 1); omega
theorem nextKey_has (f : Nat → Int) (n k : Nat) (h : nextKey f n k < k + n) : 0 ≤ f (nextKey f n k) := by
  induction n generalizing k with
  | zero => simp [nextKey] at h
  | succ n ih =>
    simp only [nextKey] at h ⊢
    split
    · assumption
    · rename_i hn
      rw [if_neg hn] at h
      exact ih (k + 1) (by omega)
/-- How Store's 9 and 10 end: the next key of READ from k on. -/
def M.scan (m : M) (i : Nat) (k : Nat) : Out :=
  if nextKey m.read (8 - k) k < 8 then (m.thr i { m.ths i with next := nextKey m.read (8 - k) k }).goes i 10
  else (m.thr i { m.ths i with next := nextKey m.read (8 - k) k }).goes i 11
def M.nxt (m : M) (i : Nat) : Nat := (m.ths i).next.toNat
/-- Store's 10, its entry. -/
def M.copied (m : M) (i : Nat) : M :=
  if (m.cells (m.read (m.nxt i)).toNat).st = 0 then { m with dirty := put m.dirty (m.nxt i) (m.read (m.nxt i)) }
  else if (m.cells (m.read (m.nxt i)).toNat).st = 1 then { m with cells := put m.cells (m.read (m.nxt i)).toNat ⟨2, 0⟩ }
  else m
def M.store (m : M) (i : Nat) : Out :=
  if (m.ths i).at_ = 1 then (m.sets i (m.read (m.key i))).goes i (if m.read (m.key i) < 0 then 4 else 2)
  else if (m.ths i).at_ = 2 then (m.sees i (m.cells (m.ths i).e.toNat).st (m.cells (m.ths i).e.toNat).v).goes i (if (m.cells (m.ths i).e.toNat).st = 2 then 4 else 3)
  else if (m.ths i).at_ = 3 then
    if (m.cells (m.ths i).e.toNat).st = (m.ths i).sst ∧ (m.cells (m.ths i).e.toNat).v = (m.ths i).sv then { m with cells := put m.cells (m.ths i).e.toNat ⟨0, (m.ths i).val⟩ }.ends i true (m.ths i).val
    else m.goes i 2
  else if (m.ths i).at_ = 5 then (m.sets i (m.read (m.key i))).goes i (if m.read (m.key i) < 0 then 8 else 6)
  else if (m.ths i).at_ = 6 then
    if (m.cells (m.ths i).e.toNat).st = 2 then { m with cells := put m.cells (m.ths i).e.toNat ⟨1, 0⟩ }.goes i 7 else m.goes i 13
  else if (m.ths i).at_ = 7 then { m with dirty := put m.dirty (m.key i) (m.ths i).e }.goes i 13
  else if (m.ths i).at_ = 8 then (m.sets i (m.dirty (m.key i))).goes i (if m.dirty (m.key i) < 0 then (if m.am then 12 else 9) else 13)
  else if (m.ths i).at_ = 9 then { m with hd := true, dirty := fun _ => -1 }.scan i 0
  else if (m.ths i).at_ = 10 then (m.copied i).scan i (m.nxt i + 1)
  else if (m.ths i).at_ = 11 then { m with am := true }.goes i 12
  else if (m.ths i).at_ = 12 then { m.adds 0 (m.ths i).val with dirty := put m.dirty (m.key i) m.nc }.goes i 14
  else if (m.ths i).at_ = 13 then { m with cells := put m.cells (m.ths i).e.toNat ⟨0, (m.ths i).val⟩ }.goes i 14
  else { m with hol := -1 }.ends i true (m.ths i).val
def M.remove (m : M) (i : Nat) : Out :=
  if (m.ths i).at_ = 1 then m.first i 8
  else if (m.ths i).at_ = 3 then m.third i 7
  else if (m.ths i).at_ = 4 then (m.sets i (m.dirty (m.key i))).goes i 5
  else if (m.ths i).at_ = 5 then { m with dirty := put m.dirty (m.key i) (-1) }.goes i 6
  else if (m.ths i).at_ = 6 ∨ (m.ths i).at_ = 61 ∨ (m.ths i).at_ = 62 ∨ (m.ths i).at_ = 63 then m.missed i 6 7
  else if (m.ths i).at_ = 7 then m.frees i 8
  else if (m.ths i).at_ = 8 then
    if (m.cells (m.ths i).e.toNat).st = 0 then (m.sees i (m.cells (m.ths i).e.toNat).st (m.cells (m.ths i).e.toNat).v).goes i 9
    else (m.sees i (m.cells (m.ths i).e.toNat).st (m.cells (m.ths i).e.toNat).v).ends i false 0
  else if (m.cells (m.ths i).e.toNat).st = (m.ths i).sst ∧ (m.cells (m.ths i).e.toNat).v = (m.ths i).sv then { m with cells := put m.cells (m.ths i).e.toNat ⟨1, 0⟩ }.ends i true (m.ths i).sv
  else m.goes i 8
def M.replace (m : M) (i : Nat) : Out :=
  if (m.ths i).at_ = 1 then m.first i 8
  else if (m.ths i).at_ = 3 then m.third i 7
  else if (m.ths i).at_ = 4 then (m.sets i (m.dirty (m.key i))).goes i (if m.dirty (m.key i) < 0 then 7 else 6)
  else if (m.ths i).at_ = 6 ∨ (m.ths i).at_ = 61 ∨ (m.ths i).at_ = 62 ∨ (m.ths i).at_ = 63 then m.missed i 6 7
  else if (m.ths i).at_ = 7 then m.frees i 8
  else if (m.ths i).at_ = 8 then
    if (m.cells (m.ths i).e.toNat).st = 0 ∧ (m.cells (m.ths i).e.toNat).v = (m.ths i).old then m.goes i 9 else m.ends i false 0
  else if (m.cells (m.ths i).e.toNat).st = 0 ∧ (m.cells (m.ths i).e.toNat).v = (m.ths i).old then { m with cells := put m.cells (m.ths i).e.toNat ⟨0, (m.ths i).val⟩ }.ends i true (m.ths i).old
  else m.goes i 8
/-- At which step the lock is taken. -/
def M.lockAt (m : M) (i : Nat) : Int := if (m.ths i).kind = 1 then 4 else 2
/-- A step of thread i, which is at something; none: it is blocked. -/
def M.does (m : M) (i : Nat) : Option Out :=
  if (m.ths i).at_ = m.lockAt i then
    if 0 ≤ m.hol then none else some ({ m with hol := i }.goes i (m.lockAt i + 1))
  else if (m.ths i).kind = 0 then some (m.load i)
  else if (m.ths i).kind = 1 then some (m.store i)
  else if (m.ths i).kind = 2 then some (m.remove i)
  else some (m.replace i)
/-- What a call answers: its error, its result, the machine behind it. -/
structure Ans where
  err : Int
  o : Out
def M.still (m : M) (e : Int) : Ans := ⟨e, false, false, 0, m⟩
def M.step (m : M) (n : Int) : Ans :=
  if m.cl = true then m.still 5
  else if n < 0 ∨ (m.nth : Int) ≤ n then m.still 1
  else if (m.ths n.toNat).at_ = 0 then m.still 3
  else match m.does n.toNat with
    | none => m.still 4
    | some o => ⟨0, o⟩
/-- What an operation must be. -/
def OpOk (kind key val old : Int) : Prop :=
  0 ≤ kind ∧ kind ≤ 3 ∧ 0 ≤ key ∧ key ≤ 7 ∧ (kind = 1 ∨ kind = 3 → 1 ≤ val ∧ val ≤ 1000) ∧ (kind = 3 → 1 ≤ old ∧ old ≤ 1000)
instance (kind key val old : Int) : Decidable (OpOk kind key val old) := by unfold OpOk; infer_instance
def M.begin (m : M) (n : Int) (kind key val old : Int) : Int × M :=
  if m.cl = true then (5, m)
  else if n < 0 ∨ (m.nth : Int) ≤ n ∨ ¬ OpOk kind key val old then (1, m)
  else if 0 < (m.ths n.toNat).at_ then (2, m)
  else (0, m.thr n.toNat ⟨kind, key, val, old, 1, -1, 0, 0, 0⟩)
end Go.Proofs.Ytmnkphenobfbfaa
namespace Go.Proofs.Ytmnkphenobfbfaa
/-! What must be of the machine, and that each step keeps it. -/
/-- Which steps hold the lock. -/
def Locked (kind a : Int) : Prop :=
  (kind = 1 ∧ 5 ≤ a) ∨ (kind = 0 ∧ ((3 ≤ a ∧ a ≤ 6) ∨ 51 ≤ a)) ∨ (2 ≤ kind ∧ ((3 ≤ a ∧ a ≤ 7) ∨ 61 ≤ a))
/-- At which steps an operation can be. -/
def AtOk (kind a : Int) : Prop :=
  (kind = 0 ∧ ((1 ≤ a ∧ a ≤ 7) ∨ (51 ≤ a ∧ a ≤ 53))) ∨ (kind = 1 ∧ 1 ≤ a ∧ a ≤ 14) ∨ (kind = 2 ∧ ((1 ≤ a ∧ a ≤ 9) ∨ (61 ≤ a ∧ a ≤ 63))) ∨
    (kind = 3 ∧ ((1 ≤ a ∧ a ≤ 4) ∨ (6 ≤ a ∧ a ≤ 9) ∨ (61 ≤ a ∧ a ≤ 63)))
/-- Steps that want an entry. -/
def NeedsE (kind a : Int) : Prop := (kind = 0 ∧ a = 7) ∨ (kind = 1 ∧ (a = 2 ∨ a = 3 ∨ a = 6 ∨ a = 7 ∨ a = 13)) ∨ (2 ≤ kind ∧ (a = 8 ∨ a = 9))
structure ThOk (m : M) (t : Thr) : Prop where
  op : OpOk t.kind t.key t.val t.old
  ak : AtOk t.kind t.at_
  e : -1 ≤ t.e ∧ t.e < m.nc
  ne : NeedsE t.kind t.at_ → 0 ≤ t.e
  nx : t.kind = 1 → t.at_ = 10 → 0 ≤ t.next ∧ t.next < 8 ∧ 0 ≤ m.read t.next.toNat
def CelOk (c : Cel) : Prop := (c.st = 0 ∧ 1 ≤ c.v ∧ c.v ≤ 1000) ∨ (c.st = 1 ∧ c.v = 0) ∨ (c.st = 2 ∧ c.v = 0)
structure M.Inv (m : M) : Prop where
  hol : -1 ≤ m.hol ∧ m.hol < m.nth
  lock : ∀ i, i < m.nth → (Locked (m.ths i).kind (m.ths i).at_ ↔ m.hol = i)
  th : ∀ i, i < m.nth → (m.ths i).at_ = 0 ∨ ThOk m (m.ths i)
  rd : ∀ k, k < 8 → -1 ≤ m.read k ∧ m.read k < m.nc
  dt : ∀ k, k < 8 → -1 ≤ m.dirty k ∧ m.dirty k < m.nc
  cel : ∀ j, j < m.nc → CelOk (m.cells j)
  mis : 0 ≤ m.mis ∧ (m.mis ≤ 7 ∨ (m.mis ≤ 8 ∧ 0 ≤ m.hol ∧ 51 ≤ (m.ths m.hol.toNat).at_))
theorem not_locked0 (kind : Int) : ¬ Locked kind 0 := by unfold Locked; omega
/-- A step of thread i keeps what must be. -/
theorem M.Inv.go {m : M} (h : m.Inv) {i : Nat} (hi : i < m.nth) (m' : M) (t' : Thr) (e1 : m'.nth = m.nth) (e2 : m'.ths = put m.ths i t') (e3 : m.nc ≤ m'.nc)
    (ok : t'.at_ = 0 ∨ ThOk m' t')
    (lk : (m'.hol = m.hol ∧ (Locked t'.kind t'.at_ ↔ Locked (m.ths i).kind (m.ths i).at_)) ∨ (m.hol < 0 ∧ m'.hol = i ∧ Locked t'.kind t'.at_) ∨ (m.hol = i ∧ m'.hol = -1 ∧ ¬ Locked t'.kind t'.at_))
    (rd : ∀ k, k < 8 → -1 ≤ m'.read k ∧ m'.read k < m'.nc) (dt : ∀ k, k < 8 → -1 ≤ m'.dirty k ∧ m'.dirty k < m'.nc) (cel : ∀ j, j < m'.nc → CelOk (m'.cells j))
    (mis : 0 ≤ m'.mis ∧ (m'.mis ≤ 7 ∨ (m'.mis ≤ 8 ∧ m'.hol = i ∧ 51 ≤ t'.at_)) ∨ (m'.mis = m.mis ∧ ¬ m.hol = i))
    (rs : (∀ k, m'.read k = m.read k) ∨ m.hol = i) : m'.Inv := by
  have hl := h.lock i hi
  refine ⟨?_, fun j hj => ?_, fun j hj => ?_, rd, dt, cel, ?_⟩
  · have := h.hol
    rw [e1]
    rcases lk with ⟨a, _⟩ | ⟨_, a, _⟩ | ⟨_, a, _⟩ <;> rw [a] <;> omega
  · rw [e1] at hj
    have hlj := h.lock j hj
    rw [e2]
    by_cases hji : j = i
    · subst hji
      rw [put_same]
      rcases lk with ⟨a, b⟩ | ⟨a, b, c⟩ | ⟨a, b, c⟩
      · rw [a, b]; exact hl
      · rw [b]; simp [c]
      · rw [b]
        constructor
        · intro hh; exact absurd hh c
        · intro hh; omega
    · rw [put_other _ _ hji]
      rcases lk with ⟨a, b⟩ | ⟨a, b, c⟩ | ⟨a, b, c⟩
      · rw [a]; exact hlj
      · rw [b, hlj]; constructor <;> intro hh <;> omega
      · rw [b, hlj]; constructor <;> intro hh <;> omega
  · rw [e1] at hj
    rw [e2]
    by_cases hji : j = i
    · subst hji
      rw [put_same]; exact ok
    · rw [put_other _ _ hji]
      rcases h.th j hj with a | a
      · exact .inl a
      · refine .inr ⟨a.op, a.ak, ⟨a.e.1, by have := a.e.2; omega⟩, a.ne, fun hk ha => ?_⟩
        have hn := a.nx hk ha
        rcases rs with r | r
        · rw [r]; exact hn
        · have hlj := (h.lock j hj).1 (by unfold Locked; omega)
          omega
  · rcases mis with ⟨a, b⟩ | ⟨a, b⟩
    · refine ⟨a, ?_⟩
      rcases b with b | ⟨b, c, d⟩
      · exact .inl b
      · refine .inr ⟨b, by omega, ?_⟩
        rw [c, e2, Int.toNat_natCast, put_same]; exact d
    · have hm := h.mis
      rw [a]
      refine ⟨hm.1, ?_⟩
      rcases hm.2 with c | ⟨c, d, e⟩
      · exact .inl c
      · refine .inr ⟨c, ?_⟩
        have hh : m'.hol = m.hol := by
          rcases lk with ⟨x, _⟩ | ⟨x, _, _⟩ | ⟨x, _, _⟩
          · exact x
          · omega
          · exact absurd x b
        rw [hh, e2, put_other _ _ (by omega)]
        exact ⟨d, e⟩
theorem M.Inv.misA {m : M} (h : m.Inv) {i : Nat} (hat : (m.ths i).at_ < 51) (x y : Int) :
    0 ≤ m.mis ∧ (m.mis ≤ 7 ∨ (m.mis ≤ 8 ∧ y = i ∧ 51 ≤ x)) ∨ (m.mis = m.mis ∧ ¬ m.hol = i) := by
  by_cases hh : m.hol = i
  · left
    refine ⟨h.mis.1, ?_⟩
    rcases h.mis.2 with a | ⟨_, _, c⟩
    · exact .inl a
    · rw [hh, Int.toNat_natCast] at c; omega
  · exact .inr ⟨rfl, hh⟩
theorem M.Inv.keyLt {m : M} {i : Nat} (ho : ThOk m (m.ths i)) : m.key i < 8 := by
  have := ho.op
  unfold OpOk at this
  unfold M.key
  omega
/-- A step that sets but the thread. -/
theorem M.Inv.thr {m : M} (h : m.Inv) {i : Nat} (hi : i < m.nth) (hat : (m.ths i).at_ < 51) (t : Thr) (ok : t.at_ = 0 ∨ ThOk m t) (lk : Locked t.kind t.at_ ↔ Locked (m.ths i).kind (m.ths i).at_) : (m.thr i t).Inv := by
  refine h.go hi (m.thr i t) t rfl rfl (Nat.le_refl _) ?_ (.inl ⟨rfl, lk⟩) h.rd h.dt h.cel (h.misA hat _ _) (.inl fun _ => rfl)
  rcases ok with a | a
  · exact .inl a
  · exact .inr ⟨a.op, a.ak, a.e, a.ne, a.nx⟩
theorem inv_first {m : M} (h : m.Inv) {i : Nat} (hi : i < m.nth) (ho : ThOk m (m.ths i)) (hat : (m.ths i).at_ = 1) (entry : Int) (hk : ((m.ths i).kind = 0 ∧ entry = 7) ∨ (2 ≤ (m.ths i).kind ∧ entry = 8)) : (m.first i entry).m.Inv := by
  have hr := h.rd _ (M.Inv.keyLt ho)
  have hop := ho.op
  unfold OpOk at hop
  unfold M.first
  split
  · rename_i he
    simp only [M.goes, sets_thr]
    refine h.thr hi (by omega) _ (.inr ⟨ho.op, ?_, hr, fun _ => he, ?_⟩) ?_
    · show AtOk _ _; unfold AtOk; simp only; omega
    · intro a b; simp only at a b; omega
    · simp only; unfold Locked; omega
  · split
    · simp only [M.goes, sets_thr]
      refine h.thr hi (by omega) _ (.inr ⟨ho.op, ?_, hr, ?_, ?_⟩) ?_
      · show AtOk _ _; unfold AtOk; simp only; omega
      · simp only; unfold NeedsE; omega
      · intro a b; simp only at a b; omega
      · simp only; unfold Locked; omega
    · simp only [M.ends, sets_thr]
      refine h.thr hi (by omega) _ (.inl rfl) ?_
      simp only; unfold Locked; omega
theorem inv_third {m : M} (h : m.Inv) {i : Nat} (hi : i < m.nth) (ho : ThOk m (m.ths i)) (hat : (m.ths i).at_ = 3) (free : Int) (hk : ((m.ths i).kind = 0 ∧ free = 6) ∨ (2 ≤ (m.ths i).kind ∧ free = 7)) : (m.third i free).m.Inv := by
  have hr := h.rd _ (M.Inv.keyLt ho)
  have hop := ho.op
  unfold OpOk at hop
  unfold M.third
  have key : ∀ a : Int, a = free ∨ a = 4 → (m.thr i { m.ths i with e := m.read (m.key i), at_ := a }).Inv := by
    intro a ha
    refine h.thr hi (by omega) _ (.inr ⟨ho.op, ?_, hr, ?_, ?_⟩) ?_
    · show AtOk _ _; unfold AtOk; simp only; omega
    · simp only; unfold NeedsE; omega
    · intro a b; simp only at a b; omega
    · simp only; unfold Locked; omega
  split
  · simp only [M.goes, sets_thr]; exact key _ (.inl rfl)
  · split
    · simp only [M.goes, sets_thr]; exact key _ (.inr rfl)
    · simp only [M.goes, sets_thr]; exact key _ (.inl rfl)
theorem holds {m : M} (h : m.Inv) {i : Nat} (hi : i < m.nth) (hl : Locked (m.ths i).kind (m.ths i).at_) : m.hol = i := (h.lock i hi).1 hl
theorem inv_frees {m : M} (h : m.Inv) {i : Nat} (hi : i < m.nth) (ho : ThOk m (m.ths i)) (entry : Int) (hk : ((m.ths i).kind = 0 ∧ entry = 7 ∧ (m.ths i).at_ = 6) ∨ (2 ≤ (m.ths i).kind ∧ entry = 8 ∧ (m.ths i).at_ = 7)) : (m.frees i entry).m.Inv := by
  have hop := ho.op
  unfold OpOk at hop
  have hh := holds h hi (by unfold Locked; omega)
  unfold M.frees
  split
  · refine h.go hi _ { m.ths i with at_ := 0 } rfl rfl (Nat.le_refl _) (.inl rfl) (.inr (.inr ⟨hh, rfl, not_locked0 _⟩)) h.rd h.dt h.cel (h.misA (by omega) _ _) (.inl fun _ => rfl)
  · rename_i he
    refine h.go hi _ { m.ths i with at_ := entry } rfl rfl (Nat.le_refl _) (.inr ⟨ho.op, ?_, ho.e, fun _ => ?_, ?_⟩) (.inr (.inr ⟨hh, rfl, ?_⟩)) h.rd h.dt h.cel (h.misA (by omega) _ _) (.inl fun _ => rfl)
    · show AtOk _ _; unfold AtOk; simp only; omega
    · exact Int.not_lt.1 he
    · intro a b; simp only at a b; omega
    · simp only; unfold Locked; omega
theorem cnt_pos_le (f : Nat → Int) : (cnt f 8 : Int) ≤ 8 := by have := cnt_le f 8; omega
theorem kind23 {m : M} {t : Thr} (ho : ThOk m t) (h : 2 ≤ t.kind) : t.kind = 2 ∨ t.kind = 3 := by
  have := ho.op
  unfold OpOk at this
  omega
theorem missed_ok {kind a free x : Int} (hk : (kind = 0 ∧ a = 5 ∧ free = 6) ∨ (kind = 2 ∧ a = 6 ∧ free = 7) ∨ (kind = 3 ∧ a = 6 ∧ free = 7)) (hx : x = a ∨ x = free ∨ x = 10 * a + 1 ∨ x = 10 * a + 2 ∨ x = 10 * a + 3) :
    AtOk kind x ∧ ¬ NeedsE kind x ∧ ¬ kind = 1 ∧ Locked kind x := by
  rcases hk with ⟨rfl, rfl, rfl⟩ | ⟨rfl, rfl, rfl⟩ | ⟨rfl, rfl, rfl⟩ <;> rcases hx with rfl | rfl | rfl | rfl | rfl <;> simp [AtOk, NeedsE, Locked]
theorem inv_missed {m : M} (h : m.Inv) {i : Nat} (hi : i < m.nth) (ho : ThOk m (m.ths i)) (a free : Int) (hk : ((m.ths i).kind = 0 ∧ a = 5 ∧ free = 6) ∨ ((m.ths i).kind = 2 ∧ a = 6 ∧ free = 7) ∨ ((m.ths i).kind = 3 ∧ a = 6 ∧ free = 7))
    (hat : (m.ths i).at_ = a ∨ (m.ths i).at_ = 10 * a + 1 ∨ (m.ths i).at_ = 10 * a + 2 ∨ (m.ths i).at_ = 10 * a + 3) : (m.missed i a free).m.Inv := by
  have hl := (missed_ok hk (x := (m.ths i).at_) (by rcases hat with e | e | e | e <;> simp [e])).2.2.2
  have hh := holds h hi hl
  have hm := h.mis
  have ha56 : a = 5 ∨ a = 6 := by rcases hk with ⟨_, e, _⟩ | ⟨_, e, _⟩ | ⟨_, e, _⟩ <;> simp [e]
  have hok : ∀ (m' : M) (x : Int), m'.nc = m.nc → (x = a ∨ x = free ∨ x = 10 * a + 1 ∨ x = 10 * a + 2 ∨ x = 10 * a + 3) → ThOk m' { m.ths i with at_ := x } := by
    intro m' x e hx
    have hq := missed_ok hk hx
    exact ⟨ho.op, hq.1, by rw [e]; exact ho.e, fun hn => absurd hn hq.2.1, fun hn => absurd hn hq.2.2.1⟩
  have hlk : ∀ x : Int, (x = a ∨ x = free ∨ x = 10 * a + 1 ∨ x = 10 * a + 2 ∨ x = 10 * a + 3) → (Locked (m.ths i).kind x ↔ Locked (m.ths i).kind (m.ths i).at_) := by
    intro x hx
    exact ⟨fun _ => hl, fun _ => (missed_ok hk hx).2.2.2⟩
  have hm8 : 0 ≤ m.mis ∧ m.mis ≤ 8 := ⟨hm.1, by rcases hm.2 with c | ⟨c, _, _⟩ <;> omega⟩
  clear hk
  unfold M.missed
  split
  · refine h.go hi _ { m.ths i with at_ := 10 * a + 2 } rfl rfl (Nat.le_refl _) (.inr (hok _ _ rfl (by simp))) (.inl ⟨rfl, hlk _ (by simp)⟩) h.dt h.dt h.cel (.inl ⟨hm8.1, .inr ⟨hm8.2, hh, by show (51 : Int) ≤ 10 * a + _; omega⟩⟩) (.inr hh)
  · split
    · refine h.go hi _ { m.ths i with at_ := 10 * a + 3 } rfl rfl (Nat.le_refl _) (.inr (hok _ _ rfl (by simp))) (.inl ⟨rfl, hlk _ (by simp)⟩) h.rd (fun k _ => ?_) h.cel (.inl ⟨hm8.1, .inr ⟨hm8.2, hh, by show (51 : Int) ≤ 10 * a + _; omega⟩⟩) (.inr hh)
      exact ⟨Int.le_refl _, by show (-1 : Int) < (m.nc : Int); omega⟩
    · split
      · refine h.go hi _ { m.ths i with at_ := free } rfl rfl (Nat.le_refl _) (.inr (hok _ _ rfl (by simp))) (.inl ⟨rfl, hlk _ (by simp)⟩) h.rd h.dt h.cel (.inl ⟨Int.le_refl _, .inl (by show (0 : Int) ≤ 7; omega)⟩) (.inr hh)
      · rename_i n1 n2 n3
        have ha : (m.ths i).at_ = a := by
          rcases hat with e | e | e | e
          · exact e
          · exact absurd e n1
          · exact absurd e n2
          · exact absurd e n3
        have h7 : m.mis ≤ 7 := by
          rcases hm.2 with c | ⟨_, _, c⟩
          · exact c
          · rw [hh, Int.toNat_natCast] at c; omega
        have hc := cnt_pos_le m.dirty
        split
        · rename_i hx
          refine h.go hi _ { m.ths i with at_ := free } rfl rfl (Nat.le_refl _) (.inr (hok _ _ rfl (by simp))) (.inl ⟨rfl, hlk _ (by simp)⟩) h.rd h.dt h.cel (.inl ⟨?_, .inl ?_⟩) (.inr hh)
          · show 0 ≤ m.mis + 1; omega
          · show m.mis + 1 ≤ 7; omega
        · refine h.go hi _ { m.ths i with at_ := 10 * a + 1 } rfl rfl (Nat.le_refl _) (.inr (hok _ _ rfl (by simp))) (.inl ⟨rfl, hlk _ (by simp)⟩) h.rd h.dt h.cel (.inl ⟨?_, .inr ⟨?_, hh, by show (51 : Int) ≤ 10 * a + 1; omega⟩⟩) (.inr hh)
          · show 0 ≤ m.mis + 1; omega
          · show m.mis + 1 ≤ 8; omega
theorem inv_load {m : M} (h : m.Inv) {i : Nat} (hi : i < m.nth) (ho : ThOk m (m.ths i)) (hk : (m.ths i).kind = 0) (h2 : ¬ (m.ths i).at_ = 2) : (m.load i).m.Inv := by
  have hak := ho.ak
  unfold M.load
  split
  · rename_i e; exact inv_first h hi ho e 7 (.inl ⟨hk, rfl⟩)
  · split
    · rename_i e; exact inv_third h hi ho e 6 (.inl ⟨hk, rfl⟩)
    · split
      · rename_i e
        simp only [M.goes, sets_thr]
        refine h.thr hi (by omega) _ (.inr ⟨ho.op, by simp [AtOk, hk], h.dt _ (M.Inv.keyLt ho), by simp [NeedsE, hk], by simp [hk]⟩) (by simp [Locked, hk, e])
      · split
        · rename_i e
          exact inv_missed h hi ho 5 6 (.inl ⟨hk, rfl, rfl⟩) (by simpa using e)
        · split
          · rename_i e; exact inv_frees h hi ho 7 (.inl ⟨hk, rfl, e⟩)
          · rename_i n1 n3 n4 n5 n6
            have e7 : (m.ths i).at_ = 7 := by unfold AtOk at hak; omega
            exact h.thr hi (by omega) _ (.inl rfl) (by simp [Locked, hk, e7])
/-- A step that sets an entry, and the thread. -/
theorem M.Inv.cellThr {m : M} (h : m.Inv) {i : Nat} (hi : i < m.nth) (hat : (m.ths i).at_ < 51) (j : Nat) (c : Cel) (hc : CelOk c) (t : Thr) (ok : t.at_ = 0 ∨ ThOk m t) (lk : Locked t.kind t.at_ ↔ Locked (m.ths i).kind (m.ths i).at_) : ({ m with cells := put m.cells j c }.thr i t).Inv := by
  refine h.go hi _ t rfl rfl (Nat.le_refl _) ?_ (.inl ⟨rfl, lk⟩) h.rd h.dt (fun a ha => ?_) (h.misA hat _ _) (.inl fun _ => rfl)
  · rcases ok with a | a
    · exact .inl a
    · exact .inr ⟨a.op, a.ak, a.e, a.ne, a.nx⟩
  · show CelOk (put m.cells j c a)
    by_cases e : a = j
    · subst e; rw [put_same]; exact hc
    · rw [put_other _ _ e]; exact h.cel a ha
/-- A step that sets a place of DIRTY, and the thread. -/
theorem M.Inv.dirtyThr {m : M} (h : m.Inv) {i : Nat} (hi : i < m.nth) (hat : (m.ths i).at_ < 51) (k : Nat) (x : Int) (hx : -1 ≤ x ∧ x < m.nc) (t : Thr) (ok : t.at_ = 0 ∨ ThOk m t) (lk : Locked t.kind t.at_ ↔ Locked (m.ths i).kind (m.ths i).at_) : ({ m with dirty := put m.dirty k x }.thr i t).Inv := by
  refine h.go hi _ t rfl rfl (Nat.le_refl _) ?_ (.inl ⟨rfl, lk⟩) h.rd (fun a ha => ?_) h.cel (h.misA hat _ _) (.inl fun _ => rfl)
  · rcases ok with a | a
    · exact .inl a
    · exact .inr ⟨a.op, a.ak, a.e, a.ne, a.nx⟩
  · show -1 ≤ put m.dirty k x a ∧ put m.dirty k x a < m.nc
    by_cases e : a = k
    · subst e; rw [put_same]; exact hx
    · rw [put_other _ _ e]; exact h.dt a ha
theorem sees_thr (m : M) (i : Nat) (x y a : Int) : (m.sees i x y).thr i { (m.sees i x y).ths i with at_ := a } = m.thr i { m.ths i with sst := x, sv := y, at_ := a } := by
  simp only [M.sees, thr_thr, thr_ths]
theorem ThOk.to {m m' : M} {t : Thr} (ho : ThOk m t) (a e sst sv next : Int) (hn : m.nc ≤ m'.nc) (ak : AtOk t.kind a) (he : -1 ≤ e ∧ e < m'.nc) (hne : NeedsE t.kind a → 0 ≤ e) (hx : t.kind = 1 → a = 10 → 0 ≤ next ∧ next < 8 ∧ 0 ≤ m'.read next.toNat) :
    ThOk m' ⟨t.kind, t.key, t.val, t.old, a, e, sst, sv, next⟩ := by
  have _ := hn
  exact ⟨ho.op, ak, he, hne, hx⟩
theorem scan_thr (m : M) (i : Nat) (n a : Int) : (m.thr i { m.ths i with next := n }).thr i { (m.thr i { m.ths i with next := n }).ths i with at_ := a } = m.thr i { m.ths i with next := n, at_ := a } := by
  simp only [thr_thr, thr_ths]
theorem inv_scan {m m' : M} (h : m.Inv) {i : Nat} (hi : i < m.nth) (ho : ThOk m (m.ths i)) (hk : (m.ths i).kind = 1) (hat : (m.ths i).at_ = 9 ∨ (m.ths i).at_ = 10) (k : Nat) (hk8 : k ≤ 8)
    (e1 : m'.nth = m.nth) (e2 : m'.ths = m.ths) (e3 : m'.nc = m.nc) (e4 : m'.read = m.read) (e5 : m'.hol = m.hol) (e6 : m'.mis = m.mis) (hd : ∀ k, k < 8 → -1 ≤ m'.dirty k ∧ m'.dirty k < m.nc) (hc : ∀ j, j < m.nc → CelOk (m'.cells j)) : (m'.scan i k).m.Inv := by
  have hl : Locked (m.ths i).kind (m.ths i).at_ := by rcases hat with e | e <;> simp [Locked, hk, e]
  have hmis := h.misA (i := i) (by omega)
  have key : ∀ (a : Int) (n : Nat), (a = 11 ∨ (a = 10 ∧ n < 8 ∧ 0 ≤ m.read n)) → (m'.thr i { m'.ths i with next := n, at_ := a }).Inv := by
    intro a n ha
    have hl' : Locked (m.ths i).kind a := by rcases ha with e | ⟨e, _⟩ <;> simp [Locked, hk, e]
    rw [e2]
    refine h.go hi _ { m.ths i with next := n, at_ := a } (by exact e1) (by rw [← e2]; rfl) (by show m.nc ≤ m'.nc; omega) (.inr ⟨ho.op, ?_, ?_, ?_, ?_⟩) (.inl ⟨e5, ⟨fun _ => hl, fun _ => hl'⟩⟩) ?_ ?_ ?_ ?_ (.inl fun k => ?_)
    · show AtOk (m.ths i).kind a
      rcases ha with e | ⟨e, _⟩ <;> simp [AtOk, hk, e]
    · show -1 ≤ (m.ths i).e ∧ (m.ths i).e < (m'.nc : Int)
      rw [e3]; exact ho.e
    · show NeedsE (m.ths i).kind a → 0 ≤ (m.ths i).e
      rcases ha with e | ⟨e, _⟩ <;> simp [NeedsE, hk, e]
    · show (m.ths i).kind = 1 → a = 10 → 0 ≤ (n : Int) ∧ (n : Int) < 8 ∧ 0 ≤ m'.read (n : Int).toNat
      intro _ hh
      rcases ha with e | ⟨_, e, f⟩
      · omega
      · rw [e4, Int.toNat_natCast]; exact ⟨by omega, by omega, f⟩
    · show ∀ k, k < 8 → -1 ≤ m'.read k ∧ m'.read k < (m'.nc : Int)
      rw [e4, e3]; exact h.rd
    · show ∀ k, k < 8 → -1 ≤ m'.dirty k ∧ m'.dirty k < (m'.nc : Int)
      rw [e3]; exact hd
    · show ∀ j, j < m'.nc → CelOk (m'.cells j)
      rw [e3]; exact hc
    · show 0 ≤ m'.mis ∧ (m'.mis ≤ 7 ∨ (m'.mis ≤ 8 ∧ m'.hol = i ∧ 51 ≤ a)) ∨ (m'.mis = m.mis ∧ ¬ m.hol = i)
      rw [e6, e5]
      exact hmis a m.hol
    · show m'.read k = m.read k
      rw [e4]
  have hle := nextKey_le m'.read (8 - k) k
  unfold M.scan
  split
  · rename_i hx
    simp only [M.goes, scan_thr]
    refine key 10 _ (.inr ⟨rfl, hx, ?_⟩)
    have := nextKey_has m'.read (8 - k) k (by omega)
    rw [e4] at this ⊢
    exact this
  · simp only [M.goes, scan_thr]
    exact key 11 _ (.inl rfl)
theorem celVal {m : M} {t : Thr} (ho : ThOk m t) (hk : t.kind = 1 ∨ t.kind = 3) : CelOk ⟨0, t.val⟩ := by
  have := ho.op
  unfold OpOk at this
  exact .inl ⟨rfl, this.2.2.2.2.1 hk⟩
theorem inv_store {m : M} (h : m.Inv) {i : Nat} (hi : i < m.nth) (ho : ThOk m (m.ths i)) (hk : (m.ths i).kind = 1) (h4 : ¬ (m.ths i).at_ = 4) : (m.store i).m.Inv := by
  have hak := ho.ak
  have hv := celVal ho (.inl hk)
  have hkl := M.Inv.keyLt ho
  unfold M.store
  by_cases e : (m.ths i).at_ = 1
  · rw [if_pos e]
    simp only [M.goes, sets_thr]
    refine h.thr hi (by omega) _ (.inr ⟨ho.op, ?_, h.rd _ hkl, ?_, by simp only; intro _; split <;> simp⟩) ?_
    · show AtOk (m.ths i).kind _; split <;> simp [AtOk, hk]
    · show NeedsE (m.ths i).kind _ → 0 ≤ m.read (m.key i); split <;> simp [NeedsE, hk] <;> omega
    · show Locked (m.ths i).kind _ ↔ _; split <;> simp [Locked, hk, e]
  rw [if_neg e]
  have n1 := e
  clear e
  by_cases e : (m.ths i).at_ = 2
  · rw [if_pos e]
    simp only [M.goes, sees_thr]
    have hn : NeedsE (m.ths i).kind (m.ths i).at_ := by simp [NeedsE, hk, e]
    refine h.thr hi (by omega) _ (.inr ⟨ho.op, ?_, ho.e, fun _ => ho.ne hn, by simp only; intro _; split <;> simp⟩) ?_
    · show AtOk (m.ths i).kind _; split <;> simp [AtOk, hk]
    · show Locked (m.ths i).kind _ ↔ _; split <;> simp [Locked, hk, e]
  rw [if_neg e]
  have n2 := e
  clear e
  by_cases e : (m.ths i).at_ = 3
  · rw [if_pos e]
    have hn : NeedsE (m.ths i).kind (m.ths i).at_ := by simp [NeedsE, hk, e]
    split
    · exact h.cellThr hi (by omega) _ _ hv _ (.inl rfl) (by simp [Locked, hk, e])
    · exact h.thr hi (by omega) _ (.inr ⟨ho.op, by simp [AtOk, hk], ho.e, fun _ => ho.ne hn, by simp⟩) (by simp [Locked, hk, e])
  rw [if_neg e]
  have n3 := e
  clear e
  by_cases e : (m.ths i).at_ = 5
  · rw [if_pos e]
    simp only [M.goes, sets_thr]
    refine h.thr hi (by omega) _ (.inr ⟨ho.op, ?_, h.rd _ hkl, ?_, by simp only; intro _; split <;> simp⟩) ?_
    · show AtOk (m.ths i).kind _; split <;> simp [AtOk, hk]
    · show NeedsE (m.ths i).kind _ → 0 ≤ m.read (m.key i); split <;> simp [NeedsE, hk] <;> omega
    · show Locked (m.ths i).kind _ ↔ _; split <;> simp [Locked, hk, e]
  rw [if_neg e]
  have n5 := e
  clear e
  by_cases e : (m.ths i).at_ = 6
  · rw [if_pos e]
    have hn : NeedsE (m.ths i).kind (m.ths i).at_ := by simp [NeedsE, hk, e]
    split
    · exact h.cellThr hi (by omega) _ _ (.inr (.inl ⟨rfl, rfl⟩)) _ (.inr ⟨ho.op, by simp [AtOk, hk], ho.e, fun _ => ho.ne hn, by simp⟩) (by simp [Locked, hk, e])
    · exact h.thr hi (by omega) _ (.inr ⟨ho.op, by simp [AtOk, hk], ho.e, fun _ => ho.ne hn, by simp⟩) (by simp [Locked, hk, e])
  rw [if_neg e]
  have n6 := e
  clear e
  by_cases e : (m.ths i).at_ = 7
  · rw [if_pos e]
    have hn : NeedsE (m.ths i).kind (m.ths i).at_ := by simp [NeedsE, hk, e]
    exact h.dirtyThr hi (by omega) _ _ ho.e _ (.inr ⟨ho.op, by simp [AtOk, hk], ho.e, fun _ => ho.ne hn, by simp⟩) (by simp [Locked, hk, e])
  rw [if_neg e]
  have n7 := e
  clear e
  by_cases e : (m.ths i).at_ = 8
  · rw [if_pos e]
    simp only [M.goes, sets_thr]
    refine h.thr hi (by omega) _ (.inr ⟨ho.op, ?_, h.dt _ hkl, ?_, ?_⟩) ?_
    · show AtOk (m.ths i).kind _; split <;> (try split) <;> simp [AtOk, hk]
    · show NeedsE (m.ths i).kind _ → 0 ≤ m.dirty (m.key i); split <;> (try split) <;> simp [NeedsE, hk] <;> omega
    · simp only; intro _; split <;> (try split) <;> simp
    · show Locked (m.ths i).kind _ ↔ _; split <;> (try split) <;> simp [Locked, hk, e]
  rw [if_neg e]
  have n8 := e
  clear e
  by_cases e : (m.ths i).at_ = 9
  · rw [if_pos e]
    exact inv_scan h hi ho hk (.inl e) 0 (by omega) rfl rfl rfl rfl rfl rfl (fun _ _ => ⟨Int.le_refl _, by show (-1 : Int) < (m.nc : Int); omega⟩) h.cel
  rw [if_neg e]
  have n9 := e
  clear e
  by_cases e : (m.ths i).at_ = 10
  · rw [if_pos e]
    have hx := ho.nx hk e
    have hn8 : m.nxt i + 1 ≤ 8 := by unfold M.nxt; omega
    have hr := h.rd (m.nxt i) (by omega)
    unfold M.copied
    split
    · refine inv_scan h hi ho hk (.inr e) _ hn8 rfl rfl rfl rfl rfl rfl (fun a ha => ?_) h.cel
      show -1 ≤ put m.dirty (m.nxt i) (m.read (m.nxt i)) a ∧ put m.dirty (m.nxt i) (m.read (m.nxt i)) a < m.nc
      by_cases q : a = m.nxt i
      · subst q; rw [put_same]; exact hr
      · rw [put_other _ _ q]; exact h.dt a ha
    · split
      · refine inv_scan h hi ho hk (.inr e) _ hn8 rfl rfl rfl rfl rfl rfl h.dt (fun a ha => ?_)
        show CelOk (put m.cells (m.read (m.nxt i)).toNat ⟨2, 0⟩ a)
        by_cases q : a = (m.read (m.nxt i)).toNat
        · subst q; rw [put_same]; exact .inr (.inr ⟨rfl, rfl⟩)
        · rw [put_other _ _ q]; exact h.cel a ha
      · exact inv_scan h hi ho hk (.inr e) _ hn8 rfl rfl rfl rfl rfl rfl h.dt h.cel
  rw [if_neg e]
  have n10 := e
  clear e
  by_cases e : (m.ths i).at_ = 11
  · rw [if_pos e]
    have hh := holds h hi (by simp [Locked, hk, e])
    exact h.go hi _ { m.ths i with at_ := 12 } rfl rfl (Nat.le_refl _) (.inr ⟨ho.op, by simp [AtOk, hk], ho.e, by simp [NeedsE, hk], by simp⟩) (.inl ⟨rfl, by simp [Locked, hk, e]⟩) h.rd h.dt h.cel (h.misA (by omega) _ _) (.inr hh)
  rw [if_neg e]
  have n11 := e
  clear e
  by_cases e : (m.ths i).at_ = 12
  · rw [if_pos e]
    have hh := holds h hi (by simp [Locked, hk, e])
    refine h.go hi _ { m.ths i with at_ := 14 } rfl rfl (Nat.le_succ _) (.inr ⟨ho.op, by simp [AtOk, hk], ?_, by simp [NeedsE, hk], by simp⟩) (.inl ⟨rfl, by simp [Locked, hk, e]⟩) (fun k hk => ?_) (fun k hk => ?_) (fun j hj => ?_) (h.misA (by omega) _ _) (.inr hh)
    · show -1 ≤ (m.ths i).e ∧ (m.ths i).e < ((m.nc + 1 : Nat) : Int)
      have := ho.e; omega
    · show -1 ≤ m.read k ∧ m.read k < ((m.nc + 1 : Nat) : Int)
      have := h.rd k hk; omega
    · show -1 ≤ put m.dirty (m.key i) (m.nc : Int) k ∧ put m.dirty (m.key i) (m.nc : Int) k < ((m.nc + 1 : Nat) : Int)
      by_cases q : k = m.key i
      · subst q; rw [put_same]; omega
      · rw [put_other _ _ q]; have := h.dt k hk; omega
    · show CelOk (put m.cells m.nc ⟨0, (m.ths i).val⟩ j)
      by_cases q : j = m.nc
      · subst q; rw [put_same]; exact hv
      · rw [put_other _ _ q]
        have : j < m.nc + 1 := hj
        exact h.cel j (by omega)
  rw [if_neg e]
  have n12 := e
  clear e
  by_cases e : (m.ths i).at_ = 13
  · rw [if_pos e]
    exact h.cellThr hi (by omega) _ _ hv _ (.inr ⟨ho.op, by simp [AtOk, hk], ho.e, by simp [NeedsE, hk], by simp⟩) (by simp [Locked, hk, e])
  rw [if_neg e]
  have n13 := e
  clear e
  have e14 : (m.ths i).at_ = 14 := by
    have : 1 ≤ (m.ths i).at_ ∧ (m.ths i).at_ ≤ 14 := by simpa [AtOk, hk] using hak
    omega
  have hh := holds h hi (by simp [Locked, hk, e14])
  exact h.go hi _ { m.ths i with at_ := 0 } rfl rfl (Nat.le_refl _) (.inl rfl) (.inr (.inr ⟨hh, rfl, not_locked0 _⟩)) h.rd h.dt h.cel (h.misA (by omega) _ _) (.inl fun _ => rfl)
/-- The step at which the lock is taken. -/
theorem inv_take {m : M} (h : m.Inv) {i : Nat} (hi : i < m.nth) (ho : ThOk m (m.ths i)) (hat : (m.ths i).at_ = m.lockAt i) (hf : m.hol < 0) : ({ m with hol := i }.goes i (m.lockAt i + 1)).m.Inv := by
  have hop := ho.op
  unfold OpOk at hop
  have h51 : (m.ths i).at_ < 51 := by rw [hat]; unfold M.lockAt; split <;> omega
  have hkd : (m.ths i).kind = 0 ∨ (m.ths i).kind = 1 ∨ (m.ths i).kind = 2 ∨ (m.ths i).kind = 3 := by omega
  refine h.go hi _ { m.ths i with at_ := m.lockAt i + 1 } rfl rfl (Nat.le_refl _) (.inr ⟨ho.op, ?_, ho.e, ?_, ?_⟩) (.inr (.inl ⟨hf, rfl, ?_⟩)) h.rd h.dt h.cel (h.misA h51 _ _) (.inl fun _ => rfl)
  · show AtOk (m.ths i).kind _
    unfold M.lockAt
    rcases hkd with e | e | e | e <;> simp [AtOk, e]
  · show NeedsE (m.ths i).kind _ → _
    unfold M.lockAt
    rcases hkd with e | e | e | e <;> simp [NeedsE, e]
  · simp only
    unfold M.lockAt
    intro a
    simp [a]
  · show Locked (m.ths i).kind _
    unfold M.lockAt
    rcases hkd with e | e | e | e <;> simp [Locked, e]
theorem inv_begin {m : M} (h : m.Inv) (n kind key val old : Int) : (m.begin n kind key val old).2.Inv := by
  unfold M.begin
  split
  · exact h
  split
  · exact h
  split
  · exact h
  · rename_i _ hb ha
    have hok : OpOk kind key val old := Decidable.byContradiction fun hh => hb (.inr (.inr hh))
    have hi : n.toNat < m.nth := by
      have : ¬ (n < 0 ∨ (m.nth : Int) ≤ n) := fun hh => hb (hh.elim .inl fun q => .inr (.inl q))
      omega
    have ha0 : (m.ths n.toNat).at_ = 0 := by
      rcases h.th _ hi with e | e
      · exact e
      · have := e.ak
        exfalso
        rcases this with ⟨_, q⟩ | ⟨_, q⟩ | ⟨_, q⟩ | ⟨_, q⟩ <;> omega
    have hop := hok
    unfold OpOk at hop
    have hkd : kind = 0 ∨ kind = 1 ∨ kind = 2 ∨ kind = 3 := by omega
    refine h.thr hi (by omega) _ (.inr ⟨hok, ?_, ⟨Int.le_refl _, by show (-1 : Int) < (m.nc : Int); omega⟩, ?_, ?_⟩) ?_
    · show AtOk kind 1
      rcases hkd with e | e | e | e <;> simp [AtOk, e]
    · show NeedsE kind 1 → _
      rcases hkd with e | e | e | e <;> simp [NeedsE, e]
    · simp
    · show Locked kind 1 ↔ _
      rw [ha0]
      exact ⟨fun hh => by rcases hkd with e | e | e | e <;> simp [Locked, e] at hh, fun hh => absurd hh (not_locked0 _)⟩
end Go.Proofs.Ytmnkphenobfbfaa
namespace Go.Proofs.Ytmnkphenobfbfaa
/-! Delete and Replace keep what must be; so does every step. -/
theorem inv_remove {m : M} (h : m.Inv) {i : Nat} (hi : i < m.nth) (ho : ThOk m (m.ths i)) (hk : (m.ths i).kind = 2) (h2 : ¬ (m.ths i).at_ = 2) : (m.remove i).m.Inv := by
  have hak := ho.ak
  have hkl := M.Inv.keyLt ho
  unfold M.remove
  by_cases e : (m.ths i).at_ = 1
  · rw [if_pos e]; exact inv_first h hi ho e 8 (.inr ⟨by omega, rfl⟩)
  rw [if_neg e]
  have n1 := e
  clear e
  by_cases e : (m.ths i).at_ = 3
  · rw [if_pos e]; exact inv_third h hi ho e 7 (.inr ⟨by omega, rfl⟩)
  rw [if_neg e]
  have n3 := e
  clear e
  by_cases e : (m.ths i).at_ = 4
  · rw [if_pos e]
    simp only [M.goes, sets_thr]
    exact h.thr hi (by omega) _ (.inr ⟨ho.op, by simp [AtOk, hk], h.dt _ hkl, by simp [NeedsE, hk], by simp [hk]⟩) (by simp [Locked, hk, e])
  rw [if_neg e]
  have n4 := e
  clear e
  by_cases e : (m.ths i).at_ = 5
  · rw [if_pos e]
    exact h.dirtyThr hi (by omega) _ _ ⟨Int.le_refl _, by omega⟩ _ (.inr ⟨ho.op, by simp [AtOk, hk], ho.e, by simp [NeedsE, hk], by simp [hk]⟩) (by simp [Locked, hk, e])
  rw [if_neg e]
  have n5 := e
  clear e
  by_cases e : (m.ths i).at_ = 6 ∨ (m.ths i).at_ = 61 ∨ (m.ths i).at_ = 62 ∨ (m.ths i).at_ = 63
  · rw [if_pos e]
    exact inv_missed h hi ho 6 7 (.inr (.inl ⟨hk, rfl, rfl⟩)) (by simpa using e)
  rw [if_neg e]
  have n6 := e
  clear e
  by_cases e : (m.ths i).at_ = 7
  · rw [if_pos e]; exact inv_frees h hi ho 8 (.inr ⟨by omega, rfl, e⟩)
  rw [if_neg e]
  have n7 := e
  clear e
  by_cases e : (m.ths i).at_ = 8
  · rw [if_pos e]
    have hn : NeedsE (m.ths i).kind (m.ths i).at_ := by simp [NeedsE, hk, e]
    split
    · simp only [M.goes, sees_thr]
      exact h.thr hi (by omega) _ (.inr ⟨ho.op, by simp [AtOk, hk], ho.e, fun _ => ho.ne hn, by simp [hk]⟩) (by simp [Locked, hk, e])
    · simp only [M.ends, sees_thr]
      exact h.thr hi (by omega) _ (.inl rfl) (by simp [Locked, hk, e])
  rw [if_neg e]
  have n8 := e
  clear e
  have e9 : (m.ths i).at_ = 9 := by unfold AtOk at hak; omega
  have hn : NeedsE (m.ths i).kind (m.ths i).at_ := by simp [NeedsE, hk, e9]
  split
  · exact h.cellThr hi (by omega) _ _ (.inr (.inl ⟨rfl, rfl⟩)) _ (.inl rfl) (by simp [Locked, hk, e9])
  · exact h.thr hi (by omega) _ (.inr ⟨ho.op, by simp [AtOk, hk], ho.e, fun _ => ho.ne hn, by simp [hk]⟩) (by simp [Locked, hk, e9])
theorem inv_replace {m : M} (h : m.Inv) {i : Nat} (hi : i < m.nth) (ho : ThOk m (m.ths i)) (hk : (m.ths i).kind = 3) (h2 : ¬ (m.ths i).at_ = 2) : (m.replace i).m.Inv := by
  have hak := ho.ak
  have hv := celVal ho (.inr hk)
  have hkl := M.Inv.keyLt ho
  unfold M.replace
  by_cases e : (m.ths i).at_ = 1
  · rw [if_pos e]; exact inv_first h hi ho e 8 (.inr ⟨by omega, rfl⟩)
  rw [if_neg e]
  have n1 := e
  clear e
  by_cases e : (m.ths i).at_ = 3
  · rw [if_pos e]; exact inv_third h hi ho e 7 (.inr ⟨by omega, rfl⟩)
  rw [if_neg e]
  have n3 := e
  clear e
  by_cases e : (m.ths i).at_ = 4
  · rw [if_pos e]
    simp only [M.goes, sets_thr]
    refine h.thr hi (by omega) _ (.inr ⟨ho.op, ?_, h.dt _ hkl, ?_, by simp [hk]⟩) ?_
    · show AtOk (m.ths i).kind _; split <;> simp [AtOk, hk]
    · show NeedsE (m.ths i).kind _ → _; split <;> simp [NeedsE, hk]
    · show Locked (m.ths i).kind _ ↔ _; split <;> simp [Locked, hk, e]
  rw [if_neg e]
  have n4 := e
  clear e
  by_cases e : (m.ths i).at_ = 6 ∨ (m.ths i).at_ = 61 ∨ (m.ths i).at_ = 62 ∨ (m.ths i).at_ = 63
  · rw [if_pos e]
    exact inv_missed h hi ho 6 7 (.inr (.inr ⟨hk, rfl, rfl⟩)) (by simpa using e)
  rw [if_neg e]
  have n6 := e
  clear e
  by_cases e : (m.ths i).at_ = 7
  · rw [if_pos e]; exact inv_frees h hi ho 8 (.inr ⟨by omega, rfl, e⟩)
  rw [if_neg e]
  have n7 := e
  clear e
  by_cases e : (m.ths i).at_ = 8
  · rw [if_pos e]
    have hn : NeedsE (m.ths i).kind (m.ths i).at_ := by simp [NeedsE, hk, e]
    split
    · exact h.thr hi (by omega) _ (.inr ⟨ho.op, by simp [AtOk, hk], ho.e, fun _ => ho.ne hn, by simp [hk]⟩) (by simp [Locked, hk, e])
    · exact h.thr hi (by omega) _ (.inl rfl) (by simp [Locked, hk, e])
  rw [if_neg e]
  have n8 := e
  clear e
  have e9 : (m.ths i).at_ = 9 := by unfold AtOk at hak; omega
  have hn : NeedsE (m.ths i).kind (m.ths i).at_ := by simp [NeedsE, hk, e9]
  split
  · exact h.cellThr hi (by omega) _ _ hv _ (.inl rfl) (by simp [Locked, hk, e9])
  · exact h.thr hi (by omega) _ (.inr ⟨ho.op, by simp [AtOk, hk], ho.e, fun _ => ho.ne hn, by simp [hk]⟩) (by simp [Locked, hk, e9])
/-- A step that is done keeps what must be. -/
theorem inv_does {m : M} (h : m.Inv) {i : Nat} (hi : i < m.nth) (ha : ¬ (m.ths i).at_ = 0) {o : Out} (hd : m.does i = some o) : o.m.Inv := by
  have ho := (h.th _ hi).resolve_left ha
  have hop := ho.op
  unfold OpOk at hop
  unfold M.does at hd
  by_cases e : (m.ths i).at_ = m.lockAt i
  · rw [if_pos e] at hd
    by_cases hf : 0 ≤ m.hol
    · rw [if_pos hf] at hd; cases hd
    · rw [if_neg hf, Option.some.injEq] at hd
      rw [← hd]
      exact inv_take h hi ho e (Int.not_le.1 hf)
  · rw [if_neg e] at hd
    have hl : ∀ x, m.lockAt i = x → ¬ (m.ths i).at_ = x := fun x hx q => e (q.trans hx.symm)
    by_cases k0 : (m.ths i).kind = 0
    · rw [if_pos k0, Option.some.injEq] at hd
      rw [← hd]
      exact inv_load h hi ho k0 (hl 2 (by simp [M.lockAt, k0]))
    rw [if_neg k0] at hd
    by_cases k1 : (m.ths i).kind = 1
    · rw [if_pos k1, Option.some.injEq] at hd
      rw [← hd]
      exact inv_store h hi ho k1 (hl 4 (by simp [M.lockAt, k1]))
    rw [if_neg k1] at hd
    by_cases k2 : (m.ths i).kind = 2
    · rw [if_pos k2, Option.some.injEq] at hd
      rw [← hd]
      exact inv_remove h hi ho k2 (hl 2 (by simp [M.lockAt, k2]))
    rw [if_neg k2, Option.some.injEq] at hd
    rw [← hd]
    exact inv_replace h hi ho (by omega) (hl 2 (by simp [M.lockAt, k1]))
theorem inv_step {m : M} (h : m.Inv) (i : Int) : (m.step i).o.m.Inv := by
  unfold M.step
  by_cases hc : m.cl = true
  · rw [if_pos hc]; exact h
  rw [if_neg hc]
  by_cases hi : i < 0 ∨ (m.nth : Int) ≤ i
  · rw [if_pos hi]; exact h
  rw [if_neg hi]
  by_cases ha : (m.ths i.toNat).at_ = 0
  · rw [if_pos ha]; exact h
  rw [if_neg ha]
  cases hd : m.does i.toNat with
  | none => exact h
  | some o => exact inv_does h (by omega) ha hd
theorem inv_close {m : M} (h : m.Inv) : { m with cl := true }.Inv :=
  ⟨h.hol, h.lock, fun i hi => (h.th i hi).imp id fun a => ⟨a.op, a.ak, a.e, a.ne, a.nx⟩, h.rd, h.dt, h.cel, h.mis⟩
/-- A map as at the beginning. -/
def M.new (n : Nat) : M := ⟨0, fun _ => ⟨0, 0⟩, fun _ => -1, false, false, fun _ => -1, 0, -1, false, n, fun _ => ⟨0, 0, 0, 0, 0, 0, 0, 0, 0⟩⟩
theorem inv_new (n : Nat) : (M.new n).Inv := by
  refine ⟨⟨Int.le_refl _, by show (-1 : Int) < (n : Int); omega⟩, fun i _ => ⟨fun hh => absurd hh (not_locked0 _), fun hh => ?_⟩, fun _ _ => .inl rfl, fun _ _ => ⟨Int.le_refl _, by show (-1 : Int) < ((0 : Nat) : Int); omega⟩, fun _ _ => ⟨Int.le_refl _, by show (-1 : Int) < ((0 : Nat) : Int); omega⟩, fun j hj => absurd hj (Nat.not_lt_zero _), ⟨Int.le_refl _, .inl (by show (0 : Int) ≤ 7; omega)⟩⟩
  have : (-1 : Int) = (i : Int) := hh
  omega
/-- What a step of thread i leaves of the threads, and of the number of entries. -/
structure StepOf (m : M) (i : Nat) (m' : M) : Prop where
  nth : m'.nth = m.nth
  cl : m'.cl = m.cl
  ths : ∀ j, j ≠ i → m'.ths j = m.ths j
  kind : (m'.ths i).kind = (m.ths i).kind
  nc : m.nc ≤ m'.nc ∧ m'.nc ≤ m.nc + 1
theorem so_ite {m : M} {i : Nat} {c : Prop} [Decidable c] {A B : Out} (ha : StepOf m i A.m) (hb : StepOf m i B.m) : StepOf m i (if c then A else B).m := by
  by_cases h : c
  · rw [if_pos h]; exact ha
  · rw [if_neg h]; exact hb
theorem so_thr {m X : M} {i : Nat} (h : StepOf m i X) (t : Thr) (ht : t.kind = (X.ths i).kind) : StepOf m i (X.thr i t) :=
  ⟨h.nth, h.cl, fun j hj => (put_other _ _ hj).trans (h.ths j hj), by rw [thr_ths, ht]; exact h.kind, h.nc⟩
theorem so_goes {m X : M} {i : Nat} (h : StepOf m i X) (a : Int) : StepOf m i (X.goes i a).m := so_thr h { X.ths i with at_ := a } rfl
theorem so_ends {m X : M} {i : Nat} (h : StepOf m i X) (f : Bool) (v : Int) : StepOf m i (X.ends i f v).m := so_thr h { X.ths i with at_ := 0 } rfl
theorem so_refl (m : M) (i : Nat) : StepOf m i m := ⟨rfl, rfl, fun _ _ => rfl, rfl, Nat.le_refl _, Nat.le_succ _⟩
theorem so_with (m : M) (i : Nat) (cells : Nat → Cel) (read : Nat → Int) (am hd : Bool) (dirty : Nat → Int) (mis hol : Int) : StepOf m i ⟨m.nc, cells, read, am, hd, dirty, mis, hol, m.cl, m.nth, m.ths⟩ :=
  ⟨rfl, rfl, fun _ _ => rfl, rfl, Nat.le_refl _, Nat.le_succ _⟩
theorem so_sets (m : M) (i : Nat) (e : Int) : StepOf m i (m.sets i e) := by unfold M.sets; exact so_thr (so_refl m i) _ rfl
theorem so_sees (m : M) (i : Nat) (x y : Int) : StepOf m i (m.sees i x y) := by unfold M.sees; exact so_thr (so_refl m i) _ rfl
theorem so_next {m X : M} {i : Nat} (h : StepOf m i X) (n : Int) : StepOf m i (X.thr i { X.ths i with next := n }) := so_thr h { X.ths i with next := n } rfl
theorem so_scan {m X : M} {i : Nat} (h : StepOf m i X) (k : Nat) : StepOf m i (X.scan i k).m := by
  unfold M.scan
  exact so_ite (so_goes (so_next h _) _) (so_goes (so_next h _) _)
theorem so_first (m : M) (i : Nat) (e : Int) : StepOf m i (m.first i e).m :=
  so_ite (so_goes (so_sets m i _) _) (so_ite (so_goes (so_sets m i _) _) (so_ends (so_sets m i _) _ _))
theorem so_third (m : M) (i : Nat) (e : Int) : StepOf m i (m.third i e).m :=
  so_ite (so_goes (so_sets m i _) _) (so_ite (so_goes (so_sets m i _) _) (so_goes (so_sets m i _) _))
theorem so_frees (m : M) (i : Nat) (e : Int) : StepOf m i (m.frees i e).m :=
  so_ite (so_ends (so_with m i _ _ _ _ _ _ _) _ _) (so_goes (so_with m i _ _ _ _ _ _ _) _)
theorem so_missed (m : M) (i : Nat) (a e : Int) : StepOf m i (m.missed i a e).m :=
  so_ite (so_goes (so_with m i _ _ _ _ _ _ _) _) (so_ite (so_goes (so_with m i _ _ _ _ _ _ _) _) (so_ite (so_goes (so_with m i _ _ _ _ _ _ _) _) (so_ite (so_goes (so_with m i _ _ _ _ _ _ _) _) (so_goes (so_with m i _ _ _ _ _ _ _) _))))
theorem so_load (m : M) (i : Nat) : StepOf m i (m.load i).m := by
  unfold M.load
  exact so_ite (so_first m i _) (so_ite (so_third m i _) (so_ite (so_goes (so_sets m i _) _) (so_ite (so_missed m i _ _) (so_ite (so_frees m i _) (so_ends (so_refl m i) _ _)))))
theorem so_copied (m : M) (i : Nat) : StepOf m i (m.copied i) := by
  unfold M.copied
  by_cases h0 : (m.cells (m.read (m.nxt i)).toNat).st = 0
  · rw [if_pos h0]; exact so_with m i _ _ _ _ _ _ _
  · rw [if_neg h0]
    by_cases h1 : (m.cells (m.read (m.nxt i)).toNat).st = 1
    · rw [if_pos h1]; exact so_with m i _ _ _ _ _ _ _
    · rw [if_neg h1]; exact so_refl m i
theorem so_adds (m : M) (i : Nat) (x y : Int) (d : Nat → Int) : StepOf m i { m.adds x y with dirty := d } :=
  ⟨rfl, rfl, fun _ _ => rfl, rfl, Nat.le_succ _, Nat.le_refl _⟩
theorem so_store (m : M) (i : Nat) : StepOf m i (m.store i).m := by
  unfold M.store
  exact so_ite (so_goes (so_sets m i _) _) (so_ite (so_goes (so_sees m i _ _) _) (so_ite (so_ite (so_ends (so_with m i _ _ _ _ _ _ _) _ _) (so_goes (so_refl m i) _))
    (so_ite (so_goes (so_sets m i _) _) (so_ite (so_ite (so_goes (so_with m i _ _ _ _ _ _ _) _) (so_goes (so_refl m i) _)) (so_ite (so_goes (so_with m i _ _ _ _ _ _ _) _) (so_ite (so_goes (so_sets m i _) _)
    (so_ite (so_scan (so_with m i _ _ _ _ _ _ _) _) (so_ite (so_scan (so_copied m i) _) (so_ite (so_goes (so_with m i _ _ _ _ _ _ _) _) (so_ite (so_goes (so_adds m i _ _ _) _) (so_ite (so_goes (so_with m i _ _ _ _ _ _ _) _) (so_ends (so_with m i _ _ _ _ _ _ _) _ _))))))))))))
theorem so_remove (m : M) (i : Nat) : StepOf m i (m.remove i).m := by
  unfold M.remove
  exact so_ite (so_first m i _) (so_ite (so_third m i _) (so_ite (so_goes (so_sets m i _) _) (so_ite (so_goes (so_with m i _ _ _ _ _ _ _) _) (so_ite (so_missed m i _ _) (so_ite (so_frees m i _)
    (so_ite (so_ite (so_goes (so_sees m i _ _) _) (so_ends (so_sees m i _ _) _ _)) (so_ite (so_ends (so_with m i _ _ _ _ _ _ _) _ _) (so_goes (so_refl m i) _))))))))
theorem so_replace (m : M) (i : Nat) : StepOf m i (m.replace i).m := by
  unfold M.replace
  exact so_ite (so_first m i _) (so_ite (so_third m i _) (so_ite (so_goes (so_sets m i _) _) (so_ite (so_missed m i _ _) (so_ite (so_frees m i _)
    (so_ite (so_ite (so_goes (so_refl m i) _) (so_ends (so_refl m i) _ _)) (so_ite (so_ends (so_with m i _ _ _ _ _ _ _) _ _) (so_goes (so_refl m i) _)))))))
theorem so_does {m : M} {i : Nat} {o : Out} (hd : m.does i = some o) : StepOf m i o.m := by
  unfold M.does at hd
  by_cases e : (m.ths i).at_ = m.lockAt i
  · rw [if_pos e] at hd
    by_cases hf : 0 ≤ m.hol
    · rw [if_pos hf] at hd; cases hd
    · rw [if_neg hf, Option.some.injEq] at hd
      rw [← hd]
      exact so_goes (so_with m _ _ _ _ _ _ _ _) _
  · rw [if_neg e] at hd
    by_cases k0 : (m.ths i).kind = 0
    · rw [if_pos k0, Option.some.injEq] at hd
      rw [← hd]; exact so_load m _
    rw [if_neg k0] at hd
    by_cases k1 : (m.ths i).kind = 1
    · rw [if_pos k1, Option.some.injEq] at hd
      rw [← hd]; exact so_store m _
    rw [if_neg k1] at hd
    by_cases k2 : (m.ths i).kind = 2
    · rw [if_pos k2, Option.some.injEq] at hd
      rw [← hd]; exact so_remove m _
    rw [if_neg k2, Option.some.injEq] at hd
    rw [← hd]; exact so_replace m _
theorem step_nc (m : M) (n : Int) : m.nc ≤ (m.step n).o.m.nc ∧ (m.step n).o.m.nc ≤ m.nc + 1 := by
  unfold M.step
  by_cases hc : m.cl = true
  · rw [if_pos hc]; exact ⟨Nat.le_refl _, Nat.le_succ _⟩
  rw [if_neg hc]
  by_cases hi : n < 0 ∨ (m.nth : Int) ≤ n
  · rw [if_pos hi]; exact ⟨Nat.le_refl _, Nat.le_succ _⟩
  rw [if_neg hi]
  by_cases ha : (m.ths n.toNat).at_ = 0
  · rw [if_pos ha]; exact ⟨Nat.le_refl _, Nat.le_succ _⟩
  rw [if_neg ha]
  cases hd : m.does n.toNat with
  | none => exact ⟨Nat.le_refl _, Nat.le_succ _⟩
  | some o => exact (so_does hd).nc
theorem begin_nc (m : M) (n kind key val old : Int) : (m.begin n kind key val old).2.nc = m.nc := by
  unfold M.begin
  by_cases hc : m.cl = true
  · rw [if_pos hc]
  rw [if_neg hc]
  by_cases hi : n < 0 ∨ (m.nth : Int) ≤ n ∨ ¬ OpOk kind key val old
  · rw [if_pos hi]
  rw [if_neg hi]
  by_cases ha : 0 < (m.ths n.toNat).at_
  · rw [if_pos ha]
  rw [if_neg ha]
  rfl
end Go.Proofs.Ytmnkphenobfbfaa
namespace Go.Proofs.Ytmnkphenobfbfaa
/-! Who holds the lock; what is amended has a DIRTY. -/
/-- What a step of thread i does to the lock. -/
def HolOk (m : M) (i : Nat) (m' : M) : Prop := m'.hol = m.hol ∨ m.hol < 0 ∨ m.hol = i
theorem ho_ite {m : M} {i : Nat} {c : Prop} [Decidable c] {A B : Out} (ha : c → HolOk m i A.m) (hb : ¬ c → HolOk m i B.m) : HolOk m i (if c then A else B).m := by
  by_cases h : c
  · rw [if_pos h]; exact ha h
  · rw [if_neg h]; exact hb h
theorem hol_does {m : M} (h : m.Inv) {i : Nat} (hi : i < m.nth) (ha : ¬ (m.ths i).at_ = 0) {o : Out} (hd : m.does i = some o) : HolOk m i o.m := by
  have ho := (h.th _ hi).resolve_left ha
  have hop := ho.op
  have hak := ho.ak
  unfold OpOk at hop
  have lk : Locked (m.ths i).kind (m.ths i).at_ → m.hol = i := holds h hi
  unfold M.does at hd
  by_cases e : (m.ths i).at_ = m.lockAt i
  · rw [if_pos e] at hd
    by_cases hf : 0 ≤ m.hol
    · rw [if_pos hf] at hd; cases hd
    · exact .inr (.inl (Int.not_le.1 hf))
  · rw [if_neg e] at hd
    by_cases hh : m.hol = i
    · exact .inr (.inr hh)
    have nl : ¬ Locked (m.ths i).kind (m.ths i).at_ := fun q => hh (lk q)
    clear lk
    have rf : ∀ {x : M}, x.hol = m.hol → HolOk m i x := fun q => .inl q
    by_cases k0 : (m.ths i).kind = 0
    · rw [if_pos k0, Option.some.injEq] at hd
      rw [← hd]
      unfold M.load
      refine ho_ite (fun _ => ?_) (fun n1 => ho_ite (fun q => absurd (by unfold Locked; omega) nl) (fun n3 => ho_ite (fun q => absurd (by unfold Locked; omega) nl) (fun n4 => ho_ite (fun q => absurd (by unfold Locked; omega) nl) (fun n5 => ho_ite (fun q => absurd (by unfold Locked; omega) nl) (fun _ => rf rfl)))))
      exact ho_ite (fun _ => rf rfl) (fun _ => ho_ite (fun _ => rf rfl) (fun _ => rf rfl))
    rw [if_neg k0] at hd
    by_cases k1 : (m.ths i).kind = 1
    · rw [if_pos k1, Option.some.injEq] at hd
      rw [← hd]
      have hat : (m.ths i).at_ < 5 := by unfold Locked at nl; omega
      unfold M.store
      refine ho_ite (fun _ => rf rfl) (fun n1 => ho_ite (fun q => rf rfl) (fun n2 => ho_ite (fun q => ho_ite (fun _ => rf rfl) (fun _ => rf rfl)) (fun n3 => ?_)))
      have : (m.ths i).at_ = 4 := by unfold AtOk at hak; omega
      exact absurd (by rw [this]; simp [M.lockAt, k1]) e
    rw [if_neg k1] at hd
    by_cases k2 : (m.ths i).kind = 2
    · rw [if_pos k2, Option.some.injEq] at hd
      rw [← hd]
      unfold M.remove
      refine ho_ite (fun _ => ?_) (fun n1 => ho_ite (fun q => absurd (by unfold Locked; omega) nl) (fun n3 => ho_ite (fun q => absurd (by unfold Locked; omega) nl) (fun n4 => ho_ite (fun q => absurd (by unfold Locked; omega) nl) (fun n5 => ho_ite (fun q => absurd (by unfold Locked; omega) nl) (fun n6 => ho_ite (fun q => absurd (by unfold Locked; omega) nl) (fun _ => ho_ite (fun _ => ho_ite (fun _ => rf rfl) (fun _ => rf rfl)) (fun _ => ho_ite (fun _ => rf rfl) (fun _ => rf rfl))))))))
      exact ho_ite (fun _ => rf rfl) (fun _ => ho_ite (fun _ => rf rfl) (fun _ => rf rfl))
    rw [if_neg k2, Option.some.injEq] at hd
    rw [← hd]
    unfold M.replace
    refine ho_ite (fun _ => ?_) (fun n1 => ho_ite (fun q => absurd (by unfold Locked; omega) nl) (fun n3 => ho_ite (fun q => absurd (by unfold Locked; omega) nl) (fun n4 => ho_ite (fun q => absurd (by unfold Locked; omega) nl) (fun n6 => ho_ite (fun q => absurd (by unfold Locked; omega) nl) (fun _ => ho_ite (fun _ => ho_ite (fun _ => rf rfl) (fun _ => rf rfl)) (fun _ => ho_ite (fun _ => rf rfl) (fun _ => rf rfl)))))))
    exact ho_ite (fun _ => rf rfl) (fun _ => ho_ite (fun _ => rf rfl) (fun _ => rf rfl))
/-- What is amended has a DIRTY. -/
structure M.AH (m : M) : Prop where
  ah : m.am = true → m.hd = true
  mkd : ∀ i, i < m.nth → (m.ths i).kind = 1 → (m.ths i).at_ = 10 ∨ (m.ths i).at_ = 11 → m.hd = true
  dr : ∀ i, i < m.nth → ¬ (m.ths i).kind = 1 → (m.ths i).at_ = 52 ∨ (m.ths i).at_ = 62 → m.am = false
/-- A step of thread i: DIRTY and READ's word stay, or it holds the lock. -/
theorem M.AH.go {m : M} (h : m.AH) (hI : m.Inv) {i : Nat} (hi : i < m.nth) (m' : M) (t' : Thr) (e1 : m'.nth = m.nth) (e2 : m'.ths = put m.ths i t') (e3 : (m'.am = m.am ∧ m'.hd = m.hd) ∨ m.hol = i)
    (c1 : m'.am = true → m'.hd = true) (c2 : t'.kind = 1 → t'.at_ = 10 ∨ t'.at_ = 11 → m'.hd = true) (c3 : ¬ t'.kind = 1 → t'.at_ = 52 ∨ t'.at_ = 62 → m'.am = false) : m'.AH := by
  refine ⟨c1, fun j hj hk ha => ?_, fun j hj hk ha => ?_⟩
  · rw [e1] at hj
    rw [e2] at hk ha
    by_cases hji : j = i
    · subst hji
      rw [put_same] at hk ha
      exact c2 hk ha
    · rw [put_other _ _ hji] at hk ha
      rcases e3 with ⟨_, q⟩ | q
      · rw [q]; exact h.mkd j hj hk ha
      · have := (hI.lock j hj).1 (by unfold Locked; omega)
        omega
  · rw [e1] at hj
    rw [e2] at hk ha
    by_cases hji : j = i
    · subst hji
      rw [put_same] at hk ha
      exact c3 hk ha
    · rw [put_other _ _ hji] at hk ha
      rcases e3 with ⟨q, _⟩ | q
      · rw [q]; exact h.dr j hj hk ha
      · have hth : (m.ths j).at_ = 0 ∨ ThOk m (m.ths j) := hI.th j hj
        have ho := hth.resolve_left (by omega)
        have hak := ho.ak
        have hop := ho.op
        unfold OpOk at hop
        unfold AtOk at hak
        have := (hI.lock j hj).1 (by unfold Locked; omega)
        omega
theorem M.AH.same {m : M} (h : m.AH) (hI : m.Inv) {i : Nat} (hi : i < m.nth) (m' : M) (t' : Thr) (e1 : m'.nth = m.nth) (e2 : m'.ths = put m.ths i t') (e3 : m'.am = m.am) (e4 : m'.hd = m.hd)
    (c2 : ¬ (t'.kind = 1 ∧ (t'.at_ = 10 ∨ t'.at_ = 11))) (c3 : ¬ (¬ t'.kind = 1 ∧ (t'.at_ = 52 ∨ t'.at_ = 62))) : m'.AH :=
  h.go hI hi m' t' e1 e2 (.inl ⟨e3, e4⟩) (by rw [e3, e4]; exact h.ah) (fun a b => absurd ⟨a, b⟩ c2) (fun a b => absurd ⟨a, b⟩ c3)
theorem ah_ite {c : Prop} [Decidable c] {A B : Out} (ha : c → A.m.AH) (hb : ¬ c → B.m.AH) : (if c then A else B).m.AH := by
  by_cases h : c
  · rw [if_pos h]; exact ha h
  · rw [if_neg h]; exact hb h
theorem sets_goes (m : M) (i : Nat) (e a : Int) : ((m.sets i e).goes i a).m = m.thr i { m.ths i with e := e, at_ := a } := sets_thr m i e a
theorem sets_ends (m : M) (i : Nat) (e : Int) (f : Bool) (v : Int) : ((m.sets i e).ends i f v).m = m.thr i { m.ths i with e := e, at_ := 0 } := sets_thr m i e 0
theorem sees_goes (m : M) (i : Nat) (x y a : Int) : ((m.sees i x y).goes i a).m = m.thr i { m.ths i with sst := x, sv := y, at_ := a } := sees_thr m i x y a
theorem sees_ends (m : M) (i : Nat) (x y : Int) (f : Bool) (v : Int) : ((m.sees i x y).ends i f v).m = m.thr i { m.ths i with sst := x, sv := y, at_ := 0 } := sees_thr m i x y 0
theorem ah_find {m : M} (h : m.AH) (hI : m.Inv) {i : Nat} (hi : i < m.nth) (a free entry : Int) (hk : ((m.ths i).kind = 0 ∧ a = 5 ∧ free = 6 ∧ entry = 7) ∨ (((m.ths i).kind = 2 ∨ (m.ths i).kind = 3) ∧ a = 6 ∧ free = 7 ∧ entry = 8)) :
    (m.first i entry).m.AH ∧ (m.third i free).m.AH ∧ (m.frees i entry).m.AH ∧ ((m.ths i).at_ = a ∨ (m.ths i).at_ = 10 * a + 1 ∨ (m.ths i).at_ = 10 * a + 2 ∨ (m.ths i).at_ = 10 * a + 3 → (m.missed i a free).m.AH) := by
  have hk1 : ¬ (m.ths i).kind = 1 := by omega
  refine ⟨?_, ?_, ?_, fun hat => ?_⟩
  · unfold M.first
    refine ah_ite (fun _ => ?_) (fun _ => ah_ite (fun _ => ?_) (fun _ => ?_))
    · rw [sets_goes]; exact h.same hI hi _ _ rfl rfl rfl rfl (by simp [hk1]) (by simp only; omega)
    · rw [sets_goes]; exact h.same hI hi _ _ rfl rfl rfl rfl (by simp [hk1]) (by simp only; omega)
    · rw [sets_ends]; exact h.same hI hi _ _ rfl rfl rfl rfl (by simp [hk1]) (by simp only; omega)
  · unfold M.third
    refine ah_ite (fun _ => ?_) (fun _ => ah_ite (fun _ => ?_) (fun _ => ?_))
    · rw [sets_goes]; exact h.same hI hi _ _ rfl rfl rfl rfl (by simp [hk1]) (by simp only; omega)
    · rw [sets_goes]; exact h.same hI hi _ _ rfl rfl rfl rfl (by simp [hk1]) (by simp only; omega)
    · rw [sets_goes]; exact h.same hI hi _ _ rfl rfl rfl rfl (by simp [hk1]) (by simp only; omega)
  · unfold M.frees
    refine ah_ite (fun _ => ?_) (fun _ => ?_)
    · exact h.same hI hi _ { m.ths i with at_ := 0 } rfl rfl rfl rfl (by simp [hk1]) (by simp only; omega)
    · exact h.same hI hi _ { m.ths i with at_ := entry } rfl rfl rfl rfl (by simp [hk1]) (by simp only; omega)
  · have hh : m.hol = i := by
      refine holds hI hi ?_
      unfold Locked
      omega
    unfold M.missed
    refine ah_ite (fun e => ?_) (fun n1 => ah_ite (fun e => ?_) (fun n2 => ah_ite (fun e => ?_) (fun n3 => ah_ite (fun _ => ?_) (fun _ => ?_))))
    · exact h.go hI hi _ { m.ths i with at_ := 10 * a + 2 } rfl rfl (.inr hh) (fun q => by cases q) (fun q => absurd q hk1) (fun _ _ => rfl)
    · have := h.dr i hi hk1 (by omega)
      exact h.go hI hi _ { m.ths i with at_ := 10 * a + 3 } rfl rfl (.inr hh) (fun q => by have q' : m.am = true := q; rw [this] at q'; cases q') (fun q => absurd q hk1) (fun _ q => by simp only at q; omega)
    · exact h.same hI hi _ { m.ths i with at_ := free } rfl rfl rfl rfl (by simp [hk1]) (by simp only; omega)
    · exact h.same hI hi _ { m.ths i with at_ := free } rfl rfl rfl rfl (by simp [hk1]) (by simp only; omega)
    · exact h.same hI hi _ { m.ths i with at_ := 10 * a + 1 } rfl rfl rfl rfl (by simp [hk1]) (by simp only; omega)
theorem ah_scan {m m' : M} (h : m.AH) (hI : m.Inv) {i : Nat} (hi : i < m.nth) (hk : (m.ths i).kind = 1) (hh : m.hol = i) (e1 : m'.nth = m.nth) (e2 : m'.ths = m.ths) (e4 : m'.hd = true) (k : Nat) : (m'.scan i k).m.AH := by
  have key : ∀ (n : Nat) (a : Int), (m'.thr i { m'.ths i with next := n, at_ := a }).AH := by
    intro n a
    rw [e2]
    exact h.go hI hi _ { m.ths i with next := n, at_ := a } e1 (by rw [← e2]; rfl) (.inr hh) (fun _ => e4) (fun _ _ => e4) (fun q => absurd hk q)
  unfold M.scan
  refine ah_ite (fun _ => ?_) (fun _ => ?_)
  · simp only [M.goes, scan_thr]; exact key _ _
  · simp only [M.goes, scan_thr]; exact key _ _
theorem ah_does {m : M} (h : m.AH) (hI : m.Inv) {i : Nat} (hi : i < m.nth) (ha : ¬ (m.ths i).at_ = 0) {o : Out} (hd : m.does i = some o) : o.m.AH := by
  have ho := (hI.th _ hi).resolve_left ha
  have hop := ho.op
  have hak := ho.ak
  unfold OpOk at hop
  unfold M.does at hd
  by_cases e : (m.ths i).at_ = m.lockAt i
  · rw [if_pos e] at hd
    by_cases hf : 0 ≤ m.hol
    · rw [if_pos hf] at hd; cases hd
    · rw [if_neg hf, Option.some.injEq] at hd
      rw [← hd]
      have : m.lockAt i = 4 ∨ m.lockAt i = 2 := by unfold M.lockAt; split <;> simp
      exact h.same hI hi _ { m.ths i with at_ := m.lockAt i + 1 } rfl rfl rfl rfl (by simp only; omega) (by simp only; omega)
  · rw [if_neg e] at hd
    by_cases k0 : (m.ths i).kind = 0
    · rw [if_pos k0, Option.some.injEq] at hd
      rw [← hd]
      obtain ⟨f1, f2, f3, f4⟩ := ah_find h hI hi 5 6 7 (.inl ⟨k0, rfl, rfl, rfl⟩)
      unfold M.load
      refine ah_ite (fun _ => f1) (fun _ => ah_ite (fun _ => f2) (fun _ => ah_ite (fun _ => ?_) (fun _ => ah_ite (fun q => f4 (by omega)) (fun _ => ah_ite (fun _ => f3) (fun _ => ?_)))))
      · rw [sets_goes]; exact h.same hI hi _ _ rfl rfl rfl rfl (by simp [k0]) (by simp)
      · exact h.same hI hi _ { m.ths i with at_ := 0 } rfl rfl rfl rfl (by simp [k0]) (by simp)
    rw [if_neg k0] at hd
    by_cases k1 : (m.ths i).kind = 1
    · rw [if_pos k1, Option.some.injEq] at hd
      rw [← hd]
      have hl : 5 ≤ (m.ths i).at_ → m.hol = i := fun q => holds hI hi (by unfold Locked; omega)
      have mk := h.mkd i hi k1
      unfold M.store
      refine ah_ite (fun _ => ?_) (fun n1 => ah_ite (fun _ => ?_) (fun n2 => ah_ite (fun _ => ah_ite (fun _ => ?_) (fun _ => ?_)) (fun n3 => ah_ite (fun _ => ?_) (fun n5 => ah_ite (fun _ => ah_ite (fun _ => ?_) (fun _ => ?_)) (fun n6 => ah_ite (fun _ => ?_) (fun n7 => ah_ite (fun _ => ?_) (fun n8 => ah_ite (fun q => ?_) (fun n9 => ah_ite (fun q => ?_) (fun n10 => ah_ite (fun q => ?_) (fun n11 => ah_ite (fun _ => ?_) (fun n12 => ah_ite (fun _ => ?_) (fun n13 => ?_))))))))))))
      · rw [sets_goes]; exact h.same hI hi _ _ rfl rfl rfl rfl (by simp only; split <;> omega) (by simp [k1])
      · rw [sees_goes]; exact h.same hI hi _ _ rfl rfl rfl rfl (by simp only; split <;> omega) (by simp [k1])
      · exact h.same hI hi _ { m.ths i with at_ := 0 } rfl rfl rfl rfl (by simp) (by simp [k1])
      · exact h.same hI hi _ { m.ths i with at_ := 2 } rfl rfl rfl rfl (by simp) (by simp [k1])
      · rw [sets_goes]; exact h.same hI hi _ _ rfl rfl rfl rfl (by simp only; split <;> omega) (by simp [k1])
      · exact h.same hI hi _ { m.ths i with at_ := 7 } rfl rfl rfl rfl (by simp) (by simp [k1])
      · exact h.same hI hi _ { m.ths i with at_ := 13 } rfl rfl rfl rfl (by simp) (by simp [k1])
      · exact h.same hI hi _ { m.ths i with at_ := 13 } rfl rfl rfl rfl (by simp) (by simp [k1])
      · rw [sets_goes]; exact h.same hI hi _ _ rfl rfl rfl rfl (by simp only; split <;> (try split) <;> omega) (by simp [k1])
      · exact ah_scan (m' := { m with hd := true, dirty := fun _ => -1 }) h hI hi k1 (hl (by omega)) rfl rfl rfl 0
      · have hc : (m.copied i).nth = m.nth ∧ (m.copied i).ths = m.ths ∧ (m.copied i).am = m.am ∧ (m.copied i).hd = m.hd := by
          unfold M.copied
          split
          · exact ⟨rfl, rfl, rfl, rfl⟩
          · split <;> exact ⟨rfl, rfl, rfl, rfl⟩
        exact ah_scan h hI hi k1 (hl (by omega)) hc.1 hc.2.1 (hc.2.2.2.trans (mk (by omega))) _
      · exact h.go hI hi _ { m.ths i with at_ := 12 } rfl rfl (.inr (hl (by omega))) (fun _ => mk (by omega)) (fun _ q => by simp only at q; omega) (fun q => absurd k1 q)
      · exact h.same hI hi _ { m.ths i with at_ := 14 } rfl rfl rfl rfl (by simp) (by simp [k1])
      · exact h.same hI hi _ { m.ths i with at_ := 14 } rfl rfl rfl rfl (by simp) (by simp [k1])
      · exact h.same hI hi _ { m.ths i with at_ := 0 } rfl rfl rfl rfl (by simp) (by simp [k1])
    rw [if_neg k1] at hd
    by_cases k2 : (m.ths i).kind = 2
    · rw [if_pos k2, Option.some.injEq] at hd
      rw [← hd]
      obtain ⟨f1, f2, f3, f4⟩ := ah_find h hI hi 6 7 8 (.inr ⟨.inl k2, rfl, rfl, rfl⟩)
      unfold M.remove
      refine ah_ite (fun _ => f1) (fun _ => ah_ite (fun _ => f2) (fun _ => ah_ite (fun _ => ?_) (fun _ => ah_ite (fun _ => ?_) (fun _ => ah_ite (fun q => f4 (by omega)) (fun _ => ah_ite (fun _ => f3) (fun _ => ah_ite (fun _ => ah_ite (fun _ => ?_) (fun _ => ?_)) (fun _ => ah_ite (fun _ => ?_) (fun _ => ?_))))))))
      · rw [sets_goes]; exact h.same hI hi _ _ rfl rfl rfl rfl (by simp [k2]) (by simp)
      · exact h.same hI hi _ { m.ths i with at_ := 6 } rfl rfl rfl rfl (by simp [k2]) (by simp)
      · rw [sees_goes]; exact h.same hI hi _ _ rfl rfl rfl rfl (by simp [k2]) (by simp)
      · rw [sees_ends]; exact h.same hI hi _ _ rfl rfl rfl rfl (by simp [k2]) (by simp)
      · exact h.same hI hi _ { m.ths i with at_ := 0 } rfl rfl rfl rfl (by simp [k2]) (by simp)
      · exact h.same hI hi _ { m.ths i with at_ := 8 } rfl rfl rfl rfl (by simp [k2]) (by simp)
    rw [if_neg k2, Option.some.injEq] at hd
    have k3 : (m.ths i).kind = 3 := by omega
    rw [← hd]
    obtain ⟨f1, f2, f3, f4⟩ := ah_find h hI hi 6 7 8 (.inr ⟨.inr k3, rfl, rfl, rfl⟩)
    unfold M.replace
    refine ah_ite (fun _ => f1) (fun _ => ah_ite (fun _ => f2) (fun _ => ah_ite (fun _ => ?_) (fun _ => ah_ite (fun q => f4 (by omega)) (fun _ => ah_ite (fun _ => f3) (fun _ => ah_ite (fun _ => ah_ite (fun _ => ?_) (fun _ => ?_)) (fun _ => ah_ite (fun _ => ?_) (fun _ => ?_)))))))
    · rw [sets_goes]; exact h.same hI hi _ _ rfl rfl rfl rfl (by simp [k3]) (by simp only; split <;> omega)
    · exact h.same hI hi _ { m.ths i with at_ := 9 } rfl rfl rfl rfl (by simp [k3]) (by simp)
    · exact h.same hI hi _ { m.ths i with at_ := 0 } rfl rfl rfl rfl (by simp [k3]) (by simp)
    · exact h.same hI hi _ { m.ths i with at_ := 0 } rfl rfl rfl rfl (by simp [k3]) (by simp)
    · exact h.same hI hi _ { m.ths i with at_ := 8 } rfl rfl rfl rfl (by simp [k3]) (by simp)
theorem ah_begin {m : M} (h : m.AH) (hI : m.Inv) (n kind key val old : Int) : (m.begin n kind key val old).2.AH := by
  unfold M.begin
  split
  · exact h
  split
  · exact h
  split
  · exact h
  · rename_i _ hb ha
    have hi : n.toNat < m.nth := by
      have : ¬ (n < 0 ∨ (m.nth : Int) ≤ n) := fun hh => hb (hh.elim .inl fun q => .inr (.inl q))
      omega
    exact h.same hI hi _ _ rfl rfl rfl rfl (by simp) (by simp)
end Go.Proofs.Ytmnkphenobfbfaa
