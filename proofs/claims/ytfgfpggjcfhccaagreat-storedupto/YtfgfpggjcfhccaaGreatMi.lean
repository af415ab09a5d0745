import Derived.Test.YtfgfpggjcfhccaaGreatMh
namespace Go.Proofs.YtfgfpggjcfhccaaGreat
open Go.RowKit
/-- What a step answers, and the machine behind it. -/
structure Out where
  d : Bool
  f : Bool
  v : Int
  m : M
def Out.val (o : Out) : Value := res o.d o.f o.v
def M.goes (m : M) (i : Nat) (a : Int) : Out := ⟨false, false, 0, m.thr i { m.ths i with at_ := a }⟩
def M.ends (m : M) (i : Nat) (f : Bool) (v : Int) : Out := ⟨true, f, v, m.thr i { m.ths i with at_ := 0 }⟩
/-- The thread's entry is e now. -/
def M.sets (m : M) (i : Nat) (e : Int) : M := m.thr i { m.ths i with e := e }
def M.key (m : M) (i : Nat) : Nat := (m.ths i).key.toNat
def M.first (m : M) (i : Nat) (entry : Int) : Out :=
  if 0 ≤ m.read (m.key i) then (m.sets i (m.read (m.key i))).goes i entry
  else if m.am then (m.sets i (m.read (m.key i))).goes i 2 else (m.sets i (m.read (m.key i))).ends i false 0
def M.third (m : M) (i : Nat) (free : Int) : Out :=
  if 0 ≤ m.read (m.key i) then (m.sets i (m.read (m.key i))).goes i free
  else if m.am then (m.sets i (m.read (m.key i))).goes i 4 else (m.sets i (m.read (m.key i))).goes i free
def M.frees (m : M) (i : Nat) (entry : Int) : Out :=
  if (m.ths i).e < 0 then { m with hol := -1 }.ends i false 0 else { m with hol := -1 }.goes i entry
def M.missed (m : M) (i : Nat) (a free : Int) : Out :=
  if (m.ths i).at_ = 10 * a + 1 then { m with read := m.dirty, am := false }.goes i (10 * a + 2)
  else if (m.ths i).at_ = 10 * a + 2 then { m with hd := false, dirty := fun _ => -1 }.goes i (10 * a + 3)
  else if (m.ths i).at_ = 10 * a + 3 then { m with mis := 0 }.goes i free
  else if m.mis + 1 < cnt m.dirty 8 then { m with mis := m.mis + 1 }.goes i free else { m with mis := m.mis + 1 }.goes i (10 * a + 1)
theorem sets_thr (m : M) (i : Nat) (e a : Int) : (m.sets i e).thr i { (m.sets i e).ths i with at_ := a } = m.thr i { m.ths i with e := e, at_ := a } := by
  simp only [M.sets, thr_thr, thr_ths]
/-- What each of these calls keeps. -/
def Does (n : Nat) (args : Array Value) (r tb : Nat) (sl : Value) (B : Nat) (o : Out) (w : World) : Prop :=
  Calls Tryz.prog n args w fun e w' => e = .returned o.val ∧ RefAt r tb sl B o.m w' ∧ Kept [r, tb] w w'
theorem does_of {n : Nat} {args : Array Value} {r tb : Nat} {sl : Value} {B : Nat} {d f : Bool} {v : Int} {m : M} {w : World} {F : List Nat} (hF : ∀ x, x ∈ F → x ∈ [r, tb])
    (h : Calls Tryz.prog n args w fun e w' => e = .returned (res d f v) ∧ RefAt r tb sl B m w' ∧ Kept F w w') : Does n args r tb sl B ⟨d, f, v, m⟩ w := by
  refine h.mono ?_
  rintro e w' ⟨rfl, h1, h2⟩
  exact ⟨rfl, h1, h2.mono hF⟩
theorem does_first {r tb : Nat} {sl : Value} {B : Nat} {m : M} {w : World} (h : RefAt r tb sl B m w) {i : Nat} (hi : i < m.nth) (hk0 : 0 ≤ (m.ths i).key) (hk7 : (m.ths i).key < 8) (entry : Int) :
    Does 51 #[.pointer (some ⟨r, 0, none⟩), .pointer (some ⟨tb, i * 9, none⟩), .int .i64 entry] r tb sl B (m.first i entry) w := by
  unfold M.first
  split
  · rename_i he
    simp only [M.goes, sets_thr]
    exact does_of (by simp) (m_first_in h hi hk0 hk7 rfl entry he)
  · rename_i he
    split
    · rename_i ha
      simp only [M.goes, sets_thr]
      exact does_of (by simp) (m_first_on h hi hk0 hk7 rfl entry (Int.not_le.1 he) ha)
    · rename_i ha
      simp only [M.ends, sets_thr]
      exact does_of (by simp) (m_first_end h hi hk0 hk7 rfl entry (Int.not_le.1 he) (by simpa using ha))
theorem does_third {r tb : Nat} {sl : Value} {B : Nat} {m : M} {w : World} (h : RefAt r tb sl B m w) {i : Nat} (hi : i < m.nth) (hk0 : 0 ≤ (m.ths i).key) (hk7 : (m.ths i).key < 8) (free : Int) :
    Does 52 #[.pointer (some ⟨r, 0, none⟩), .pointer (some ⟨tb, i * 9, none⟩), .int .i64 free] r tb sl B (m.third i free) w := by
  unfold M.third
  split
  · rename_i he
    simp only [M.goes, sets_thr]
    exact does_of (by simp) (m_third_in h hi hk0 hk7 rfl free he)
  · rename_i he
    split
    · rename_i ha
      simp only [M.goes, sets_thr]
      exact does_of (by simp) (m_third_on h hi hk0 hk7 rfl free (Int.not_le.1 he) ha)
    · rename_i ha
      simp only [M.goes, sets_thr]
      exact does_of (by simp) (m_third_out h hi hk0 hk7 rfl free (Int.not_le.1 he) (by simpa using ha))
theorem does_frees {r tb : Nat} {sl : Value} {B : Nat} {m : M} {w : World} (h : RefAt r tb sl B m w) {i : Nat} (hi : i < m.nth) (entry : Int) :
    Does 55 #[.pointer (some ⟨r, 0, none⟩), .pointer (some ⟨tb, i * 9, none⟩), .int .i64 entry] r tb sl B (m.frees i entry) w := by
  unfold M.frees
  split
  · rename_i he
    exact does_of (by simp) (m_frees_end h hi entry he)
  · rename_i he
    exact does_of (by simp) (m_frees_on h hi entry (Int.not_lt.1 he))
theorem does_missed {r tb : Nat} {sl : Value} {B : Nat} {m : M} {w : World} (h : RefAt r tb sl B m w) {i : Nat} (hi : i < m.nth) (a free : Int) (h5 : 5 ≤ a) (h6 : a ≤ 6) (hat : (m.ths i).at_ = a ∨ (m.ths i).at_ = 10 * a + 1 ∨ (m.ths i).at_ = 10 * a + 2 ∨ (m.ths i).at_ = 10 * a + 3)
    (hm0 : 0 ≤ m.mis) (hm1 : m.mis < 1000000) :
    Does 54 #[.pointer (some ⟨r, 0, none⟩), .pointer (some ⟨tb, i * 9, none⟩), .int .i64 a, .int .i64 free] r tb sl B (m.missed i a free) w := by
  unfold M.missed
  split
  · rename_i h1
    exact does_of (by simp) (m_missed_a h hi a free h5 h6 h1)
  · split
    · rename_i h2
      exact does_of (by simp) (m_missed_b h hi a free h5 h6 h2)
    · split
      · rename_i h3
        exact does_of (by simp) (m_missed_c h hi a free h5 h6 h3)
      · rename_i n1 n2 n3
        have h0 : (m.ths i).at_ = a := by
          rcases hat with h0 | h0 | h0 | h0
          · exact h0
          · exact absurd h0 n1
          · exact absurd h0 n2
          · exact absurd h0 n3
        split
        · rename_i hc
          exact does_of (by simp) (m_missed_few h hi a free h5 h6 h0 hm0 hm1 hc)
        · rename_i hc
          exact does_of (by simp) (m_missed_all h hi a free h5 h6 h0 hm0 hm1 hc)
end Go.Proofs.YtfgfpggjcfhccaaGreat
