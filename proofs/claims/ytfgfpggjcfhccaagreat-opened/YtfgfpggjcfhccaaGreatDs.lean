import Derived.Test.YtfgfpggjcfhccaaGreatSn
namespace Go.Proofs.YtfgfpggjcfhccaaGreat
open Go.RowKit
def KeysOk (th : Nat → Option (Int × Int × Int)) : Prop := ∀ i k v o, th i = some (k, v, o) → 0 ≤ k ∧ k < 8
/-- What a Step answers (is it done; the error), and how the threads stand then. -/
def stepD (cl : Bool) (n : Nat) (th : Nat → Option (Int × Int × Int)) (i : Int) : Bool :=
  if cl = true then false else if i < 0 ∨ (n : Int) ≤ i then false else (th i.toNat).isSome
def stepE (cl : Bool) (n : Nat) (th : Nat → Option (Int × Int × Int)) (i : Int) : Int :=
  if cl = true then 5 else if i < 0 ∨ (n : Int) ≤ i then 1 else if (th i.toNat).isSome then 0 else 3
def stepT (cl : Bool) (n : Nat) (th : Nat → Option (Int × Int × Int)) (i : Int) : Nat → Option (Int × Int × Int) :=
  if stepD cl n th i = true then upd th i.toNat none else th
theorem pstep (p : PM) (i : Int) (cl : Bool) (w : World) (th : Nat → Option (Int × Int × Int)) (h : PAt p 0 w cl th) (hk : KeysOk th) :
    Calls Tryz.prog 17 #[.pointer (some ⟨p.m, 0, none⟩), .int .i64 i] w fun e w' => e = .returned (.tuple #[.agg #[.bool (stepD cl p.ts.length th i), .bool false, .int .i64 0], .int .i64 (stepE cl p.ts.length th i)]) ∧
      PAt p 0 w' cl (stepT cl p.ts.length th i) ∧ Kept (p.m :: p.ts) w w' := by
  cases cl with
  | true =>
    refine (step_closed p i w th h).mono ?_
    rintro e w' ⟨rfl, h', k'⟩
    exact ⟨by simp [stepD, stepE], by simpa [stepT, stepD] using h', k'.mono (by simp)⟩
  | false =>
    by_cases hi : i < 0 ∨ (p.ts.length : Int) ≤ i
    · refine (step_arg p i w th h hi).mono ?_
      rintro e w' ⟨rfl, h', k'⟩
      exact ⟨by simp [stepD, stepE, hi], by simpa [stepT, stepD, hi] using h', k'.mono (by simp)⟩
    · rcases ht : th i.toNat with _ | ⟨k, v, o⟩
      · refine (step_idle p i w th h (by omega) (by omega) ht).mono ?_
        rintro e w' ⟨rfl, h', k'⟩
        exact ⟨by simp [stepD, stepE, hi, ht], by simpa [stepT, stepD, hi, ht] using h', k'.mono (by simp)⟩
      · have hkk := hk _ _ _ _ ht
        refine (step_load p i w th h (by omega) (by omega) ht hkk.1 hkk.2).mono ?_
        rintro e w' ⟨rfl, h', k'⟩
        exact ⟨by simp [stepD, stepE, hi, ht], by simpa [stepT, stepD, hi, ht] using h', k'⟩
theorem rstep (q : RM) (i : Int) (cl : Bool) (w : World) (th : Nat → Option (Int × Int × Int)) (h : RAt q w cl th) (hk : KeysOk th) :
    Calls Tryz.prog 18 #[.pointer (some ⟨q.r, 0, none⟩), .int .i64 i] w fun e w' => e = .returned (.tuple #[.agg #[.bool (stepD cl q.n th i), .bool false, .int .i64 0], .int .i64 (stepE cl q.n th i)]) ∧
      RAt q w' cl (stepT cl q.n th i) ∧ Kept [q.tb] w w' := by
  cases cl with
  | true =>
    refine (rstep_closed q i w th h).mono ?_
    rintro e w' ⟨rfl, k'⟩
    exact ⟨by simp [stepD, stepE], by simpa [stepT, stepD] using h.keptNil k', k'.mono (by simp)⟩
  | false =>
    by_cases hi : i < 0 ∨ (q.n : Int) ≤ i
    · refine (rstep_arg q i w th h hi).mono ?_
      rintro e w' ⟨rfl, k'⟩
      exact ⟨by simp [stepD, stepE, hi], by simpa [stepT, stepD, hi] using h.keptNil k', k'.mono (by simp)⟩
    · rcases ht : th i.toNat with _ | ⟨k, v, o⟩
      · refine (rstep_idle q i w th h (by omega) (by omega) ht).mono ?_
        rintro e w' ⟨rfl, k'⟩
        exact ⟨by simp [stepD, stepE, hi, ht], by simpa [stepT, stepD, hi, ht] using h.keptNil k', k'.mono (by simp)⟩
      · have hkk := hk _ _ _ _ ht
        refine (rstep_load q i w th h (by omega) (by omega) ht hkk.1 hkk.2).mono ?_
        rintro e w' ⟨rfl, h', k'⟩
        exact ⟨by simp [stepD, stepE, hi, ht], by simpa [stepT, stepD, hi, ht] using h', k'⟩
theorem keys_stepT {cl : Bool} {n : Nat} {th : Nat → Option (Int × Int × Int)} {i : Int} (h : KeysOk th) : KeysOk (stepT cl n th i) := by
  intro j k v o hj
  unfold stepT at hj
  split at hj
  · unfold upd at hj
    split at hj
    · cases hj
    · exact h j k v o hj
  · exact h j k v o hj
end Go.Proofs.YtfgfpggjcfhccaaGreat
