import Derived.Test.YtmnkphenobfbfaaRows
import Derived.Test.YtmnkphenobfbfaaYa
import Derived.WalkKit
import Derived.ProofKit
import Derived.OpenShut
import Derived.ChangeOld
import Derived.Deep.Slices
namespace Go.Proofs.Ytmnkphenobfbfaa
open Go.ChangeShapes Go.WideShapes Go.ChangeAt Go.RowKit Go.Deep
theorem keep_own : ownKnob Try.prog.godebug = none := by kernel_rfl
theorem keep_laidOut : laidOutB Try.prog = true := by kernel_rfl
theorem cells3 : Try.prog.cellsOf 3 = 1 := by kernel_rfl
theorem i64_range {n : Int} (h : (Lit.int .i64 n).wf = true) : R64 n := by
  have h1 : IntKind.min .i64 = -9223372036854775808 := by decide
  have h2 : IntKind.max .i64 = 9223372036854775807 := by decide
  simp only [Lit.wf, h1, h2, Bool.and_eq_true, decide_eq_true_eq] at h
  exact h
end Go.Proofs.Ytmnkphenobfbfaa
namespace Go.Proofs.Ytmnkphenobfbfaa
open Go.ChangeShapes Go.WideShapes Go.ChangeAt Go.RowKit Go.Deep
set_option maxRecDepth 100000 in
theorem raw_of {H : Type} {enc : TypeId × Value → H} {W : World} {a : Option Addr} {len cap : Nat} {d : DataW H} {ps : List MemPlace} (h : DataW.Trod enc Try.prog W 0 (fun _ => true) true 42 (.slice a len cap) d ps) :
    RawAt W (.slice a len cap) len ∧ len ≤ 9223372036854775807 := by
  obtain ⟨fuel, hf⟩ := h
  rcases open_slice Try.underlying42 hf with ⟨hcs, hx⟩ | ⟨ad, l, c, m, n, D, Pl, hcs, _, hl, hmx, hm, hx, hall⟩
  · simp [Value.cells] at hcs
    obtain ⟨rfl, rfl, rfl⟩ := hcs
    exact ⟨⟨_, _, rfl, by omega, fun k hk => by omega⟩, by omega⟩
  · simp [Value.cells] at hcs
    obtain ⟨rfl, rfl, rfl⟩ := hcs
    simp only [if_true] at hm
    subst hm
    refine ⟨⟨_, _, rfl, hl, fun k hk => ?_⟩, by unfold maxLen at hmx; omega⟩
    obtain ⟨cs', h1, h2⟩ := hall k (by omega)
    obtain ⟨x, rfl, _, wf⟩ := DataW.trod_int Try.underlying3 h2
    rw [cells3] at h1
    obtain ⟨_, _, hc⟩ := World.cells?_some h1
    have hsp : ad.spot = none := by
      obtain ⟨cs0, h10, h20⟩ := hall 0 (by omega)
      obtain ⟨x0, rfl, _, _⟩ := DataW.trod_int Try.underlying3 h20
      rw [cells3] at h10
      obtain ⟨_, _, hc0⟩ := World.cells?_some h10
      have := hc0 0 (by omega)
      simp only [Nat.zero_mul, Addr.add, if_true] at this
      cases hs : ad.spot with
      | none => rfl
      | some s => simp [World.cell?, hs] at this; split at this <;> simp at this
    obtain ⟨sb, so, sp⟩ := ad
    simp only at hsp
    subst hsp
    have e : W.cell? ⟨sb, so + k, none⟩ = some (.int .i64 x) := by
      have := hc 0 (by omega)
      rw [add_add, Addr.add_lit] at this
      rw [Nat.mul_one, Nat.add_zero] at this
      exact this
    exact ⟨sb, so, x, rfl, lt_of_cell e, i64_range wf, e⟩
end Go.Proofs.Ytmnkphenobfbfaa
