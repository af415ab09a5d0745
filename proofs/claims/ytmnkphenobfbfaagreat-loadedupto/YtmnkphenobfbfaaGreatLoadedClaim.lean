import Derived.Test.YtmnkphenobfbfaaGreatRows
import Derived.Test.YtmnkphenobfbfaaGreatGk
import Derived.WalkKit
import Derived.ProofKit
import Derived.OpenShut
import Derived.ChangeOld
import Derived.JoinedCond
import Derived.Deep.Slices
namespace Go.Proofs.YtmnkphenobfbfaaGreat
open Go.ChangeShapes Go.WideShapes Go.ChangeAt Go.RowKit Go.Deep
theorem loaded_own : ownKnob Tryz.prog.godebug = none := by kernel_rfl
theorem loaded_laidOut : laidOutB Tryz.prog = true := by kernel_rfl
theorem cells34 : Tryz.prog.cellsOf 34 = 7 := by kernel_rfl
theorem cells32 : Tryz.prog.cellsOf 32 = 4 := by kernel_rfl
theorem cells3 : Tryz.prog.cellsOf 3 = 1 := by kernel_rfl
theorem one_le_bulk {H : Type} (d : DataW H) : 1 ≤ Rows.uptoBulk d := by
  cases d with
  | lit l => cases l <;> simp [Rows.uptoBulk]
  | nil => simp [Rows.uptoBulk]
  | ptr d => simp [Rows.uptoBulk]
  | slice elems spare => simp [Rows.uptoBulk]
  | agg parts => simp [Rows.uptoBulk]
  | iface t d => simp [Rows.uptoBulk]
  | map entries => simp [Rows.uptoBulk]
  | held h => simp [Rows.uptoBulk]
theorem length_le_bulk {H : Type} (l : List (DataW H)) : l.length ≤ Rows.uptoBulkAll l := by
  induction l with
  | nil => simp [Rows.uptoBulkAll]
  | cons x r ih => have := one_le_bulk x; simp only [Rows.uptoBulkAll, List.length_cons]; omega
set_option maxRecDepth 100000 in
/-- Seven numbers. -/
theorem seven {H : Type} {enc : TypeId × Value → H} {w : World} {base : Nat} {spare : Nat → Bool} {held : Bool} {n : Nat} {cs : List Value} {x : DataW H × List MemPlace} (h : DataW.trod enc Tryz.prog w base spare held n 34 cs = some x) :
    ∃ kd mp i y0 y1 y2 y3 : Int, cs = [.int .i64 kd, .int .i64 mp, .int .i64 i, .int .i64 y0, .int .i64 y1, .int .i64 y2, .int .i64 y3] := by
  obtain ⟨xs, k, _, _, hl, hxl, hf⟩ := DataW.trod_struct Tryz.underlying34 h
  rw [cells34] at hl
  match cs, hl with
  | [c0, c1, c2, c3, c4, c5, c6], _ =>
    match xs, hxl with
    | [z0, z1, z2, z3], _ =>
      have g0 := hf 0 _ rfl
      have g1 := hf 1 _ rfl
      have g2 := hf 2 _ rfl
      have g3 := hf 3 _ rfl
      simp [cells3, cells32] at g0 g1 g2 g3
      obtain ⟨kd, e0, _, _⟩ := DataW.trod_int Tryz.underlying3 g0
      obtain ⟨mp, e1, _, _⟩ := DataW.trod_int Tryz.underlying3 g1
      obtain ⟨i, e2, _, _⟩ := DataW.trod_int Tryz.underlying3 g2
      obtain ⟨us, k', _, _, _, hul, hg⟩ := DataW.trod_struct Tryz.underlying32 g3
      match us, hul with
      | [u0, u1, u2, u3], _ =>
        have q0 := hg 0 _ rfl
        have q1 := hg 1 _ rfl
        have q2 := hg 2 _ rfl
        have q3 := hg 3 _ rfl
        simp [cells3] at q0 q1 q2 q3
        obtain ⟨y0, a0, _, _⟩ := DataW.trod_int Tryz.underlying3 q0
        obtain ⟨y1, a1, _, _⟩ := DataW.trod_int Tryz.underlying3 q1
        obtain ⟨y2, a2, _, _⟩ := DataW.trod_int Tryz.underlying3 q2
        obtain ⟨y3, a3, _, _⟩ := DataW.trod_int Tryz.underlying3 q3
        simp at e0 e1 e2 a0 a1 a2 a3
        subst e0 e1 e2 a0 a1 a2 a3
        exact ⟨_, _, _, _, _, _, _, rfl⟩
set_option maxRecDepth 100000 in
theorem script_of {H : Type} {enc : TypeId × Value → H} {W : World} {a : Option Addr} {len cap : Nat} {d : DataW H} {ps : List MemPlace} (h : DataW.Trod enc Tryz.prog W 0 (fun _ => true) true 36 (.slice a len cap) d ps) :
    Script W (.slice a len cap) len ∧ len + 1 ≤ Rows.uptoBulk d := by
  obtain ⟨fuel, hf⟩ := h
  rcases open_slice Tryz.underlying36 hf with ⟨hcs, hx⟩ | ⟨ad, l, c, m, n, D, Pl, hcs, _, hl, _, hm, hx, hall⟩
  · simp [Value.cells] at hcs
    obtain ⟨rfl, rfl, rfl⟩ := hcs
    simp only [Prod.mk.injEq] at hx
    obtain ⟨rfl, _⟩ := hx
    exact ⟨⟨_, _, rfl, by omega, fun k hk => by omega⟩, by simp [Rows.uptoBulk]⟩
  · simp [Value.cells] at hcs
    obtain ⟨rfl, rfl, rfl⟩ := hcs
    simp only [Prod.mk.injEq] at hx
    obtain ⟨rfl, _⟩ := hx
    simp only [if_true] at hm
    subst hm
    refine ⟨⟨_, _, rfl, hl, fun k hk => ?_⟩, ?_⟩
    · obtain ⟨cs', h1, h2⟩ := hall k (by omega)
      obtain ⟨kd, mp, i, y0, y1, y2, y3, rfl⟩ := seven h2
      rw [cells34] at h1
      obtain ⟨_, _, hc⟩ := World.cells?_some h1
      obtain ⟨cs0, h10, h20⟩ := hall 0 (by omega)
      obtain ⟨_, _, _, _, _, _, _, rfl⟩ := seven h20
      rw [cells34] at h10
      obtain ⟨_, _, hc0⟩ := World.cells?_some h10
      have hsp : ad.spot = none := by
        have := hc0 0 (by omega)
        simp only [Nat.zero_mul, Addr.add, if_true] at this
        cases hs : ad.spot with
        | none => rfl
        | some s => simp [World.cell?, hs] at this; split at this <;> simp at this
      obtain ⟨sb, so, sp⟩ := ad
      simp only at hsp
      subst hsp
      have e : ∀ j, j < 7 → W.cell? ⟨sb, so + k * 7 + j, none⟩ = [Value.int .i64 kd, .int .i64 mp, .int .i64 i, .int .i64 y0, .int .i64 y1, .int .i64 y2, .int .i64 y3][j]? := by
        intro j hj
        have := hc j hj
        rw [add_add, Addr.add_lit] at this
        rw [← this, Nat.add_assoc]
      have hlt : sb < W.heap.size := lt_of_cell (e 0 (by omega))
      exact ⟨sb, so, kd, mp, i, y0, y1, y2, y3, rfl, hlt, e 0 (by omega), e 1 (by omega), e 2 (by omega), e 3 (by omega), e 4 (by omega), e 5 (by omega), e 6 (by omega)⟩
    · have := length_le_bulk ((List.range len).map D)
      simp only [List.length_map, List.length_range] at this
      simp only [Rows.uptoBulk]
      omega
set_option maxRecDepth 100000 in
theorem loaded_lifted (os : Os) (started : os.Started) (H : Type) (enc : TypeId × Value → H) (F : Stop.Interp) :
    ReturnsInHanded {} Tryz.checked os 4 .any ((Rows.OpenSpec.upto Rows.loadedSpec).pre6 enc Tryz.prog Tryz.f4 Rows.loadedUptoRow.domain false) (((Rows.OpenSpec.upto Rows.loadedSpec).at F).post enc Tryz.prog Tryz.f4 false true false false) := by
  refine returnsInHanded_of_cond (C := Tryz.checked) (s := Rows.OpenSpec.upto Rows.loadedSpec) (k := Rows.uptoSmall) rfl loaded_own started (by kernel_rfl) Tryz.func4
    (OpenSpec.witness (enc := enc) (C := Tryz.checked) (s := Rows.OpenSpec.upto Rows.loadedSpec) (k := Rows.uptoSmall) rfl false ⟨#[], #[.slice none 0 0], []⟩ 8 (by kernel_rfl) (by kernel_rfl) (by kernel_rfl)
      (x := ([.nil], [], [])) (by kernel_rfl) rfl (by kernel_rfl)) ?_
  intro W base args ds gs before hval0 hW _ hk _
  have hval : ∀ (j : Nat) t v, Tryz.f4.params[j]? = some t → args[j]? = some v → Value.okWide Tryz.prog W .any base t v := hval0
  have hW' := hW
  obtain ⟨p, q, hA0, hV, rfl, hfz, hnd⟩ := hW
  have hA : DataW.TrodAll enc Tryz.prog W 0 (fun _ => true) true Tryz.f4.params.toList args.toList ds p := hA0
  rw [Tryz.params4] at hA hval
  obtain ⟨v0, vs0, d0, ds0, p0, q0, hargs, rfl, rfl, h0, r0⟩ := trodAll_cons hA
  obtain ⟨rfl, rfl, rfl⟩ := trodAll_nil r0
  obtain rfl : args = #[v0] := by cases args; simp_all
  obtain ⟨rfl, rfl⟩ := trodVars_none hV
  obtain ⟨a0, len0, cap0, rfl⟩ := okWide_slice Tryz.underlying36 (hval 0 36 v0 rfl rfl)
  have k0 := h0
  have lt0 : ∀ x ∈ p0, x.block < W.heap.size := by obtain ⟨m, hm⟩ := k0; exact DataW.trod_lt m _ _ _ hm
  obtain ⟨hS, hb⟩ := script_of k0
  have hb2 : Rows.uptoBulkAll ([d0] ++ []) ≤ 1048576 := of_decide_eq_true hk
  simp only [List.append_nil, Rows.uptoBulkAll] at hb2
  clear hA0 hval0
  refine (loaded_yes _ len0 W hS (by omega)).mono fun e W' ⟨he, hg⟩ => ?_
  subst he
  have bel := hg.below
  exact ⟨_, rfl, _, _, _, [], _, [], hW', trodAll_mk1 (shut_bool Tryz.underlying4 _), trodAll_cons_mk (Below.trod loaded_laidOut (by kernel_rfl) (of_decide_eq_true (by kernel_rfl)) k0 bel lt0) trodAll_mk0, rfl, bel.frame _, fun h => by cases h⟩
theorem loaded_over : Rows.loadedUptoRow.holds Tryz.pinned (Rows.OpenSpec.upto Rows.loadedSpec) :=
  OpenClaim.holds_of_cond 4 Tryz.f4 rfl rfl rfl rfl rfl rfl rfl ⟨rfl, rfl, rfl, rfl, rfl⟩ rfl rfl rfl rfl rfl (by kernel_rfl) Tryz.func4 (by kernel_rfl)
    (of_decide_eq_true (by kernel_rfl)) (by unfold Func.isWrapper; first | (rw [if_pos (by decide +kernel)]; kernel_rfl) | (rw [if_neg (by decide +kernel)]; exact ⟨rfl, rfl⟩))
    (fun os started H enc _ F => loaded_lifted os started H enc F)
/-- THE STATEMENT -/
theorem loaded_holds : Rows.LoadedUptoSaid :=
  loaded_over
#print axioms loaded_holds
end Go.Proofs.YtmnkphenobfbfaaGreat
