import Derived.Test.YtmnkphenobfbfaaGreatXx
import Derived.Test.YtmnkphenobfbfaaGreatGk
import Derived.Test.YtmnkphenobfbfaaGreatRows
import Derived.WalkKit
import Derived.ProofKit
import Derived.OpenShut
import Derived.ChangeOld
import Derived.JoinedCond
import Derived.Deep.Slices
namespace Go.Proofs.YtmnkphenobfbfaaGreat
open Go.RowKit
/-- A script whose numbers are numbers of 64 bits. -/
structure ScriptR (w : World) (S : Value) (n : Nat) : Prop where
  lies : ∃ a c, S = .slice a n c ∧ n ≤ c ∧ ∀ k : Nat, k < n → ∃ (sb so : Nat) (kd mp i y0 y1 y2 y3 : Int), a = some ⟨sb, so, none⟩ ∧ sb < w.heap.size ∧ -9223372036854775808 ≤ mp ∧ mp ≤ 9223372036854775807 ∧
    w.cell? ⟨sb, so + k * 7, none⟩ = some (.int .i64 kd) ∧ w.cell? ⟨sb, so + k * 7 + 1, none⟩ = some (.int .i64 mp) ∧ w.cell? ⟨sb, so + k * 7 + 2, none⟩ = some (.int .i64 i) ∧
    w.cell? ⟨sb, so + k * 7 + 3, none⟩ = some (.int .i64 y0) ∧ w.cell? ⟨sb, so + k * 7 + 4, none⟩ = some (.int .i64 y1) ∧ w.cell? ⟨sb, so + k * 7 + 5, none⟩ = some (.int .i64 y2) ∧ w.cell? ⟨sb, so + k * 7 + 6, none⟩ = some (.int .i64 y3)
theorem ScriptR.kept {w w' : World} {S : Value} {n : Nat} (h : ScriptR w S n) (k : Kept [] w w') : ScriptR w' S n := by
  obtain ⟨a, c, h1, h2, h3⟩ := h.lies
  refine ⟨a, c, h1, h2, fun j hj => ?_⟩
  obtain ⟨sb, so, kd, mp, i, y0, y1, y2, y3, e, hlt, r1, r2, c0, c1, c2, c3, c4, c5, c6⟩ := h3 j hj
  have hc : ∀ o, w'.cell? ⟨sb, o, none⟩ = w.cell? ⟨sb, o, none⟩ := fun o => (k.far hlt (by simp)).1
  exact ⟨sb, so, kd, mp, i, y0, y1, y2, y3, e, Nat.lt_of_lt_of_le hlt k.size, r1, r2, (hc _).trans c0, (hc _).trans c1, (hc _).trans c2, (hc _).trans c3, (hc _).trans c4, (hc _).trans c5, (hc _).trans c6⟩
theorem VL.cell0 {wb : Nat} {ds : List PD} {L : Nat} {w0 w : World} (h : VL wb ds L w0 w) (h0 : 0 < ds.length) : ∃ pb cap, w.cell? ⟨wb, 0, none⟩ = some (.slice (some ⟨pb, 0, none⟩) ds.length cap) := by
  obtain ⟨pb, cap, ls, l3, xs, ys, pcs, e1, _⟩ := h.row h0
  exact ⟨pb, cap, cell_of e1 0⟩
theorem vlooks (wb : Nat) (ds : List PD) (L : Nat) (w0 w : World) (h : VL wb ds L w0 w) (hL : L ≤ 4000000) : Calls Tryz.prog 22 #[.pointer (some ⟨wb, 0, none⟩)] w fun e w' => e = .returned (.bool true) ∧ w' = w := by
  obtain ⟨ps, ls, l3, xs, ys, e1, _, e3⟩ := h.at_
  exact looks_yes wb w0.heap.size L ps ls l3 xs ys w e1 e3 hL
/-- All that a script's step needs. -/
structure VP (wb : Nat) (k B : Nat) (w0 W : World) : Prop where
  out : ∃ ds L, 0 < ds.length ∧ ds.length ≤ k + B ∧ L ≤ 2 * k + 2 * B ∧ (∀ (j : Nat) (d : PD), ds[j]? = some d → d.m.nc ≤ k + B) ∧ VL wb ds L w0 W
theorem VP.keptNil {wb k B : Nat} {w0 W W' : World} (h : VP wb k B w0 W) (kp : Kept [] W W') : VP wb k B w0 W' := by
  obtain ⟨ds, L, h0, h1, h2, h3, h4⟩ := h.out
  exact ⟨ds, L, h0, h1, h2, h3, h4.keptNil kp⟩
theorem VP.kept {wb k B : Nat} {w0 W : World} (h : VP wb k B w0 W) : Kept [] w0 W := by
  obtain ⟨ds, L, h0, h1, h2, h3, h4⟩ := h.out
  exact h4.kept
theorem VP.up {wb k B : Nat} {w0 W : World} (h : VP wb k B w0 W) : VP wb (k + 1) B w0 W := by
  obtain ⟨ds, L, h0, h1, h2, h3, h4⟩ := h.out
  exact ⟨ds, L, h0, by omega, by omega, fun j d hj => by have := h3 j d hj; omega, h4⟩
theorem VP.moved {wb k B k' B' : Nat} {w0 W : World} (h : VP wb k B w0 W) (e : k + B ≤ k' + B') : VP wb k' B' w0 W := by
  obtain ⟨ds, L, h0, h1, h2, h3, h4⟩ := h.out
  exact ⟨ds, L, h0, by omega, by omega, fun j d hj => by have := h3 j d hj; omega, h4⟩
theorem vp_go (wb k B : Nat) (kd mp i y0 y1 y2 y3 : Int) (w0 w : World) (h : VP wb k B w0 w) (hb : k + B < 1000000) (hm1 : -9223372036854775808 ≤ mp) (hm2 : mp ≤ 9223372036854775807) :
    Calls Tryz.prog 21 #[.pointer (some ⟨wb, 0, none⟩), .agg #[.int .i64 kd, .int .i64 mp, .int .i64 i, .int .i64 y0, .int .i64 y1, .int .i64 y2, .int .i64 y3]] w fun e w' => e = .returned (.bool true) ∧ VP wb (k + 1) B w0 w' := by
  obtain ⟨ds, L, h0, h1, h2, h3, h4⟩ := h.out
  refine (vgo wb ds L (k + B) kd mp i y0 y1 y2 y3 w0 w h4 h3 hb (by omega) (by omega) hm1 hm2 (fun _ => h0)).mono ?_
  rintro e w' ⟨rfl, hv⟩
  obtain ⟨ds', L', a1, a2, a3, a4, a5⟩ := hv.out
  exact ⟨rfl, ds', L', by omega, by omega, by omega, fun j d hj => by have := a4 j d hj; omega, a5⟩
theorem vp_looks (wb k B : Nat) (w0 w : World) (h : VP wb k B w0 w) (hb : k + B < 1000000) : Calls Tryz.prog 22 #[.pointer (some ⟨wb, 0, none⟩)] w fun e w' => e = .returned (.bool true) ∧ w' = w := by
  obtain ⟨ds, L, h0, h1, h2, h3, h4⟩ := h.out
  exact vlooks wb ds L w0 w h4 (by omega)
theorem vp_cell (wb k B : Nat) (w0 w : World) (h : VP wb k B w0 w) (hb : k + B < 1000000) : ∃ (pb n cap : Nat), w.cell? ⟨wb, 0, none⟩ = some (.slice (some ⟨pb, 0, none⟩) n cap) ∧ ((n : Int) == 0) = false ∧ n ≤ 1000000 := by
  obtain ⟨ds, L, h0, h1, h2, h3, h4⟩ := h.out
  obtain ⟨pb, cap, e⟩ := h4.cell0 h0
  exact ⟨pb, ds.length, cap, e, beq_eq_false_iff_ne.2 (by omega), by omega⟩
theorem vp_new (wb n : Nat) (w0 w : World) (hb : w.heap[wb]? = some (.cells #[.slice none 0 0, .slice none 0 0, .slice none 0 0] 64 (0, 0))) (hw : Kept [] w0 w) (hz : w0.heap.size ≤ wb) (h1 : 1 ≤ n) (h6 : n ≤ 6) :
    Calls Tryz.prog 21 #[.pointer (some ⟨wb, 0, none⟩), .agg #[.int .i64 1, .int .i64 0, .int .i64 n, .int .i64 0, .int .i64 0, .int .i64 0, .int .i64 0]] w fun e w' => e = .returned (.bool true) ∧ VP wb 0 1 w0 w' := by
  refine (vnew_yes wb n [] 0 0 0 0 0 0 w0 w (VL.empty hb hw hz) h1 h6 (by simp)).mono ?_
  rintro e w' ⟨rfl, hv⟩
  obtain ⟨d, hd, hV⟩ := hv.out
  refine ⟨rfl, [d], 0, by simp, by simp, by omega, fun j c hj => ?_, hV⟩
  have hm := List.mem_of_getElem? hj
  simp only [List.mem_singleton] at hm
  rw [hm, hd]
  exact Nat.zero_le _
end Go.Proofs.YtmnkphenobfbfaaGreat
namespace Go.Proofs.YtmnkphenobfbfaaGreat
open Go.ChangeShapes Go.WideShapes Go.ChangeAt Go.RowKit Go.Deep
theorem i64_range {n : Int} (h : (Lit.int .i64 n).wf = true) : -9223372036854775808 ≤ n ∧ n ≤ 9223372036854775807 := by
  have h1 : IntKind.min .i64 = -9223372036854775808 := by decide
  have h2 : IntKind.max .i64 = 9223372036854775807 := by decide
  simp only [Lit.wf, h1, h2, Bool.and_eq_true, decide_eq_true_eq] at h
  exact h
theorem law_own : ownKnob Tryz.prog.godebug = none := by kernel_rfl
theorem law_laidOut : laidOutB Tryz.prog = true := by kernel_rfl
theorem cells34 : Tryz.prog.cellsOf 34 = 7 := by kernel_rfl
theorem cells32 : Tryz.prog.cellsOf 32 = 4 := by kernel_rfl
theorem cells3 : Tryz.prog.cellsOf 3 = 1 := by kernel_rfl
theorem one_le_bulk {H : Type} (d : DataW H) : 1 ≤ Rows.uptoBulk d := by
  cases d with
  | lit l => cases l <;> simp [Rows.uptoBulk]
  | nil => simp [Rows.uptoBulk]
  | ptr d => simp [Rows.uptoBulk]
  | slice elems spare => simp [Rows.uptoBulk]
  | agg parts => simp [Rows.uptoBulk]
  | iface t d => simp [Rows.uptoBulk]
  | map entries => simp [Rows.uptoBulk]
  | held h => simp [Rows.uptoBulk]
theorem length_le_bulk {H : Type} (l : List (DataW H)) (h : ∀ x, x ∈ l → 3 ≤ Rows.uptoBulk x) : 3 * l.length ≤ Rows.uptoBulkAll l := by
  induction l with
  | nil => simp [Rows.uptoBulkAll]
  | cons x r ih =>
    have := h x (by simp)
    have := ih (fun y hy => h y (by simp [hy]))
    simp only [Rows.uptoBulkAll, List.length_cons]; omega
set_option maxRecDepth 100000 in
/-- Seven numbers. -/
theorem seven {H : Type} {enc : TypeId × Value → H} {w : World} {base : Nat} {spare : Nat → Bool} {held : Bool} {n : Nat} {cs : List Value} {x : DataW H × List MemPlace} (h : DataW.trod enc Tryz.prog w base spare held n 34 cs = some x) :
    (∃ kd mp i y0 y1 y2 y3 : Int, cs = [.int .i64 kd, .int .i64 mp, .int .i64 i, .int .i64 y0, .int .i64 y1, .int .i64 y2, .int .i64 y3] ∧ -9223372036854775808 ≤ mp ∧ mp ≤ 9223372036854775807) ∧ 3 ≤ Rows.uptoBulk x.1 := by
  obtain ⟨xs, k, _, hxx, hl, hxl, hf⟩ := DataW.trod_struct Tryz.underlying34 h
  rw [cells34] at hl
  match cs, hl with
  | [c0, c1, c2, c3, c4, c5, c6], _ =>
    match xs, hxl with
    | [z0, z1, z2, z3], _ =>
      have g0 := hf 0 _ rfl
      have g1 := hf 1 _ rfl
      have g2 := hf 2 _ rfl
      have g3 := hf 3 _ rfl
      simp [cells3, cells32] at g0 g1 g2 g3
      obtain ⟨kd, e0, _, _⟩ := DataW.trod_int Tryz.underlying3 g0
      obtain ⟨mp, e1, _, wf1⟩ := DataW.trod_int Tryz.underlying3 g1
      obtain ⟨i, e2, _, _⟩ := DataW.trod_int Tryz.underlying3 g2
      obtain ⟨us, k', _, _, _, hul, hg⟩ := DataW.trod_struct Tryz.underlying32 g3
      match us, hul with
      | [u0, u1, u2, u3], _ =>
        have q0 := hg 0 _ rfl
        have q1 := hg 1 _ rfl
        have q2 := hg 2 _ rfl
        have q3 := hg 3 _ rfl
        simp [cells3] at q0 q1 q2 q3
        obtain ⟨y0, a0, _, _⟩ := DataW.trod_int Tryz.underlying3 q0
        obtain ⟨y1, a1, _, _⟩ := DataW.trod_int Tryz.underlying3 q1
        obtain ⟨y2, a2, _, _⟩ := DataW.trod_int Tryz.underlying3 q2
        obtain ⟨y3, a3, _, _⟩ := DataW.trod_int Tryz.underlying3 q3
        simp at e0 e1 e2 a0 a1 a2 a3
        subst e0 e1 e2 a0 a1 a2 a3
        have hr := i64_range wf1
        refine ⟨⟨_, _, _, _, _, _, _, rfl, hr.1, hr.2⟩, ?_⟩
        subst hxx
        have := one_le_bulk z0.1
        have := one_le_bulk z1.1
        simp only [Rows.uptoBulk, Rows.uptoBulkAll, List.map]
        omega
set_option maxRecDepth 100000 in
theorem script_of {H : Type} {enc : TypeId × Value → H} {W : World} {a : Option Addr} {len cap : Nat} {d : DataW H} {ps : List MemPlace} (h : DataW.Trod enc Tryz.prog W 0 (fun _ => true) true 36 (.slice a len cap) d ps) :
    ScriptR W (.slice a len cap) len ∧ 3 * len + 1 ≤ Rows.uptoBulk d := by
  obtain ⟨fuel, hf⟩ := h
  rcases open_slice Tryz.underlying36 hf with ⟨hcs, hx⟩ | ⟨ad, l, c, m, n, D, Pl, hcs, _, hl, _, hm, hx, hall⟩
  · simp [Value.cells] at hcs
    obtain ⟨rfl, rfl, rfl⟩ := hcs
    simp only [Prod.mk.injEq] at hx
    obtain ⟨rfl, _⟩ := hx
    exact ⟨⟨_, _, rfl, by omega, fun k hk => by omega⟩, by simp [Rows.uptoBulk]⟩
  · simp [Value.cells] at hcs
    obtain ⟨rfl, rfl, rfl⟩ := hcs
    simp only [Prod.mk.injEq] at hx
    obtain ⟨rfl, _⟩ := hx
    simp only [if_true] at hm
    subst hm
    refine ⟨⟨_, _, rfl, hl, fun k hk => ?_⟩, ?_⟩
    · obtain ⟨cs', h1, h2⟩ := hall k (by omega)
      obtain ⟨⟨kd, mp, i, y0, y1, y2, y3, rfl, hr1, hr2⟩, _⟩ := seven h2
      rw [cells34] at h1
      obtain ⟨_, _, hc⟩ := World.cells?_some h1
      obtain ⟨cs0, h10, h20⟩ := hall 0 (by omega)
      obtain ⟨⟨_, _, _, _, _, _, _, rfl, _, _⟩, _⟩ := seven h20
      rw [cells34] at h10
      obtain ⟨_, _, hc0⟩ := World.cells?_some h10
      have hsp : ad.spot = none := by
        have := hc0 0 (by omega)
        simp only [Nat.zero_mul, Addr.add, if_true] at this
        cases hs : ad.spot with
        | none => rfl
        | some s => simp [World.cell?, hs] at this; split at this <;> simp at this
      obtain ⟨sb, so, sp⟩ := ad
      simp only at hsp
      subst hsp
      have e : ∀ j, j < 7 → W.cell? ⟨sb, so + k * 7 + j, none⟩ = [Value.int .i64 kd, .int .i64 mp, .int .i64 i, .int .i64 y0, .int .i64 y1, .int .i64 y2, .int .i64 y3][j]? := by
        intro j hj
        have := hc j hj
        rw [add_add, Addr.add_lit] at this
        rw [← this, Nat.add_assoc]
      have hlt : sb < W.heap.size := lt_of_cell (e 0 (by omega))
      exact ⟨sb, so, kd, mp, i, y0, y1, y2, y3, rfl, hlt, hr1, hr2, e 0 (by omega), e 1 (by omega), e 2 (by omega), e 3 (by omega), e 4 (by omega), e 5 (by omega), e 6 (by omega)⟩
    · have := length_le_bulk ((List.range len).map D) (fun x hx => by
        obtain ⟨k, hk, rfl⟩ := List.mem_map.1 hx
        obtain ⟨cs', _, h2⟩ := hall k (by have := List.mem_range.1 hk; omega)
        exact (seven h2).2)
      simp only [List.length_map, List.length_range] at this
      simp only [Rows.uptoBulk]
      omega
end Go.Proofs.YtmnkphenobfbfaaGreat
