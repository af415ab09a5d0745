import Derived.Test.YtmnkphenobfbfaaGreatXy
namespace Go.Proofs.YtmnkphenobfbfaaGreat
open Go.RowKit
set_option maxRecDepth 100000 in
set_option maxHeartbeats 6400000 in
theorem plays_all (S : Value) (n : Nat) (w0 : World) (hS : ScriptR w0 S n) (hn : n ≤ 500000) : Calls Tryz.prog 10 #[S, .bool true, .bool true, .bool true] w0 fun e w' => e = .returned (.bool true) ∧ Kept [] w0 w' := by
  have HS : Hid _ := hS
  have shape : ∃ a c, S = .slice a n c ∧ n ≤ c := by
    obtain ⟨a, c, h1, h2, _⟩ := hS.lies
    exact ⟨a, c, h1, h2⟩
  obtain ⟨sa, sc, rfl, hsc⟩ := shape
  clear hS
  go_enter Tryz.func10, Tryz.ntmps10
  go_wp2_with fail
  refine (vp_new w0.heap.size 3 w0 _ (block_alloc_new _ _) ((Kept.refl [] w0).alloc _) (Nat.le_refl _) (by omega) (by omega)).mono ?_
  rintro e w1 ⟨rfl, hW⟩
  go_wp2_with fail
  refine (vp_go w0.heap.size 0 1 1 0 2 0 0 0 0 w0 _ hW (by omega) (by omega) (by omega)).mono ?_
  rintro e w2 ⟨rfl, hW2⟩
  replace hW := hW2
  clear hW2
  obtain ⟨pb, nn, cap, d0, d1, d3⟩ := vp_cell w0.heap.size (0 + 1) 1 w0 w2 hW (by omega)
  go_wp2_with fail
  clear d0 d1
  refine (vp_go w0.heap.size (0 + 1) 1 2 0 1 1 3 5 0 w0 _ hW (by omega) (by omega) (by omega)).mono ?_
  rintro e w3 ⟨rfl, hW3⟩
  replace hW3 := hW3.moved (k' := 0) (B' := 4) (by omega)
  clear hW
  go_wp2_with fail
  go_loopw [10, 11] (fun ok x W => ∃ (k : Nat), k ≤ 9 ∧ x = .int .i64 k ∧ ok = .bool true ∧ VP w0.heap.size k 4 w0 W) (fun _ x _ => 9 - (intOf x).toNat)
  case atStart => exact ⟨0, by omega, rfl, rfl, hW3⟩
  case round =>
    clear hW3
    obtain ⟨k, hk, rfl, rfl, hW⟩ := hrel
    by_cases hlt : k < 9
    · have hlt' : (k : Int) < 9 := by omega
      go_wp2_with fail
      refine (vp_go w0.heap.size k 4 3 0 1 0 0 0 0 w0 _ hW (by omega) (by omega) (by omega)).mono ?_
      rintro e w3 ⟨rfl, hW3⟩
      clear hW
      go_wp2
      go_roundw
      case rel => exact ⟨k + 1, by omega, by go_num, rfl, hW3⟩
      case measure => simp [intOf]; omega
    · have hlt' : ¬ (k : Int) < 9 := by omega
      have hkk : k = 9 := by omega
      subst hkk
      replace hW := hW.moved (k' := 0) (B' := 14) (by omega)
      go_wp2
      go_loopw [10, 12] (fun ok x W => ∃ (k : Nat), k ≤ n ∧ x = .int .i64 k ∧ ok = .bool true ∧ VP w0.heap.size k 14 w0 W) (fun _ x _ => n - (intOf x).toNat)
      case atStart => exact ⟨0, by omega, rfl, rfl, hW⟩
      case round =>
        clear hW
        obtain ⟨k, hk, rfl, rfl, hW⟩ := hrel
        by_cases hlt : k < n
        · have hlt' : (k : Int) < n := by omega
          obtain ⟨_, _, hs1, _, hs3⟩ := (HS.out.kept hW.kept).lies
          cases hs1
          obtain ⟨sb, so, kd, mp, i, y0, y1, y2, y3, rfl, hltb, r1, r2, c0, c1, c2, c3, c4, c5, c6⟩ := hs3 k hlt
          have HC : Hid _ := hs3
          clear hs3
          have hb31 : (k : Int) ≤ 1048576 := by omega
          by_cases hk2 : kd = 2
          · subst hk2
            by_cases hy1 : y0 = 1
            · subst hy1
              go_wp2_with fail
              refine (vp_go w0.heap.size k 14 2 mp i 1 y1 y2 y3 w0 _ (hW.keptNil ((Kept.refl [] wr).alloc _)) (by omega) r1 r2).mono ?_
              rintro e w2 ⟨rfl, hW2⟩
              clear c0 c1 c2 c3 c4 c5 c6 hW
              go_wp2_with fail
              refine (vp_looks w0.heap.size (k + 1) 14 w0 w2 hW2 (by omega)).mono ?_
              rintro e w3 ⟨rfl, rfl⟩
              go_wp2
              go_roundw
              case rel => exact ⟨k + 1, by omega, by go_num, rfl, hW2⟩
              case measure => simp [intOf]; omega
            · have ey : (y0 == 1) = false := beq_eq_false_iff_ne.2 hy1
              by_cases hy2 : 1 < y0
              · go_wp2_with fail
                refine (vp_go w0.heap.size k 14 2 mp i y0 y1 y2 y3 w0 _ (hW.keptNil ((Kept.refl [] wr).alloc _)) (by omega) r1 r2).mono ?_
                rintro e w2 ⟨rfl, hW2⟩
                clear c0 c1 c2 c3 c4 c5 c6 hW
                go_wp2_with fail
                refine (vp_looks w0.heap.size (k + 1) 14 w0 w2 hW2 (by omega)).mono ?_
                rintro e w3 ⟨rfl, rfl⟩
                go_wp2
                go_roundw
                case rel => exact ⟨k + 1, by omega, by go_num, rfl, hW2⟩
                case measure => simp [intOf]; omega
              · go_wp2_with fail
                refine (vp_go w0.heap.size k 14 2 mp i y0 y1 y2 y3 w0 _ (hW.keptNil ((Kept.refl [] wr).alloc _)) (by omega) r1 r2).mono ?_
                rintro e w2 ⟨rfl, hW2⟩
                clear c0 c1 c2 c3 c4 c5 c6 hW
                go_wp2_with fail
                refine (vp_looks w0.heap.size (k + 1) 14 w0 w2 hW2 (by omega)).mono ?_
                rintro e w3 ⟨rfl, rfl⟩
                go_wp2
                go_roundw
                case rel => exact ⟨k + 1, by omega, by go_num, rfl, hW2⟩
                case measure => simp [intOf]; omega
          · have e2 : (kd == 2) = false := beq_eq_false_iff_ne.2 hk2
            by_cases hk1 : kd = 1
            · subst hk1
              go_wp2_with fail
              refine (vp_go w0.heap.size k 14 1 mp i y0 y1 y2 y3 w0 _ (hW.keptNil ((Kept.refl [] wr).alloc _)) (by omega) r1 r2).mono ?_
              rintro e w2 ⟨rfl, hW2⟩
              clear c0 c1 c2 c3 c4 c5 c6 hW
              go_wp2_with fail
              refine (vp_looks w0.heap.size (k + 1) 14 w0 w2 hW2 (by omega)).mono ?_
              rintro e w3 ⟨rfl, rfl⟩
              go_wp2
              go_roundw
              case rel => exact ⟨k + 1, by omega, by go_num, rfl, hW2⟩
              case measure => simp [intOf]; omega
            · have e1 : (kd == 1) = false := beq_eq_false_iff_ne.2 hk1
              go_wp2_with fail
              refine (vp_go w0.heap.size k 14 kd mp i y0 y1 y2 y3 w0 _ (hW.keptNil ((Kept.refl [] wr).alloc _)) (by omega) r1 r2).mono ?_
              rintro e w2 ⟨rfl, hW2⟩
              clear c0 c1 c2 c3 c4 c5 c6 hW
              go_wp2_with fail
              refine (vp_looks w0.heap.size (k + 1) 14 w0 w2 hW2 (by omega)).mono ?_
              rintro e w3 ⟨rfl, rfl⟩
              go_wp2
              go_roundw
              case rel => exact ⟨k + 1, by omega, by go_num, rfl, hW2⟩
              case measure => simp [intOf]; omega
        · go_wp2
          go_ret
          exact ⟨rfl, hW.kept⟩
set_option maxHeartbeats 400000 in
theorem all_yes (S : Value) (n : Nat) (w : World) (hS : ScriptR w S n) (hn : n ≤ 500000) : Calls Tryz.prog 6 #[S] w fun e w' => e = .returned (.bool true) ∧ Kept [] w w' := by
  go_enter Tryz.func6, Tryz.ntmps6
  go_wp2_with fail
  refine (plays_all S n w hS hn).mono ?_
  rintro e w' ⟨rfl, hk⟩
  go_wp2
  go_ret
  exact ⟨rfl, hk⟩
end Go.Proofs.YtmnkphenobfbfaaGreat
namespace Go.Proofs.YtmnkphenobfbfaaGreat
open Go.ChangeShapes Go.WideShapes Go.ChangeAt Go.RowKit Go.Deep
set_option maxRecDepth 100000 in
theorem all_lifted (os : Os) (started : os.Started) (H : Type) (enc : TypeId × Value → H) (F : Stop.Interp) :
    ReturnsInHanded {} Tryz.checked os 6 .any ((Rows.OpenSpec.upto Rows.allSpec).pre6 enc Tryz.prog Tryz.f6 Rows.allUptoRow.domain false) (((Rows.OpenSpec.upto Rows.allSpec).at F).post enc Tryz.prog Tryz.f6 false true false false) := by
  refine returnsInHanded_of_cond (C := Tryz.checked) (s := Rows.OpenSpec.upto Rows.allSpec) (k := Rows.uptoSmall) rfl law_own started (by kernel_rfl) Tryz.func6
    (OpenSpec.witness (enc := enc) (C := Tryz.checked) (s := Rows.OpenSpec.upto Rows.allSpec) (k := Rows.uptoSmall) rfl false ⟨#[], #[.slice none 0 0], []⟩ 8 (by kernel_rfl) (by kernel_rfl) (by kernel_rfl)
      (x := ([.nil], [], [])) (by kernel_rfl) rfl (by kernel_rfl)) ?_
  intro W base args ds gs before hval0 hW _ hk _
  have hval : ∀ (j : Nat) t v, Tryz.f6.params[j]? = some t → args[j]? = some v → Value.okWide Tryz.prog W .any base t v := hval0
  have hW' := hW
  obtain ⟨p, q, hA0, hV, rfl, hfz, hnd⟩ := hW
  have hA : DataW.TrodAll enc Tryz.prog W 0 (fun _ => true) true Tryz.f6.params.toList args.toList ds p := hA0
  rw [Tryz.params6] at hA hval
  obtain ⟨v0, vs0, d0, ds0, p0, q0, hargs, rfl, rfl, h0, r0⟩ := trodAll_cons hA
  obtain ⟨rfl, rfl, rfl⟩ := trodAll_nil r0
  obtain rfl : args = #[v0] := by cases args; simp_all
  obtain ⟨rfl, rfl⟩ := trodVars_none hV
  obtain ⟨a0, len0, cap0, rfl⟩ := okWide_slice Tryz.underlying36 (hval 0 36 v0 rfl rfl)
  have k0 := h0
  have lt0 : ∀ x ∈ p0, x.block < W.heap.size := by obtain ⟨m, hm⟩ := k0; exact DataW.trod_lt m _ _ _ hm
  obtain ⟨hS, hb⟩ := script_of k0
  have hb2 : Rows.uptoBulkAll ([d0] ++ []) ≤ 1048576 := of_decide_eq_true hk
  simp only [List.append_nil, Rows.uptoBulkAll] at hb2
  clear hA0 hval0
  refine (all_yes _ len0 W hS (by omega)).mono fun e W' ⟨he, hg⟩ => ?_
  subst he
  have bel := hg.below
  exact ⟨_, rfl, _, _, _, [], _, [], hW', trodAll_mk1 (shut_bool Tryz.underlying4 _), trodAll_cons_mk (Below.trod law_laidOut (by kernel_rfl) (of_decide_eq_true (by kernel_rfl)) k0 bel lt0) trodAll_mk0, rfl, bel.frame _, fun h => by cases h⟩
theorem all_over : Rows.allUptoRow.holds Tryz.pinned (Rows.OpenSpec.upto Rows.allSpec) :=
  OpenClaim.holds_of_cond 6 Tryz.f6 rfl rfl rfl rfl rfl rfl rfl ⟨rfl, rfl, rfl, rfl, rfl⟩ rfl rfl rfl rfl rfl (by kernel_rfl) Tryz.func6 (by kernel_rfl)
    (of_decide_eq_true (by kernel_rfl)) (by unfold Func.isWrapper; first | (rw [if_pos (by decide +kernel)]; kernel_rfl) | (rw [if_neg (by decide +kernel)]; exact ⟨rfl, rfl⟩))
    (fun os started H enc _ F => all_lifted os started H enc F)
/-- THE STATEMENT -/
theorem all_holds : Rows.AllUptoSaid :=
  all_over
#print axioms all_holds
end Go.Proofs.YtmnkphenobfbfaaGreat
