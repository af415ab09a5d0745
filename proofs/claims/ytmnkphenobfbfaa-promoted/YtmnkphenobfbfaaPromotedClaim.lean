import Derived.Test.YtmnkphenobfbfaaYd
import Derived.Test.YtmnkphenobfbfaaYa
import Derived.Test.YtmnkphenobfbfaaYb
namespace Go.Proofs.Ytmnkphenobfbfaa
open Go.RowKit
theorem pk_nat2 (x : Int) (n : Nat) (h : 0 < n) : ∃ t : Nat, t < n ∧ pk x n = (t : Int) := by
  have := pk_ok x h
  exact ⟨(pk x n).toNat, by omega, by omega⟩
set_option maxRecDepth 100000 in
set_option maxHeartbeats 6400000 in
theorem promoted_yes (n first : Int) (S : Value) (len : Nat) (w0 : World) (hn : R64 n) (hfi : R64 first) (hS : RawAt w0 S len) (hlen : len ≤ 9223372036854775807) : Calls Try.prog 4 #[.int .i64 n, .int .i64 first, S] w0 fun e w' => e = .returned (.bool true) ∧ Kept [] w0 w' := by
  have HS : Hid _ := hS
  have shape : ∃ a c, S = .slice a len c ∧ len ≤ c := by
    obtain ⟨a, c, h1, h2, _⟩ := hS.lies
    exact ⟨a, c, h1, h2⟩
  obtain ⟨sa, sc, rfl, hsc⟩ := shape
  clear hS
  obtain ⟨f, hf, ef⟩ := pk_nat2 first 8 (by omega)
  obtain ⟨c0, hc0, ec⟩ := pk_nat2 n 8 (by omega)
  have pickF := fun w => k_pick first 8 (by omega) (by omega) hfi w
  rw [ef] at pickF
  have PF : Hid _ := pickF
  have he30 := eql30
  have hg30 := g30
  clear pickF
  go_enter Try.func4, Try.ntmps4
  go_wp2_with fail
  refine (k_new 2 w0 (by omega) (by omega)).mono ?_
  rintro e w1 ⟨b, rfl, h1⟩
  go_wp2_with fail
  refine (k_pick n 8 (by omega) (by omega) hn _).mono ?_
  rintro e w2 ⟨rfl, rfl⟩
  rw [ec]
  have H1 : Hid (KAt b (stM f 0) w0 w2) := h1
  clear h1
  go_wp2_with fail
  go_loopw [10] (fun x W => ∃ k : Nat, k ≤ c0 + 1 ∧ x = .int .i64 k ∧ KAt b (stM f k) w0 W) (fun x _ => c0 + 1 - (intOf x).toNat)
  case atStart => exact ⟨0, by omega, rfl, H1.out⟩
  case round =>
    clear H1
    obtain ⟨k, hk, rfl, hK⟩ := hrel
    have HK : Hid _ := hK
    clear hK
    by_cases hlt : k < c0 + 1
    · have hlt' : (k : Int) < 1 + (c0 : Int) := by omega
      go_wp2_with fail
      refine (PF.out _).mono ?_
      rintro e w3 ⟨rfl, rfl⟩
      go_wp2_with fail
      have hmod : ((f : Int) + (k : Int)) % 8 = (((f + k) % 8 : Nat) : Int) := by omega
      have hone : 1 + (k : Int) = ((1 + k : Nat) : Int) := by omega
      have eb := st_begin f hf k (by omega)
      rw [hmod, hone]
      refine (k_begin HK.out 1 1 (((f + k) % 8 : Nat) : Int) ((1 + k : Nat) : Int) 0).mono ?_
      rintro e w4 ⟨rfl, h4, -⟩
      rw [eb]
      have H4 : Hid _ := h4
      clear h4 eb hmod hone
      go_wp2_with fail
      refine (k_runs b _ 1 w0 w4 H4.out).mono ?_
      rintro e w5 ⟨rfl, h5, -⟩
      have er := st_runs f hf k (by omega)
      simp only [ransOf, er]
      generalize hrr : ((stM f k).begin 1 1 (((f + k) % 8 : Nat) : Int) ((1 + k : Nat) : Int) 0).2.runs 1 30 = rr at *
      have h6 : KAt b (stM f (k + 1)) w0 w5 := by rw [stM, hrr]; exact h5
      obtain ⟨x1, x2, x3, x4, x5⟩ := rr
      have H6 : Hid _ := h6
      clear h5 h6 H4 HK er hrr
      simp only
      go_wp2
      go_roundw
      case rel => exact ⟨k + 1, by omega, by go_num, H6.out.keptNil ((Kept.refl [] _).alloc _)⟩
      case measure => simp [intOf]; omega
    · have hlt' : ¬ (k : Int) < 1 + (c0 : Int) := by omega
      obtain rfl : k = c0 + 1 := by omega
      have lk := st_look f hf (c0 + 1) (by omega) (by omega)
      go_wp2_with fail
      refine (k_look HK.out).mono ?_
      rintro e w3 ⟨b1, b2, rfl, -, -, h3, -⟩
      simp only [view, lk.1, lk.2.1, lk.2.2.1, lk.2.2.2]
      have H3 : Hid _ := h3
      clear h3 HK lk
      have g3 := block_alloc_new w3 (.cells #[.slice (some ⟨b1, 0, none⟩) 0 0, .bool true, .bool true, .slice (some ⟨b2, 0, none⟩) (c0 + 1) (c0 + 1), .int .i64 (stM f (c0 + 1)).mis, .int .i64 (stM f (c0 + 1)).hol] 35)
      have q3 := cell_of g3
      have H4 : Hid _ := And.intro (H3.out.keptNil ((Kept.refl [] w3).alloc (.cells #[.slice (some ⟨b1, 0, none⟩) 0 0, .bool true, .bool true, .slice (some ⟨b2, 0, none⟩) (c0 + 1) (c0 + 1), .int .i64 (stM f (c0 + 1)).mis, .int .i64 (stM f (c0 + 1)).hol] 35))) g3
      have zk3 := H3.out.kept.size
      clear H3 g3
      have hcc : (((c0 + 1 : Nat) : Int) == 1 + (c0 : Int)) = true := by simp; omega
      go_wp2_with fail
      have PK : Hid (∀ (x : Int) (w : World), R64 x → Calls Try.prog 12 #[.int .i64 x, .int .i64 (1 + (c0 : Int))] w fun e w' => e = .returned (.int .i64 (pk x (c0 + 1))) ∧ w' = w) := fun x w hx => by
        rw [show 1 + (c0 : Int) = ((c0 + 1 : Nat) : Int) by omega]
        exact k_pick x (c0 + 1) (by omega) (by omega) hx w
      clear hcc q3
      go_loopw [15] (fun x W => ∃ (j : Nat) (m : M), j ≤ c0 + 1 ∧ x = .int .i64 j ∧ KAt b m w0 W ∧ (j < c0 + 1 → LP f (c0 + 1) j m) ∧ (j = c0 + 1 → PP f (c0 + 1) m) ∧ W.heap[w3.heap.size]? = some (.cells #[.slice (some ⟨b1, 0, none⟩) 0 0, .bool true, .bool true, .slice (some ⟨b2, 0, none⟩) (c0 + 1) (c0 + 1), .int .i64 (stM f (c0 + 1)).mis, .int .i64 (stM f (c0 + 1)).hol] 35 (0, 0))) (fun x _ => c0 + 1 - (intOf x).toNat)
      case atStart => exact ⟨0, _, by omega, rfl, H4.out.1, fun _ => lp_start hf (by omega) (by omega), fun q => by omega, H4.out.2⟩
      case round =>
        clear H4
        obtain ⟨j, m, hj, rfl, hKj, n1, n2, gv⟩ := hrel
        by_cases hjl : j < c0 + 1
        · have hjl' : (j : Int) < 1 + (c0 : Int) := by omega
          have HK : Hid _ := And.intro hKj (And.intro (n1 hjl) gv)
          have hker := hKj.kept
          clear hKj n1 n2 gv
          by_cases hjn : j < len
          · have hjn' : (j : Int) < len := by omega
            have hkt : ((j : Int)).toNat = j := by simp
            obtain ⟨_, _, hs1, _, hs3⟩ := (HS.out.kept hker).lies
            cases hs1
            obtain ⟨sb, so, x, rfl, hltb, hr, hx⟩ := hs3 j hjn
            have HR : Hid _ := hr
            clear hs3 hr hker
            go_wp2_with fail
            refine (PK.out x _ HR.out).mono ?_
            rintro e w5 ⟨rfl, rfl⟩
            obtain ⟨k2, hk2, ek2⟩ := pk_nat2 x (c0 + 1) (by omega)
            rw [ek2]
            clear hx
            go_wp2_with fail
            refine (PF.out _).mono ?_
            rintro e w6 ⟨rfl, rfl⟩
            go_wp2_with fail
            have hmod : ((f : Int) + (k2 : Int)) % 8 = (((f + k2) % 8 : Nat) : Int) := by omega
            first | rw [hmod] | skip
            refine (k_begin HK.out.1 0 0 (((f + k2) % 8 : Nat) : Int) 0 0).mono ?_
            rintro e w7 ⟨rfl, h7, o7⟩
            obtain ⟨eb, m', er, n1, n2⟩ := lp_load (k := k2) hf (by omega) HK.out.2.1 hjl (by omega)
            rw [eb]
            have g7 := o7.at_ _ _ _ HK.out.2.2 (by decide) (by decide) (by decide) (by decide)
            have H7 : Hid _ := And.intro h7 (And.intro g7 (And.intro er (And.intro n1 n2)))
            clear h7 o7 eb er n1 n2 g7 hmod HK
            go_wp2_with fail
            refine (k_runs b _ 0 w0 w7 H7.out.1).mono ?_
            rintro e w8 ⟨rfl, h8, o8⟩
            have g8 := o8.at_ _ _ _ H7.out.2.1 (by decide) (by decide) (by decide) (by decide)
            rw [H7.out.2.2.1] at h8
            rw [H7.out.2.2.1]
            simp only [ransOf]
            have H8 : Hid _ := And.intro h8 (And.intro g8 H7.out.2.2.2)
            clear h8 o8 g8 H7
            go_wp2
            go_roundw
            case rel => exact ⟨j + 1, m', by omega, by go_num, H8.out.1.keptNil ((Kept.refl [] _).alloc _), fun q => H8.out.2.2.1 q, fun q => H8.out.2.2.2 q, block_alloc_lt H8.out.2.1 _⟩
            case measure => simp [intOf]; omega
          · have hjn' : ¬ (j : Int) < len := by omega
            clear hker
            go_wp2_with fail
            refine (PF.out _).mono ?_
            rintro e w6 ⟨rfl, rfl⟩
            go_wp2_with fail
            have hmod : ((f : Int) + (0 : Int)) % 8 = (((f + 0) % 8 : Nat) : Int) := by omega
            first | rw [hmod] | skip
            refine (k_begin HK.out.1 0 0 (((f + 0) % 8 : Nat) : Int) 0 0).mono ?_
            rintro e w7 ⟨rfl, h7, o7⟩
            obtain ⟨eb, m', er, n1, n2⟩ := lp_load (k := 0) hf (by omega) HK.out.2.1 hjl (by omega)
            rw [eb]
            have g7 := o7.at_ _ _ _ HK.out.2.2 (by decide) (by decide) (by decide) (by decide)
            have H7 : Hid _ := And.intro h7 (And.intro g7 (And.intro er (And.intro n1 n2)))
            clear h7 o7 eb er n1 n2 g7 hmod HK
            go_wp2_with fail
            refine (k_runs b _ 0 w0 w7 H7.out.1).mono ?_
            rintro e w8 ⟨rfl, h8, o8⟩
            have g8 := o8.at_ _ _ _ H7.out.2.1 (by decide) (by decide) (by decide) (by decide)
            rw [H7.out.2.2.1] at h8
            rw [H7.out.2.2.1]
            simp only [ransOf]
            have H8 : Hid _ := And.intro h8 (And.intro g8 H7.out.2.2.2)
            clear h8 o8 g8 H7
            go_wp2
            go_roundw
            case rel => exact ⟨j + 1, m', by omega, by go_num, H8.out.1.keptNil ((Kept.refl [] _).alloc _), fun q => H8.out.2.2.1 q, fun q => H8.out.2.2.2 q, block_alloc_lt H8.out.2.1 _⟩
            case measure => simp [intOf]; omega
        · have hjl' : ¬ (j : Int) < 1 + (c0 : Int) := by omega
          obtain rfl : j = c0 + 1 := by omega
          have hP := n2 rfl
          have lk := (st_look f hf (c0 + 1) (by omega) (by omega)).2.2.2
          have HK : Hid _ := And.intro hKj (And.intro hP gv)
          have e1 : cnt m.read 8 = c0 + 1 := by rw [hP.rd]; exact lk
          have e2 : cnt m.dirty 8 = 0 := by rw [hP.dt]; exact cnt_none 8
          have E : Hid _ := And.intro e1 (And.intro e2 (And.intro hP.am (And.intro hP.hd hP.mis)))
          clear hKj n1 n2 hP gv lk e1 e2
          go_wp2_with fail
          refine (k_look HK.out.1).mono ?_
          rintro e w4 ⟨d1, d2, rfl, -, -, h4, o4⟩
          have gv4 := o4.at_ _ _ _ HK.out.2.2 (by decide) (by decide) (by decide) (by decide)
          have c4 := cell_of gv4
          have f4 := frozen_of gv4
          simp only [view, E.out.1, E.out.2.1, E.out.2.2.1, E.out.2.2.2.1, E.out.2.2.2.2]
          have K5 := ((((((h4.set gv4 zk3 (by decide) (by decide) (by decide) (by decide) (by decide) 0 (.slice (some ⟨d1, 0, none⟩) (c0 + 1) (c0 + 1))).set (block_set_same gv4 0 _) zk3 (by decide) (by decide) (by decide) (by decide) (by decide) 1 (.bool false)).set (block_set_same (block_set_same gv4 0 _) 1 _) zk3 (by decide) (by decide) (by decide) (by decide) (by decide) 2 (.bool false)).set (block_set_same (block_set_same (block_set_same gv4 0 _) 1 _) 2 _) zk3 (by decide) (by decide) (by decide) (by decide) (by decide) 3 (.slice (some ⟨d2, 0, none⟩) 0 0)).set (block_set_same (block_set_same (block_set_same (block_set_same gv4 0 _) 1 _) 2 _) 3 _) zk3 (by decide) (by decide) (by decide) (by decide) (by decide) 4 (.int .i64 0)).set (block_set_same (block_set_same (block_set_same (block_set_same (block_set_same gv4 0 _) 1 _) 2 _) 3 _) 4 _) zk3 (by decide) (by decide) (by decide) (by decide) (by decide) 5 (.int .i64 m.hol))
          have H5 : Hid _ := And.intro K5 HK.out.2.1
          clear HK h4 o4 K5 E gv4
          have hcc : (((c0 + 1 : Nat) : Int) == 1 + (c0 : Int)) = true := by simp; omega
          go_wp2_with fail
          clear c4 f4 hcc
          refine (PF.out _).mono ?_
          rintro e w5 ⟨rfl, rfl⟩
          go_wp2_with fail
          obtain ⟨eb, m1, m2, s1, s2⟩ := pp_load hf (by omega) (by omega) H5.out.2
          refine (k_begin H5.out.1 0 0 (f : Int) 0 0).mono ?_
          rintro e w6 ⟨rfl, h6, -⟩
          rw [eb]
          have H6 : Hid _ := And.intro h6 (And.intro s1 s2)
          clear h6 eb s1 s2 H5
          go_wp2_with fail
          refine (k_step H6.out.1 0).mono ?_
          rintro e w7 ⟨rfl, h7, -⟩
          rw [H6.out.2.1] at h7
          rw [H6.out.2.1]
          simp only [ans]
          have k7 := h7.keptNil ((Kept.refl [] w7).alloc (.cells #[.bool false, .bool false, .int .i64 0] 30))
          have g7 := block_alloc_new w7 (.cells #[.bool false, .bool false, .int .i64 0] 30)
          have H7 : Hid _ := And.intro k7 (And.intro g7 H6.out.2.2)
          clear h7 k7 g7 H6
          go_wp2_with fail
          refine (k_step H7.out.1 0).mono ?_
          rintro e w8 ⟨rfl, h8, o8⟩
          rw [H7.out.2.2] at h8
          rw [H7.out.2.2]
          simp only [ans]
          have g8 := o8.at_ _ _ _ H7.out.2.1 (by decide) (by decide) (by decide) (by decide)
          have c8 := cell_of g8
          have z8 := lt_of_block g8
          have H8 : Hid _ := h8.kept
          clear h8 o8 g8 H7
          go_wp2
          go_ret
          exact ⟨rfl, H8.out.trans ((Kept.refl [] _).alloc _)⟩
end Go.Proofs.Ytmnkphenobfbfaa
namespace Go.Proofs.Ytmnkphenobfbfaa
open Go.ChangeShapes Go.WideShapes Go.ChangeAt Go.RowKit Go.Deep
set_option maxRecDepth 100000 in
theorem promoted_lifted (os : Os) (started : os.Started) (H : Type) (enc : TypeId × Value → H) :
    ReturnsInHanded {} Try.checked os 4 .any (Rows.promotedSpec.pre6 enc Try.prog Try.f4 Rows.promotedRow.domain false) (Rows.promotedSpec.post enc Try.prog Try.f4 false true false false) := by
  refine returnsInHanded_of_change (C := Try.checked) keep_own started (by kernel_rfl) Try.func4
    (ChangeSpec.witness6 (enc := enc) (C := Try.checked) false ⟨#[], #[.int .i64 0, .int .i64 0, .slice none 0 0], []⟩ 8 (by kernel_rfl) (by kernel_rfl) (by kernel_rfl) (by kernel_rfl)) ?_
  intro W base args ds gs before hval0 hW hcnd _
  have hval : ∀ (j : Nat) t v, Try.f4.params[j]? = some t → args[j]? = some v → Value.okWide Try.prog W .any base t v := hval0
  have hW' := hW
  obtain ⟨p, q, hA0, hV, rfl, hfz, hnd⟩ := hW
  have hA : DataW.TrodAll enc Try.prog W 0 (fun _ => true) true Try.f4.params.toList args.toList ds p := hA0
  rw [Try.params4] at hA hval
  obtain ⟨v0, vs0, d0, ds0, p0, q0, hargs, rfl, rfl, h0, r0⟩ := trodAll_cons hA
  obtain ⟨v1, vs1, d1, ds1, p1, q1, rfl, rfl, rfl, h1, r1⟩ := trodAll_cons r0
  obtain ⟨v2, vs2, d2, ds2, p2, q2, rfl, rfl, rfl, h2, r2⟩ := trodAll_cons r1
  obtain ⟨rfl, rfl, rfl⟩ := trodAll_nil r2
  obtain rfl : args = #[v0, v1, v2] := by cases args; simp_all
  obtain ⟨rfl, rfl⟩ := trodVars_none hV
  obtain ⟨a0, rfl, rfl, rfl, w0⟩ := open_int Try.underlying3 (hval 0 3 v0 rfl rfl) h0
  obtain ⟨a1, rfl, rfl, rfl, w1⟩ := open_int Try.underlying3 (hval 1 3 v1 rfl rfl) h1
  obtain ⟨a2, len2, cap2, rfl⟩ := okWide_slice Try.underlying42 (hval 2 42 v2 rfl rfl)
  have k2 := h2
  have lt2 : ∀ x ∈ p2, x.block < W.heap.size := by obtain ⟨m, hm⟩ := k2; exact DataW.trod_lt m _ _ _ hm
  obtain ⟨hS, hb⟩ := raw_of k2
  clear hA0 hval0
  refine (promoted_yes a0 a1 _ len2 W (i64_range w0) (i64_range w1) hS hb).mono fun e W' ⟨he, hg⟩ => ?_
  subst he
  have bel := hg.below
  exact ⟨_, rfl, _, _, _, [], _, [], hW', trodAll_mk1 (shut_bool Try.underlying4 _), trodAll_cons_mk (shut_int Try.underlying3 w0) (trodAll_cons_mk (shut_int Try.underlying3 w1) (trodAll_cons_mk (Below.trod keep_laidOut (by kernel_rfl) (of_decide_eq_true (by kernel_rfl)) k2 bel lt2) trodAll_mk0)), rfl, bel.frame _, fun h => by cases h⟩
theorem promoted_over : Rows.promotedRow.holds Try.pinned (OpenSpec.ofChange Rows.promotedSpec) :=
  OpenClaim.holds_of_wide 4 Try.f4 rfl rfl rfl rfl rfl rfl rfl ⟨rfl, rfl, rfl, rfl, rfl⟩ rfl rfl rfl rfl rfl (by kernel_rfl) Try.func4 (by kernel_rfl)
    (of_decide_eq_true (by kernel_rfl)) (by unfold Func.isWrapper; first | (rw [if_pos (by decide +kernel)]; kernel_rfl) | (rw [if_neg (by decide +kernel)]; exact ⟨rfl, rfl⟩))
    (fun os started H enc _ => promoted_lifted os started H enc)
/-- THE STATEMENT -/
theorem promoted_holds : Rows.PromotedSaid :=
  promoted_over
#print axioms promoted_holds
end Go.Proofs.Ytmnkphenobfbfaa
