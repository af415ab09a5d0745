import Derived.Test.YtmnkphenobfbfaaYa
namespace Go.Proofs.Ytmnkphenobfbfaa
open Go.RowKit
/-- A thread goes on until it is done: how many steps that takes (counted from i on), its result, the machine. -/
def M.stps (m : M) (t : Int) : Nat → Nat → Nat × Bool × Bool × Int × M
  | 0, _ => (30, false, false, 0, m)
  | n + 1, i => if (m.step t).err = 0 ∧ (m.step t).o.d = false then M.stps (m.step t).o.m t n (i + 1) else (i, (m.step t).o.d, (m.step t).o.f, (m.step t).o.v, (m.step t).o.m)
def stpsOf (x : Nat × Bool × Bool × Int × M) : Value := .tuple #[.int .i64 x.1, .agg #[.bool x.2.1, .bool x.2.2.1, .int .i64 x.2.2.2.1]]
structure Stpd (b : Nat) (x : Nat × Bool × Bool × Int × M) (w0 w : World) (e : Ending) (w' : World) : Prop where
  e : e = .returned (stpsOf x)
  k : KAt b x.2.2.2.2 w0 w'
  off : Off w w'
set_option maxRecDepth 100000 in
set_option maxHeartbeats 1600000 in
theorem k_steps (b : Nat) (m0 : M) (t : Int) (w0 w : World) (h : KAt b m0 w0 w) : Calls Try.prog 10 #[.pointer (some ⟨b, 0, none⟩), .int .i64 t] w (Stpd b (m0.stps t 29 1) w0 w) := by
  have h1 := h.keptNil ((Kept.refl [] w).alloc (.cells #[.bool false, .bool false, .int .i64 0] 30))
  have g1 := block_alloc_new w (.cells #[.bool false, .bool false, .int .i64 0] 30)
  have o1 : Off w (w.alloc (.cells #[.bool false, .bool false, .int .i64 0] 30)) := Off.ofKept ((Kept.refl [] w).alloc _)
  have hz := h.kept.size
  clear h
  go_enter Try.func10, Try.ntmps10
  go_wp2_with fail
  go_loopw [6] (fun x W => ∃ (k : Nat) (m : M), k ≤ 29 ∧ x = .int .i64 ((k + 1 : Nat) : Int) ∧ KAt b m w0 W ∧ m.stps t (29 - k) (k + 1) = m0.stps t 29 1 ∧ Off w W ∧ W.heap[w.heap.size]? = some (.cells #[.bool false, .bool false, .int .i64 0] 30 (0, 0))) (fun x _ => 30 - (intOf x).toNat)
  case atStart => exact ⟨0, m0, by omega, rfl, h1, rfl, o1, g1⟩
  case round =>
    clear h1 g1 o1
    obtain ⟨k, m, hk, rfl, hK, hr, hO, hB⟩ := hrel
    have zB := lt_of_block hB
    by_cases hlt : k < 29
    · have hlt' : ((k + 1 : Nat) : Int) < 30 := by omega
      rw [show 29 - k = (29 - (k + 1)) + 1 by omega, M.stps] at hr
      have HK : Hid _ := And.intro hK hO
      have HB : Hid _ := hB
      have HR : Hid _ := hr
      clear hK hO hr hB
      go_wp2_with fail
      refine (k_step HK.out.1 t).mono ?_
      rintro e w2 ⟨rfl, hK2, hO2⟩
      simp only [ans]
      have hB2 := hO2.at_ _ _ _ HB.out (by decide) (by decide) (by decide) (by decide)
      have z2 := lt_of_block hB2
      have hc2 : ∀ o, w2.cell? ⟨w.heap.size, o, none⟩ = #[.bool false, .bool false, .int .i64 0][o]? := cell_of hB2
      have hf2 : ∀ o, w2.frozen? ⟨w.heap.size, o, none⟩ = false := frozen_of hB2
      have HK2 : Hid _ := And.intro hK2 (HK.out.2.trans hO2)
      have HB2 : Hid _ := hB2
      clear hK2 hO2 hB2
      generalize (m.step t).o.d = xd at *
      generalize (m.step t).o.f = xf at *
      generalize (m.step t).o.v = xv at *
      generalize (m.step t).o.m = xm at *
      generalize (m.step t).err = xe at *
      have rB := block_alloc_lt HB2.out (.cells #[.bool xd, .bool xf, .int .i64 xv] 30)
      have K3 := HK2.out.1.keptNil ((Kept.refl [] w2).alloc (.cells #[.bool xd, .bool xf, .int .i64 xv] 30))
      have O3 := HK2.out.2.alloc (.cells #[.bool xd, .bool xf, .int .i64 xv] 30)
      have HX : Hid _ := And.intro rB (And.intro K3 O3)
      clear rB K3 O3
      by_cases he : xe = 0
      · subst he
        by_cases hd : xd = false
        · subst hd
          have hr2 := HR.out
          rw [if_pos ⟨rfl, rfl⟩] at hr2
          have HR2 : Hid _ := hr2
          clear hr2
          go_wp2
          go_roundw
          case rel => exact ⟨k + 1, xm, by omega, by go_num, HX.out.2.1, HR2.out, HX.out.2.2, HX.out.1⟩
          case measure => simp [intOf]; omega
        · have hd' : xd = true := by simpa using hd
          subst hd'
          have hr2 := HR.out
          rw [if_neg (by simp)] at hr2
          have HR2 : Hid _ := hr2
          clear hr2 hd
          go_wp2_with fail
          go_region
          go_wp2_with fail
          refine bodyPost_ret (v := stpsOf (m0.stps t 29 1)) (by rw [← HR2.out]; simp [results, Try.results10, go_sem, stpsOf, cell_of (block_alloc_lt (resLaidP HB2.out true xf xv) (.cells #[.bool true, .bool xf, .int .i64 xv] 30))]) rfl ⟨rfl, ?_, ((HK2.out.2.res (Nat.le_refl _) _ _ _).alloc _).trans (Off.ofKept (Kept.refl [] _).drew)⟩
          rw [← HR2.out]
          exact (HK2.out.1.res HB2.out hz _ _ _).keptNil ((Kept.refl [] _).alloc _).drew
      · have heb : (xe == 0) = false := beq_eq_false_iff_ne.2 he
        have hr2 := HR.out
        rw [if_neg (fun q => he q.1)] at hr2
        have HR2 : Hid _ := hr2
        clear hr2
        go_wp2_with fail
        go_region
        go_wp2_with fail
        refine bodyPost_ret (v := stpsOf (m0.stps t 29 1)) (by rw [← HR2.out]; simp [results, Try.results10, go_sem, stpsOf, cell_of (block_alloc_lt (resLaidP HB2.out xd xf xv) (.cells #[.bool xd, .bool xf, .int .i64 xv] 30))]) rfl ⟨rfl, ?_, ((HK2.out.2.res (Nat.le_refl _) _ _ _).alloc _).trans (Off.ofKept (Kept.refl [] _).drew)⟩
        rw [← HR2.out]
        exact (HK2.out.1.res HB2.out hz _ _ _).keptNil ((Kept.refl [] _).alloc _).drew
    · obtain rfl : k = 29 := by omega
      have hr2 : m.stps t 0 30 = m0.stps t 29 1 := hr
      have hc2 : ∀ o, wr.cell? ⟨w.heap.size, o, none⟩ = #[.bool false, .bool false, .int .i64 0][o]? := cell_of hB
      have hf2 : ∀ o, wr.frozen? ⟨w.heap.size, o, none⟩ = false := frozen_of hB
      have HX : Hid _ := And.intro hB (And.intro hK (And.intro hO hr2))
      clear hr hr2 hB hK hO
      go_wp2
      refine bodyPost_ret (v := stpsOf (m0.stps t 29 1)) (by rw [← HX.out.2.2.2]; simp [results, Try.results10, go_sem, stpsOf, M.stps, cell_of (resLaidP HX.out.1 false false 0)]) rfl ⟨rfl, ?_, HX.out.2.2.1.res (Nat.le_refl _) _ _ _⟩
      rw [← HX.out.2.2.2]
      exact HX.out.2.1.res HX.out.1 hz _ _ _
end Go.Proofs.Ytmnkphenobfbfaa
namespace Go.Proofs.Ytmnkphenobfbfaa
open Go.RowKit
/-! The document's examples, by the machine. -/
def kn0 : M := M.new 2
def kn1 : M := (kn0.begin 0 1 3 5 0).2
theorem kn1_ok : (kn0.begin 0 1 3 5 0).1 = 0 := by decide +kernel
def kn2 : M := (kn1.stps 0 29 1).2.2.2.2
theorem kn2_n : (kn1.stps 0 29 1).1 = 8 := by decide +kernel
theorem kn2_d : (kn1.stps 0 29 1).2.1 = true := by decide +kernel
theorem kn2_f : (kn1.stps 0 29 1).2.2.1 = true := by decide +kernel
theorem kn2_v : (kn1.stps 0 29 1).2.2.2.1 = 5 := by decide +kernel
theorem kn2_r : cnt kn2.read 8 = 0 := by decide +kernel
theorem kn2_a : kn2.am = true := by decide +kernel
theorem kn2_h : kn2.hd = true := by decide +kernel
theorem kn2_c : cnt kn2.dirty 8 = 1 := by decide +kernel
theorem kn2_l : kn2.dtL = [(3, 0, 5)] := by decide +kernel
def kn3 : M := (kn2.begin 0 0 3 0 0).2
theorem kn3_ok : (kn2.begin 0 0 3 0 0).1 = 0 := by decide +kernel
def kn4 : M := (kn3.stps 0 29 1).2.2.2.2
theorem kn4_n : (kn3.stps 0 29 1).1 = 10 := by decide +kernel
theorem kn4_d : (kn3.stps 0 29 1).2.1 = true := by decide +kernel
theorem kn4_f : (kn3.stps 0 29 1).2.2.1 = true := by decide +kernel
theorem kn4_v : (kn3.stps 0 29 1).2.2.2.1 = 5 := by decide +kernel
def kn5 : M := (kn4.begin 0 0 3 0 0).2
theorem kn5_ok : (kn4.begin 0 0 3 0 0).1 = 0 := by decide +kernel
def kn6 : M := (kn5.stps 0 29 1).2.2.2.2
theorem kn6_n : (kn5.stps 0 29 1).1 = 2 := by decide +kernel
theorem kn6_d : (kn5.stps 0 29 1).2.1 = true := by decide +kernel
theorem kn6_f : (kn5.stps 0 29 1).2.2.1 = true := by decide +kernel
theorem kn6_v : (kn5.stps 0 29 1).2.2.2.1 = 5 := by decide +kernel
def kn7 : M := (kn6.begin 0 0 4 0 0).2
theorem kn7_ok : (kn6.begin 0 0 4 0 0).1 = 0 := by decide +kernel
def kn8 : M := (kn7.stps 0 29 1).2.2.2.2
theorem kn8_n : (kn7.stps 0 29 1).1 = 1 := by decide +kernel
theorem kn8_d : (kn7.stps 0 29 1).2.1 = true := by decide +kernel
theorem kn8_f : (kn7.stps 0 29 1).2.2.1 = false := by decide +kernel
theorem kn8_v : (kn7.stps 0 29 1).2.2.2.1 = 0 := by decide +kernel
def kn9 : M := (kn8.begin 1 2 3 0 0).2
theorem kn9_ok : (kn8.begin 1 2 3 0 0).1 = 0 := by decide +kernel
def kna : M := (kn9.stps 1 29 1).2.2.2.2
theorem kna_n : (kn9.stps 1 29 1).1 = 3 := by decide +kernel
theorem kna_d : (kn9.stps 1 29 1).2.1 = true := by decide +kernel
theorem kna_f : (kn9.stps 1 29 1).2.2.1 = true := by decide +kernel
theorem kna_v : (kn9.stps 1 29 1).2.2.2.1 = 5 := by decide +kernel
def knb : M := (kna.begin 1 1 4 6 0).2
theorem knb_ok : (kna.begin 1 1 4 6 0).1 = 0 := by decide +kernel
def knc : M := (knb.stps 1 29 1).2.2.2.2
theorem knc_n : (knb.stps 1 29 1).1 = 9 := by decide +kernel
theorem knc_d : (knb.stps 1 29 1).2.1 = true := by decide +kernel
theorem knc_f : (knb.stps 1 29 1).2.2.1 = true := by decide +kernel
theorem knc_v : (knb.stps 1 29 1).2.2.2.1 = 6 := by decide +kernel
def knd : M := (knc.begin 1 1 3 7 0).2
theorem knd_ok : (knc.begin 1 1 3 7 0).1 = 0 := by decide +kernel
def kne : M := (knd.stps 1 29 1).2.2.2.2
theorem kne_n : (knd.stps 1 29 1).1 = 8 := by decide +kernel
theorem kne_d : (knd.stps 1 29 1).2.1 = true := by decide +kernel
theorem kne_f : (knd.stps 1 29 1).2.2.1 = true := by decide +kernel
theorem kne_v : (knd.stps 1 29 1).2.2.2.1 = 7 := by decide +kernel
theorem kne_r : cnt kne.read 8 = 1 := by decide +kernel
theorem kne_c : cnt kne.dirty 8 = 2 := by decide +kernel
theorem kne_l : kne.dtL = [(3, 0, 7), (4, 0, 6)] := by decide +kernel
def ta1 : M := (kn2.begin 0 1 5 1 0).2
def ta2 : M := (ta1.step 0).o.m
def ta3 : M := (ta2.begin 1 1 6 1 0).2
def ta4 : M := (ta3.step 1).o.m
def ta5 : M := (ta4.step 0).o.m
def ta6 : M := (ta5.step 1).o.m
theorem ta1_ok : (kn2.begin 0 1 5 1 0).1 = 0 := by decide +kernel
theorem ta2_ok : (ta1.step 0).err = 0 := by decide +kernel
theorem ta3_ok : (ta2.begin 1 1 6 1 0).1 = 0 := by decide +kernel
theorem ta4_ok : (ta3.step 1).err = 0 := by decide +kernel
theorem ta5_ok : (ta4.step 0).err = 0 := by decide +kernel
theorem ta6_ok : (ta5.step 1).err = 4 := by decide +kernel
def tk : Nat → M
  | 0 => ta6
  | n + 1 => (((tk n).step 0).o.m.step 1).o.m
theorem tk_g : ∀ k, k < 4 → ((tk k).step 0).err = 0 := by decide +kernel
theorem tk_d : ∀ k, k < 3 → ((tk k).step 0).o.d = false := by decide +kernel
theorem tk_d3 : ((tk 3).step 0).o.d = true := by decide +kernel
theorem tk_h : ∀ k, k < 3 → (((tk k).step 0).o.m.step 1).err = 4 := by decide +kernel
theorem tk_h3 : (((tk 3).step 0).o.m.step 1).err = 0 := by decide +kernel
end Go.Proofs.Ytmnkphenobfbfaa
namespace Go.Proofs.Ytmnkphenobfbfaa
open Go.RowKit
def tb : Nat → M
  | 0 => kn2
  | 1 => ta2
  | _ => ta4
set_option maxRecDepth 100000 in
set_option maxHeartbeats 3200000 in
theorem k_taken (b : Nat) (w0 w : World) (h : KAt b kn2 w0 w) : Calls Try.prog 13 #[.pointer (some ⟨b, 0, none⟩)] w fun e w' => e = .returned (.bool true) ∧ Kept [] w0 w' := by
  have HH : Hid _ := h
  clear h
  go_enter Try.func13, Try.ntmps13
  go_wp2_with fail
  go_loopw [3] (fun x W => ∃ k : Nat, k ≤ 2 ∧ x = .int .i64 k ∧ KAt b (tb k) w0 W) (fun x _ => 2 - (intOf x).toNat)
  case atStart => exact ⟨0, by omega, rfl, HH.out⟩
  case round =>
    clear HH
    obtain ⟨k, hk, rfl, hK⟩ := hrel
    by_cases h0 : k = 0
    · subst h0
      have HK : Hid (KAt b kn2 w0 wr) := hK
      clear hK
      go_wp2_with fail
      refine (k_begin HK.out 0 1 5 1 0).mono ?_
      rintro e w2 ⟨rfl, h2, -⟩
      rw [ta1_ok]
      go_wp2_with fail
      refine (k_step h2 0).mono ?_
      rintro e w3 ⟨rfl, h3, -⟩
      rw [show (M.step (kn2.begin 0 1 5 1 0).2 0).err = 0 from ta2_ok]
      have H3 : Hid (KAt b ta2 w0 w3) := h3
      clear h2 h3
      simp only [ans]
      go_wp2
      go_roundw
      case rel => exact ⟨1, by omega, by go_num, H3.out.keptNil ((Kept.refl [] _).alloc _)⟩
      case measure => simp [intOf]
    · by_cases h1 : k = 1
      · subst h1
        have HK : Hid (KAt b ta2 w0 wr) := hK
        clear hK
        go_wp2_with fail
        refine (k_begin HK.out 1 1 6 1 0).mono ?_
        rintro e w2 ⟨rfl, h2, -⟩
        rw [ta3_ok]
        go_wp2_with fail
        refine (k_step h2 1).mono ?_
        rintro e w3 ⟨rfl, h3, -⟩
        rw [show (M.step (ta2.begin 1 1 6 1 0).2 1).err = 0 from ta4_ok]
        have H3 : Hid (KAt b ta4 w0 w3) := h3
        clear h2 h3
        simp only [ans]
        go_wp2
        go_roundw
        case rel => exact ⟨2, by omega, by go_num, H3.out.keptNil ((Kept.refl [] _).alloc _)⟩
        case measure => simp [intOf]
      · obtain rfl : k = 2 := by omega
        have HK : Hid (KAt b ta4 w0 wr) := hK
        clear hK
        go_wp2_with fail
        refine (k_step HK.out 0).mono ?_
        rintro e w3 ⟨rfl, h3, -⟩
        rw [ta5_ok]
        have H3 : Hid (KAt b ta5 w0 w3) := h3
        clear h3 HK
        simp only [ans]
        go_wp2_with fail
        refine (k_step (H3.out.keptNil ((Kept.refl [] _).alloc _)) 1).mono ?_
        rintro e w4 ⟨rfl, h4, -⟩
        rw [ta6_ok]
        have H4 : Hid (KAt b ta6 w0 w4) := h4
        clear h4 H3
        simp only [ans]
        go_wp2_with fail
        go_loopw [11] (fun x W => ∃ k : Nat, k ≤ 3 ∧ x = .int .i64 ((k + 2 : Nat) : Int) ∧ KAt b (tk k) w0 W) (fun x _ => 30 - (intOf x).toNat)
        case atStart => exact ⟨0, by omega, rfl, H4.out.keptNil ((Kept.refl [] _).alloc _)⟩
        case round =>
          clear H4
          obtain ⟨k, hk, rfl, hK⟩ := hrel
          have hlt' : ((k + 2 : Nat) : Int) < 30 := by omega
          have eg := tk_g k (by omega)
          have HK : Hid _ := hK
          clear hK
          go_wp2_with fail
          refine (k_step HK.out 0).mono ?_
          rintro e w3 ⟨rfl, h3, -⟩
          rw [eg]
          simp only [ans]
          generalize ((tk k).step 0).o.f = of0 at *
          generalize ((tk k).step 0).o.v = ov0 at *
          have H3 : Hid _ := h3
          clear h3
          by_cases h3 : k < 3
          · have ed := tk_d k h3
            have eh := tk_h k h3
            rw [ed]
            clear eg
            go_wp2_with fail
            refine (k_step (H3.out.keptNil ((Kept.refl [] _).alloc _)) 1).mono ?_
            rintro e w5 ⟨rfl, h5, o5⟩
            rw [eh]
            have g5 := o5.at_ _ _ _ (block_alloc_new w3 (.cells #[.bool false, .bool of0, .int .i64 ov0] 30)) (by decide) (by decide) (by decide) (by decide)
            have c5 : ∀ o, w5.cell? ⟨w3.heap.size, o, none⟩ = #[.bool false, .bool of0, .int .i64 ov0][o]? := cell_of g5
            have z5 := lt_of_block g5
            clear g5 o5
            have H5 : Hid (KAt b (tk (k + 1)) w0 w5) := h5
            clear h5 H3 eh ed
            simp only [ans]
            go_wp2
            go_roundw
            case rel => exact ⟨k + 1, by omega, by go_num, H5.out.keptNil ((Kept.refl [] _).alloc _)⟩
            case measure => simp [intOf]; omega
          · obtain rfl : k = 3 := by omega
            rw [tk_d3]
            clear eg
            go_wp2_with fail
            refine (k_step (H3.out.keptNil ((Kept.refl [] _).alloc _)) 1).mono ?_
            rintro e w5 ⟨rfl, h5, o5⟩
            rw [tk_h3]
            have g5 := o5.at_ _ _ _ (block_alloc_new w3 (.cells #[.bool true, .bool of0, .int .i64 ov0] 30)) (by decide) (by decide) (by decide) (by decide)
            have c5 : ∀ o, w5.cell? ⟨w3.heap.size, o, none⟩ = #[.bool true, .bool of0, .int .i64 ov0][o]? := cell_of g5
            have z5 := lt_of_block g5
            clear g5 o5
            have H5 : Hid _ := h5
            clear h5 H3
            simp only [ans]
            go_wp2
            go_ret
            exact ⟨rfl, (H5.out.keptNil ((Kept.refl [] _).alloc _)).kept⟩
end Go.Proofs.Ytmnkphenobfbfaa
