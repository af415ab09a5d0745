import Derived.Test.YtmnkphenobfbfaaYc
import Derived.Test.YtmnkphenobfbfaaYb
namespace Go.Proofs.Ytmnkphenobfbfaa
open Go.RowKit
set_option maxRecDepth 100000 in
set_option maxHeartbeats 60000000 in
theorem known_yes (c : Int) (hc : R64 c) (w0 : World) : Calls Try.prog 3 #[.int .i64 c] w0 fun e w' => e = .returned (.bool true) ∧ Kept [] w0 w' := by
  have hn30 := neq30
  have hg30 := g30
  have hn38 := neq38
  have hg38 := g38
  have he38 := eql38
  go_enter Try.func3, Try.ntmps3
  go_wp2_with fail
  refine (k_new 2 w0 (by omega) (by omega)).mono ?_
  rintro e w1 ⟨b, rfl, h1⟩
  go_wp2_with fail
  refine (k_begin h1 0 1 3 5 0).mono ?_
  rintro e w2 ⟨rfl, h2, -⟩
  rw [show ((M.new 2).begin 0 1 3 5 0).1 = 0 from kn1_ok]
  replace h2 : KAt b kn1 w0 w2 := h2
  go_wp2_with fail
  refine (k_steps b kn1 0 w0 w2 h2).mono ?_
  rintro e w3 ⟨rfl, h3, -⟩
  simp only [stpsOf, kn2_n, kn2_d, kn2_f, kn2_v]
  replace h3 : KAt b kn2 w0 w3 := h3
  have zk3 := h3.kept.size
  have g3 := block_alloc_new w3 (.cells #[.bool true, .bool true, .int .i64 5] 30)
  have h3' := h3.keptNil ((Kept.refl [] w3).alloc (.cells #[.bool true, .bool true, .int .i64 5] 30))
  clear h1 h2 h3
  go_wp2_with fail
  generalize (w3.alloc (.cells #[.bool true, .bool true, .int .i64 5] 30)) = W3 at *
  refine (k_look h3').mono ?_
  rintro e w4 ⟨b1, b2, rfl, l1, l2, h4, o4⟩
  have g4 := o4.at_ _ _ _ g3 (by decide) (by decide) (by decide) (by decide)
  simp only [view, kn2_r, kn2_a, kn2_h, kn2_c]
  rw [kn2_l] at l2
  have z4 := lt_of_block g4
  have zk4 := h4.kept.size
  have k4 : Kept [] w4 (w4.alloc (.cells #[.slice (some ⟨b1, 0, none⟩) 0 0, .bool true, .bool true, .slice (some ⟨b2, 0, none⟩) 1 1, .int .i64 kn2.mis, .int .i64 kn2.hol] 35)) := (Kept.refl [] w4).alloc _
  have c4 := cell_of (k4.at g4 (by simp))
  have d4 := cell_of (block_alloc_new w4 (.cells #[.slice (some ⟨b1, 0, none⟩) 0 0, .bool true, .bool true, .slice (some ⟨b2, 0, none⟩) 1 1, .int .i64 kn2.mis, .int .i64 kn2.hol] 35))
  have e4 := cell_of (k4.at l2 (by simp))
  have zl := lt_of_block l2
  simp only [flat] at e4
  have HX : Hid _ := And.intro (h4.keptNil k4) (And.intro (k4.at g4 (by simp)) (block_alloc_new w4 (.cells #[.slice (some ⟨b1, 0, none⟩) 0 0, .bool true, .bool true, .slice (some ⟨b2, 0, none⟩) 1 1, .int .i64 kn2.mis, .int .i64 kn2.hol] 35)))
  clear h4 k4 l1 l2 g3 g4 h3' o4
  go_wp2_with fail
  refine (k_pick c 2 (by omega) (by omega) hc _).mono ?_
  rintro e w5 ⟨rfl, rfl⟩
  generalize hw5 : (w4.alloc (.cells #[.slice (some ⟨b1, 0, none⟩) 0 0, .bool true, .bool true, .slice (some ⟨b2, 0, none⟩) 1 1, .int .i64 kn2.mis, .int .i64 kn2.hol] 35)) = w5 at *
  clear c4 d4 e4 hw5
  have hp := pk_ok c (n := 2) (by omega)
  by_cases h0 : pk c 2 = 0
  · rw [h0]
    go_wp2_with fail
    refine (k_taken b w0 _ HX.out.1).mono ?_
    rintro e w6 ⟨rfl, k6⟩
    go_wp2
    go_ret
    exact ⟨rfl, k6⟩
  · have h1 : pk c 2 = 1 := by omega
    rw [h1]
    clear h0 h1 hp
    obtain ⟨K_, gfirst, gv⟩ := HX.out
    have zz0 := K_.kept.size
    clear HX
    have HQ : Hid _ := (And.intro K_ (And.intro gfirst gv))
    clear K_ gfirst gv
    go_wp2_with fail
    obtain ⟨K_, gfirst, gv⟩ := HQ.out
    clear HQ
    refine (k_begin K_ 0 0 3 0 0).mono ?_
    rintro e w6 ⟨rfl, K2_, o_⟩
    rw [kn3_ok]
    replace K_ : KAt b kn3 w0 w6 := K2_
    replace gfirst := o_.at_ _ _ _ gfirst (by decide) (by decide) (by decide) (by decide)
    replace gv := o_.at_ _ _ _ gv (by decide) (by decide) (by decide) (by decide)
    clear K2_ o_
    have HQ : Hid _ := (And.intro K_ (And.intro gfirst gv))
    clear K_ gfirst gv
    go_wp2_with fail
    obtain ⟨K_, gfirst, gv⟩ := HQ.out
    clear HQ
    refine (k_steps b kn3 0 w0 _ K_).mono ?_
    rintro e w7 ⟨rfl, K2_, o_⟩
    simp only [stpsOf, kn4_n, kn4_d, kn4_f, kn4_v]
    replace K_ : KAt b kn4 w0 w7 := K2_
    replace gfirst := o_.at_ _ _ _ gfirst (by decide) (by decide) (by decide) (by decide)
    replace gv := o_.at_ _ _ _ gv (by decide) (by decide) (by decide) (by decide)
    clear K2_ o_
    have zkw7 := K_.kept.size
    have zlw7first := lt_of_block gfirst
    have zlw7v := lt_of_block gv
    replace gfirst := block_alloc_lt gfirst (.cells #[.bool true, .bool true, .int .i64 5] 30)
    replace gv := block_alloc_lt gv (.cells #[.bool true, .bool true, .int .i64 5] 30)
    have gsecond := block_alloc_new w7 (.cells #[.bool true, .bool true, .int .i64 5] 30)
    replace K_ := K_.keptNil ((Kept.refl [] w7).alloc (.cells #[.bool true, .bool true, .int .i64 5] 30))
    have HQ : Hid _ := (And.intro K_ (And.intro gfirst (And.intro gv gsecond)))
    clear K_ gfirst gv gsecond
    go_wp2_with fail
    generalize (w7.alloc (.cells #[.bool true, .bool true, .int .i64 5] 30)) = W_ at *
    obtain ⟨K_, gfirst, gv, gsecond⟩ := HQ.out
    clear HQ
    have HQ : Hid _ := (And.intro K_ (And.intro gfirst (And.intro gv gsecond)))
    clear K_ gfirst gv gsecond
    go_wp2_with fail
    obtain ⟨K_, gfirst, gv, gsecond⟩ := HQ.out
    clear HQ
    refine (k_begin K_ 0 0 3 0 0).mono ?_
    rintro e w8 ⟨rfl, K2_, o_⟩
    rw [kn5_ok]
    replace K_ : KAt b kn5 w0 w8 := K2_
    replace gfirst := o_.at_ _ _ _ gfirst (by decide) (by decide) (by decide) (by decide)
    replace gv := o_.at_ _ _ _ gv (by decide) (by decide) (by decide) (by decide)
    replace gsecond := o_.at_ _ _ _ gsecond (by decide) (by decide) (by decide) (by decide)
    clear K2_ o_
    have HQ : Hid _ := (And.intro K_ (And.intro gfirst (And.intro gv gsecond)))
    clear K_ gfirst gv gsecond
    go_wp2_with fail
    obtain ⟨K_, gfirst, gv, gsecond⟩ := HQ.out
    clear HQ
    refine (k_steps b kn5 0 w0 _ K_).mono ?_
    rintro e w9 ⟨rfl, K2_, o_⟩
    simp only [stpsOf, kn6_n, kn6_d, kn6_f, kn6_v]
    replace K_ : KAt b kn6 w0 w9 := K2_
    replace gfirst := o_.at_ _ _ _ gfirst (by decide) (by decide) (by decide) (by decide)
    replace gv := o_.at_ _ _ _ gv (by decide) (by decide) (by decide) (by decide)
    replace gsecond := o_.at_ _ _ _ gsecond (by decide) (by decide) (by decide) (by decide)
    clear K2_ o_
    have zkw9 := K_.kept.size
    have zlw9first := lt_of_block gfirst
    have zlw9v := lt_of_block gv
    have zlw9second := lt_of_block gsecond
    replace gfirst := block_alloc_lt gfirst (.cells #[.bool true, .bool true, .int .i64 5] 30)
    replace gv := block_alloc_lt gv (.cells #[.bool true, .bool true, .int .i64 5] 30)
    replace gsecond := block_alloc_lt gsecond (.cells #[.bool true, .bool true, .int .i64 5] 30)
    have gthird := block_alloc_new w9 (.cells #[.bool true, .bool true, .int .i64 5] 30)
    replace K_ := K_.keptNil ((Kept.refl [] w9).alloc (.cells #[.bool true, .bool true, .int .i64 5] 30))
    have HQ : Hid _ := (And.intro K_ (And.intro gfirst (And.intro gv (And.intro gsecond gthird))))
    clear K_ gfirst gv gsecond gthird
    go_wp2_with fail
    generalize (w9.alloc (.cells #[.bool true, .bool true, .int .i64 5] 30)) = W_ at *
    obtain ⟨K_, gfirst, gv, gsecond, gthird⟩ := HQ.out
    clear HQ
    have HQ : Hid _ := (And.intro K_ (And.intro gfirst (And.intro gv (And.intro gsecond gthird))))
    clear K_ gfirst gv gsecond gthird
    go_wp2_with fail
    obtain ⟨K_, gfirst, gv, gsecond, gthird⟩ := HQ.out
    clear HQ
    refine (k_begin K_ 0 0 4 0 0).mono ?_
    rintro e w10 ⟨rfl, K2_, o_⟩
    rw [kn7_ok]
    replace K_ : KAt b kn7 w0 w10 := K2_
    replace gfirst := o_.at_ _ _ _ gfirst (by decide) (by decide) (by decide) (by decide)
    replace gv := o_.at_ _ _ _ gv (by decide) (by decide) (by decide) (by decide)
    replace gsecond := o_.at_ _ _ _ gsecond (by decide) (by decide) (by decide) (by decide)
    replace gthird := o_.at_ _ _ _ gthird (by decide) (by decide) (by decide) (by decide)
    clear K2_ o_
    have HQ : Hid _ := (And.intro K_ (And.intro gfirst (And.intro gv (And.intro gsecond gthird))))
    clear K_ gfirst gv gsecond gthird
    go_wp2_with fail
    obtain ⟨K_, gfirst, gv, gsecond, gthird⟩ := HQ.out
    clear HQ
    refine (k_steps b kn7 0 w0 _ K_).mono ?_
    rintro e w11 ⟨rfl, K2_, o_⟩
    simp only [stpsOf, kn8_n, kn8_d, kn8_f, kn8_v]
    replace K_ : KAt b kn8 w0 w11 := K2_
    replace gfirst := o_.at_ _ _ _ gfirst (by decide) (by decide) (by decide) (by decide)
    replace gv := o_.at_ _ _ _ gv (by decide) (by decide) (by decide) (by decide)
    replace gsecond := o_.at_ _ _ _ gsecond (by decide) (by decide) (by decide) (by decide)
    replace gthird := o_.at_ _ _ _ gthird (by decide) (by decide) (by decide) (by decide)
    clear K2_ o_
    have zkw11 := K_.kept.size
    have zlw11first := lt_of_block gfirst
    have zlw11v := lt_of_block gv
    have zlw11second := lt_of_block gsecond
    have zlw11third := lt_of_block gthird
    replace gfirst := block_alloc_lt gfirst (.cells #[.bool true, .bool false, .int .i64 0] 30)
    replace gv := block_alloc_lt gv (.cells #[.bool true, .bool false, .int .i64 0] 30)
    replace gsecond := block_alloc_lt gsecond (.cells #[.bool true, .bool false, .int .i64 0] 30)
    replace gthird := block_alloc_lt gthird (.cells #[.bool true, .bool false, .int .i64 0] 30)
    have gfourth := block_alloc_new w11 (.cells #[.bool true, .bool false, .int .i64 0] 30)
    replace K_ := K_.keptNil ((Kept.refl [] w11).alloc (.cells #[.bool true, .bool false, .int .i64 0] 30))
    have qfirst := cell_of gfirst
    have qv := cell_of gv
    have qsecond := cell_of gsecond
    have qthird := cell_of gthird
    have qfourth := cell_of gfourth
    have HQ : Hid _ := (And.intro K_ (And.intro gfirst (And.intro gv (And.intro gsecond (And.intro gthird gfourth)))))
    clear K_ gfirst gv gsecond gthird gfourth
    go_wp2_with fail
    clear qfirst qv qsecond qthird qfourth
    generalize (w11.alloc (.cells #[.bool true, .bool false, .int .i64 0] 30)) = W_ at *
    obtain ⟨K_, gfirst, gv, gsecond, gthird, gfourth⟩ := HQ.out
    clear HQ
    have HQ : Hid _ := (And.intro K_ (And.intro gfirst (And.intro gv (And.intro gsecond (And.intro gthird gfourth)))))
    clear K_ gfirst gv gsecond gthird gfourth
    go_wp2_with fail
    obtain ⟨K_, gfirst, gv, gsecond, gthird, gfourth⟩ := HQ.out
    clear HQ
    refine (k_begin K_ 1 2 3 0 0).mono ?_
    rintro e w12 ⟨rfl, K2_, o_⟩
    rw [kn9_ok]
    replace K_ : KAt b kn9 w0 w12 := K2_
    replace gfirst := o_.at_ _ _ _ gfirst (by decide) (by decide) (by decide) (by decide)
    replace gv := o_.at_ _ _ _ gv (by decide) (by decide) (by decide) (by decide)
    replace gsecond := o_.at_ _ _ _ gsecond (by decide) (by decide) (by decide) (by decide)
    replace gthird := o_.at_ _ _ _ gthird (by decide) (by decide) (by decide) (by decide)
    replace gfourth := o_.at_ _ _ _ gfourth (by decide) (by decide) (by decide) (by decide)
    clear K2_ o_
    have HQ : Hid _ := (And.intro K_ (And.intro gfirst (And.intro gv (And.intro gsecond (And.intro gthird gfourth)))))
    clear K_ gfirst gv gsecond gthird gfourth
    go_wp2_with fail
    obtain ⟨K_, gfirst, gv, gsecond, gthird, gfourth⟩ := HQ.out
    clear HQ
    refine (k_steps b kn9 1 w0 _ K_).mono ?_
    rintro e w13 ⟨rfl, K2_, o_⟩
    simp only [stpsOf, kna_n, kna_d, kna_f, kna_v]
    replace K_ : KAt b kna w0 w13 := K2_
    replace gfirst := o_.at_ _ _ _ gfirst (by decide) (by decide) (by decide) (by decide)
    replace gv := o_.at_ _ _ _ gv (by decide) (by decide) (by decide) (by decide)
    replace gsecond := o_.at_ _ _ _ gsecond (by decide) (by decide) (by decide) (by decide)
    replace gthird := o_.at_ _ _ _ gthird (by decide) (by decide) (by decide) (by decide)
    replace gfourth := o_.at_ _ _ _ gfourth (by decide) (by decide) (by decide) (by decide)
    clear K2_ o_
    have zzw13 : w0.heap.size ≤ w7.heap.size := by omega
    have ccw13 := cell_of gsecond
    have ffw13 := frozen_of gsecond
    replace K_ := ((K_.set gsecond zzw13 (by decide) (by decide) (by decide) (by decide) (by decide) 0 (.bool true)).set (block_set_same gsecond 0 _) zzw13 (by decide) (by decide) (by decide) (by decide) (by decide) 1 (.bool true)).set (block_set_same (block_set_same gsecond 0 _) 1 _) zzw13 (by decide) (by decide) (by decide) (by decide) (by decide) 2 (.int .i64 5)
    replace gfirst := block_set_ne (block_set_ne (block_set_ne gfirst (show w3.heap.size ≠ w7.heap.size by omega) 0 (.bool true)) (show w3.heap.size ≠ w7.heap.size by omega) 1 (.bool true)) (show w3.heap.size ≠ w7.heap.size by omega) 2 (.int .i64 5)
    replace gv := block_set_ne (block_set_ne (block_set_ne gv (show w4.heap.size ≠ w7.heap.size by omega) 0 (.bool true)) (show w4.heap.size ≠ w7.heap.size by omega) 1 (.bool true)) (show w4.heap.size ≠ w7.heap.size by omega) 2 (.int .i64 5)
    replace gthird := block_set_ne (block_set_ne (block_set_ne gthird (show w9.heap.size ≠ w7.heap.size by omega) 0 (.bool true)) (show w9.heap.size ≠ w7.heap.size by omega) 1 (.bool true)) (show w9.heap.size ≠ w7.heap.size by omega) 2 (.int .i64 5)
    replace gfourth := block_set_ne (block_set_ne (block_set_ne gfourth (show w11.heap.size ≠ w7.heap.size by omega) 0 (.bool true)) (show w11.heap.size ≠ w7.heap.size by omega) 1 (.bool true)) (show w11.heap.size ≠ w7.heap.size by omega) 2 (.int .i64 5)
    have gg_ : (((w13.setCell ⟨w7.heap.size, 0, none⟩ (.bool true)).setCell ⟨w7.heap.size, 1, none⟩ (.bool true)).setCell ⟨w7.heap.size, 2, none⟩ (.int .i64 5)).heap[w7.heap.size]? = some (.cells #[.bool true, .bool true, .int .i64 5] 30 (0, 0)) := (block_set_same (block_set_same (block_set_same gsecond 0 _) 1 _) 2 _).trans (by simp)
    replace gsecond := gg_
    clear gg_
    have HQ : Hid _ := (And.intro K_ (And.intro gfirst (And.intro gv (And.intro gsecond (And.intro gthird gfourth)))))
    clear K_ gfirst gv gsecond gthird gfourth
    go_wp2_with fail
    generalize (((w13.setCell ⟨w7.heap.size, 0, none⟩ (.bool true)).setCell ⟨w7.heap.size, 1, none⟩ (.bool true)).setCell ⟨w7.heap.size, 2, none⟩ (.int .i64 5)) = W_ at *
    obtain ⟨K_, gfirst, gv, gsecond, gthird, gfourth⟩ := HQ.out
    clear HQ
    clear ccw13 ffw13
    have HQ : Hid _ := (And.intro K_ (And.intro gfirst (And.intro gv (And.intro gsecond (And.intro gthird gfourth)))))
    clear K_ gfirst gv gsecond gthird gfourth
    go_wp2_with fail
    obtain ⟨K_, gfirst, gv, gsecond, gthird, gfourth⟩ := HQ.out
    clear HQ
    refine (k_begin K_ 1 1 4 6 0).mono ?_
    rintro e w14 ⟨rfl, K2_, o_⟩
    rw [knb_ok]
    replace K_ : KAt b knb w0 w14 := K2_
    replace gfirst := o_.at_ _ _ _ gfirst (by decide) (by decide) (by decide) (by decide)
    replace gv := o_.at_ _ _ _ gv (by decide) (by decide) (by decide) (by decide)
    replace gsecond := o_.at_ _ _ _ gsecond (by decide) (by decide) (by decide) (by decide)
    replace gthird := o_.at_ _ _ _ gthird (by decide) (by decide) (by decide) (by decide)
    replace gfourth := o_.at_ _ _ _ gfourth (by decide) (by decide) (by decide) (by decide)
    clear K2_ o_
    have HQ : Hid _ := (And.intro K_ (And.intro gfirst (And.intro gv (And.intro gsecond (And.intro gthird gfourth)))))
    clear K_ gfirst gv gsecond gthird gfourth
    go_wp2_with fail
    obtain ⟨K_, gfirst, gv, gsecond, gthird, gfourth⟩ := HQ.out
    clear HQ
    refine (k_steps b knb 1 w0 _ K_).mono ?_
    rintro e w15 ⟨rfl, K2_, o_⟩
    simp only [stpsOf, knc_n, knc_d, knc_f, knc_v]
    replace K_ : KAt b knc w0 w15 := K2_
    replace gfirst := o_.at_ _ _ _ gfirst (by decide) (by decide) (by decide) (by decide)
    replace gv := o_.at_ _ _ _ gv (by decide) (by decide) (by decide) (by decide)
    replace gsecond := o_.at_ _ _ _ gsecond (by decide) (by decide) (by decide) (by decide)
    replace gthird := o_.at_ _ _ _ gthird (by decide) (by decide) (by decide) (by decide)
    replace gfourth := o_.at_ _ _ _ gfourth (by decide) (by decide) (by decide) (by decide)
    clear K2_ o_
    have zzw15 : w0.heap.size ≤ w9.heap.size := by omega
    have ccw15 := cell_of gthird
    have ffw15 := frozen_of gthird
    replace K_ := ((K_.set gthird zzw15 (by decide) (by decide) (by decide) (by decide) (by decide) 0 (.bool true)).set (block_set_same gthird 0 _) zzw15 (by decide) (by decide) (by decide) (by decide) (by decide) 1 (.bool true)).set (block_set_same (block_set_same gthird 0 _) 1 _) zzw15 (by decide) (by decide) (by decide) (by decide) (by decide) 2 (.int .i64 6)
    replace gfirst := block_set_ne (block_set_ne (block_set_ne gfirst (show w3.heap.size ≠ w9.heap.size by omega) 0 (.bool true)) (show w3.heap.size ≠ w9.heap.size by omega) 1 (.bool true)) (show w3.heap.size ≠ w9.heap.size by omega) 2 (.int .i64 6)
    replace gv := block_set_ne (block_set_ne (block_set_ne gv (show w4.heap.size ≠ w9.heap.size by omega) 0 (.bool true)) (show w4.heap.size ≠ w9.heap.size by omega) 1 (.bool true)) (show w4.heap.size ≠ w9.heap.size by omega) 2 (.int .i64 6)
    replace gsecond := block_set_ne (block_set_ne (block_set_ne gsecond (show w7.heap.size ≠ w9.heap.size by omega) 0 (.bool true)) (show w7.heap.size ≠ w9.heap.size by omega) 1 (.bool true)) (show w7.heap.size ≠ w9.heap.size by omega) 2 (.int .i64 6)
    replace gfourth := block_set_ne (block_set_ne (block_set_ne gfourth (show w11.heap.size ≠ w9.heap.size by omega) 0 (.bool true)) (show w11.heap.size ≠ w9.heap.size by omega) 1 (.bool true)) (show w11.heap.size ≠ w9.heap.size by omega) 2 (.int .i64 6)
    have gg_ : (((w15.setCell ⟨w9.heap.size, 0, none⟩ (.bool true)).setCell ⟨w9.heap.size, 1, none⟩ (.bool true)).setCell ⟨w9.heap.size, 2, none⟩ (.int .i64 6)).heap[w9.heap.size]? = some (.cells #[.bool true, .bool true, .int .i64 6] 30 (0, 0)) := (block_set_same (block_set_same (block_set_same gthird 0 _) 1 _) 2 _).trans (by simp)
    replace gthird := gg_
    clear gg_
    have HQ : Hid _ := (And.intro K_ (And.intro gfirst (And.intro gv (And.intro gsecond (And.intro gthird gfourth)))))
    clear K_ gfirst gv gsecond gthird gfourth
    go_wp2_with fail
    generalize (((w15.setCell ⟨w9.heap.size, 0, none⟩ (.bool true)).setCell ⟨w9.heap.size, 1, none⟩ (.bool true)).setCell ⟨w9.heap.size, 2, none⟩ (.int .i64 6)) = W_ at *
    obtain ⟨K_, gfirst, gv, gsecond, gthird, gfourth⟩ := HQ.out
    clear HQ
    clear ccw15 ffw15
    have HQ : Hid _ := (And.intro K_ (And.intro gfirst (And.intro gv (And.intro gsecond (And.intro gthird gfourth)))))
    clear K_ gfirst gv gsecond gthird gfourth
    go_wp2_with fail
    obtain ⟨K_, gfirst, gv, gsecond, gthird, gfourth⟩ := HQ.out
    clear HQ
    refine (k_begin K_ 1 1 3 7 0).mono ?_
    rintro e w16 ⟨rfl, K2_, o_⟩
    rw [knd_ok]
    replace K_ : KAt b knd w0 w16 := K2_
    replace gfirst := o_.at_ _ _ _ gfirst (by decide) (by decide) (by decide) (by decide)
    replace gv := o_.at_ _ _ _ gv (by decide) (by decide) (by decide) (by decide)
    replace gsecond := o_.at_ _ _ _ gsecond (by decide) (by decide) (by decide) (by decide)
    replace gthird := o_.at_ _ _ _ gthird (by decide) (by decide) (by decide) (by decide)
    replace gfourth := o_.at_ _ _ _ gfourth (by decide) (by decide) (by decide) (by decide)
    clear K2_ o_
    have HQ : Hid _ := (And.intro K_ (And.intro gfirst (And.intro gv (And.intro gsecond (And.intro gthird gfourth)))))
    clear K_ gfirst gv gsecond gthird gfourth
    go_wp2_with fail
    obtain ⟨K_, gfirst, gv, gsecond, gthird, gfourth⟩ := HQ.out
    clear HQ
    refine (k_steps b knd 1 w0 _ K_).mono ?_
    rintro e w17 ⟨rfl, K2_, o_⟩
    simp only [stpsOf, kne_n, kne_d, kne_f, kne_v]
    replace K_ : KAt b kne w0 w17 := K2_
    replace gfirst := o_.at_ _ _ _ gfirst (by decide) (by decide) (by decide) (by decide)
    replace gv := o_.at_ _ _ _ gv (by decide) (by decide) (by decide) (by decide)
    replace gsecond := o_.at_ _ _ _ gsecond (by decide) (by decide) (by decide) (by decide)
    replace gthird := o_.at_ _ _ _ gthird (by decide) (by decide) (by decide) (by decide)
    replace gfourth := o_.at_ _ _ _ gfourth (by decide) (by decide) (by decide) (by decide)
    clear K2_ o_
    have zzw17 : w0.heap.size ≤ w11.heap.size := by omega
    have ccw17 := cell_of gfourth
    have ffw17 := frozen_of gfourth
    replace K_ := ((K_.set gfourth zzw17 (by decide) (by decide) (by decide) (by decide) (by decide) 0 (.bool true)).set (block_set_same gfourth 0 _) zzw17 (by decide) (by decide) (by decide) (by decide) (by decide) 1 (.bool true)).set (block_set_same (block_set_same gfourth 0 _) 1 _) zzw17 (by decide) (by decide) (by decide) (by decide) (by decide) 2 (.int .i64 7)
    replace gfirst := block_set_ne (block_set_ne (block_set_ne gfirst (show w3.heap.size ≠ w11.heap.size by omega) 0 (.bool true)) (show w3.heap.size ≠ w11.heap.size by omega) 1 (.bool true)) (show w3.heap.size ≠ w11.heap.size by omega) 2 (.int .i64 7)
    replace gv := block_set_ne (block_set_ne (block_set_ne gv (show w4.heap.size ≠ w11.heap.size by omega) 0 (.bool true)) (show w4.heap.size ≠ w11.heap.size by omega) 1 (.bool true)) (show w4.heap.size ≠ w11.heap.size by omega) 2 (.int .i64 7)
    replace gsecond := block_set_ne (block_set_ne (block_set_ne gsecond (show w7.heap.size ≠ w11.heap.size by omega) 0 (.bool true)) (show w7.heap.size ≠ w11.heap.size by omega) 1 (.bool true)) (show w7.heap.size ≠ w11.heap.size by omega) 2 (.int .i64 7)
    replace gthird := block_set_ne (block_set_ne (block_set_ne gthird (show w9.heap.size ≠ w11.heap.size by omega) 0 (.bool true)) (show w9.heap.size ≠ w11.heap.size by omega) 1 (.bool true)) (show w9.heap.size ≠ w11.heap.size by omega) 2 (.int .i64 7)
    have gg_ : (((w17.setCell ⟨w11.heap.size, 0, none⟩ (.bool true)).setCell ⟨w11.heap.size, 1, none⟩ (.bool true)).setCell ⟨w11.heap.size, 2, none⟩ (.int .i64 7)).heap[w11.heap.size]? = some (.cells #[.bool true, .bool true, .int .i64 7] 30 (0, 0)) := (block_set_same (block_set_same (block_set_same gfourth 0 _) 1 _) 2 _).trans (by simp)
    replace gfourth := gg_
    clear gg_
    have HQ : Hid _ := (And.intro K_ (And.intro gfirst (And.intro gv (And.intro gsecond (And.intro gthird gfourth)))))
    clear K_ gfirst gv gsecond gthird gfourth
    go_wp2_with fail
    generalize (((w17.setCell ⟨w11.heap.size, 0, none⟩ (.bool true)).setCell ⟨w11.heap.size, 1, none⟩ (.bool true)).setCell ⟨w11.heap.size, 2, none⟩ (.int .i64 7)) = W_ at *
    obtain ⟨K_, gfirst, gv, gsecond, gthird, gfourth⟩ := HQ.out
    clear HQ
    clear ccw17 ffw17
    refine (k_look K_).mono ?_
    rintro e w18 ⟨b3, b4, rfl, l3, l4, K2_, o_⟩
    replace gfirst := o_.at_ _ _ _ gfirst (by decide) (by decide) (by decide) (by decide)
    replace gv := o_.at_ _ _ _ gv (by decide) (by decide) (by decide) (by decide)
    replace gsecond := o_.at_ _ _ _ gsecond (by decide) (by decide) (by decide) (by decide)
    replace gthird := o_.at_ _ _ _ gthird (by decide) (by decide) (by decide) (by decide)
    replace gfourth := o_.at_ _ _ _ gfourth (by decide) (by decide) (by decide) (by decide)
    simp only [view, kne_r, kne_c]
    rw [kne_l] at l4
    simp only [flat] at l4
    have ql := cell_of l4
    have qfirst := cell_of gfirst
    have qv := cell_of gv
    have qsecond := cell_of gsecond
    have qthird := cell_of gthird
    have qfourth := cell_of gfourth
    have fv := frozen_of gv
    have nefirst : w3.heap.size ≠ w4.heap.size := by omega
    have nffirst : w4.heap.size ≠ w3.heap.size := by omega
    have nesecond : w7.heap.size ≠ w4.heap.size := by omega
    have nfsecond : w4.heap.size ≠ w7.heap.size := by omega
    have nethird : w9.heap.size ≠ w4.heap.size := by omega
    have nfthird : w4.heap.size ≠ w9.heap.size := by omega
    have nefourth : w11.heap.size ≠ w4.heap.size := by omega
    have nffourth : w4.heap.size ≠ w11.heap.size := by omega
    have nel : b4 ≠ w4.heap.size := ne_of_blocks l4 gv (by simp)
    have nfl : w4.heap.size ≠ b4 := Ne.symm nel
    have HZ : Hid _ := K2_.kept
    clear K_ K2_ o_ l3 l4 gfirst gv gsecond gthird gfourth
    go_wp2
    go_ret
    exact ⟨rfl, by repeat (first | exact HZ.out | refine Kept.setCell ?_ (.inr zk4) _)⟩
end Go.Proofs.Ytmnkphenobfbfaa
namespace Go.Proofs.Ytmnkphenobfbfaa
open Go.ChangeShapes Go.WideShapes Go.ChangeAt Go.RowKit Go.Deep
set_option maxRecDepth 100000 in
theorem known_lifted (os : Os) (started : os.Started) (H : Type) (enc : TypeId × Value → H) :
    ReturnsInHanded {} Try.checked os 3 .any (Rows.knownSpec.pre6 enc Try.prog Try.f3 Rows.knownRow.domain false) (Rows.knownSpec.post enc Try.prog Try.f3 false true false false) := by
  refine returnsInHanded_of_change (C := Try.checked) keep_own started (by kernel_rfl) Try.func3
    (ChangeSpec.witness6 (enc := enc) (C := Try.checked) false ⟨#[], #[.int .i64 0], []⟩ 8 (by kernel_rfl) (by kernel_rfl) (by kernel_rfl) (by kernel_rfl)) ?_
  intro W base args ds gs before hval0 hW hcnd _
  have hval : ∀ (j : Nat) t v, Try.f3.params[j]? = some t → args[j]? = some v → Value.okWide Try.prog W .any base t v := hval0
  have hW' := hW
  obtain ⟨p, q, hA0, hV, rfl, hfz, hnd⟩ := hW
  have hA : DataW.TrodAll enc Try.prog W 0 (fun _ => true) true Try.f3.params.toList args.toList ds p := hA0
  rw [Try.params3] at hA hval
  obtain ⟨v0, vs0, d0, ds0, p0, q0, hargs, rfl, rfl, h0, r0⟩ := trodAll_cons hA
  obtain ⟨rfl, rfl, rfl⟩ := trodAll_nil r0
  obtain rfl : args = #[v0] := by cases args; simp_all
  obtain ⟨rfl, rfl⟩ := trodVars_none hV
  obtain ⟨a0, rfl, rfl, rfl, w0⟩ := open_int Try.underlying3 (hval 0 3 v0 rfl rfl) h0
  clear hA0 hval0
  simp only [List.append_nil] at hW'
  refine (known_yes a0 (i64_range w0) W).mono fun e W' ⟨he, hg0⟩ => ?_
  subst he
  have hg := hg0.below
  exact ⟨_, rfl, _, _, _, [], [], [], hW', trodAll_cons_mk (shut_bool Try.underlying4 _) trodAll_mk0, trodAll_cons_mk (shut_int Try.underlying3 w0) trodAll_mk0, rfl, hg.frame _, fun h => by cases h⟩
theorem known_over : Rows.knownRow.holds Try.pinned (OpenSpec.ofChange Rows.knownSpec) :=
  OpenClaim.holds_of_wide 3 Try.f3 rfl rfl rfl rfl rfl rfl rfl ⟨rfl, rfl, rfl, rfl, rfl⟩ rfl rfl rfl rfl rfl (by kernel_rfl) Try.func3 (by kernel_rfl)
    (of_decide_eq_true (by kernel_rfl)) (by unfold Func.isWrapper; first | (rw [if_pos (by decide +kernel)]; kernel_rfl) | (rw [if_neg (by decide +kernel)]; exact ⟨rfl, rfl⟩))
    (fun os started H enc _ => known_lifted os started H enc)
/-- THE STATEMENT -/
theorem known_holds : Rows.KnownSaid :=
  known_over
#print axioms known_holds
end Go.Proofs.Ytmnkphenobfbfaa
