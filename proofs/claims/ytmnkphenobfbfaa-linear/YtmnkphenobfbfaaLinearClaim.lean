import Derived.Test.YtmnkphenobfbfaaYl
import Derived.Test.YtmnkphenobfbfaaYm
import Derived.Test.YtmnkphenobfbfaaYj
import Derived.Test.YtmnkphenobfbfaaYb
namespace Go.Proofs.Ytmnkphenobfbfaa
open Go.RowKit
theorem ListAt.calls {w0 W : World} {h : Hist} {sl : Option Addr} {lc : Nat} (L : ListAt w0 W (.slice sl h.n lc) h) : CallsAt W sl h := by
  refine ⟨fun c hc => ?_⟩
  rcases L.at_ with ⟨_, e⟩ | ⟨g, cap, cs, e1, e2, e3, e4, e5, e6, e7⟩
  · omega
  · simp only [Value.slice.injEq, true_and] at e1
    exact ⟨g, cs, e1.1, e3, e7⟩
theorem left_at {W : World} {base n : Nat} {v : Value} (L : W.ownsRow base 4 1 v n (List.replicate n (.bool true))) : ∃ b cb, v = .slice b n cb ∧ LeftAt W b n (fun _ => true) := by
  rcases L.2 with ⟨e1, e2⟩ | ⟨g, cap, cur, e1, e2, e3, e4, e5, e6, e7⟩
  · exact ⟨none, 0, by rw [e1, e2], ⟨fun c hc => by omega⟩⟩
  · refine ⟨some ⟨g, 0, none⟩, cap, e1, ⟨fun c _ => ⟨g, cur, rfl, e3, fun k hk => ?_⟩⟩⟩
    have h1 : (cur.toList.take (n * 1))[k]? = some (.bool true) := by rw [e7]; simp [hk]
    rw [List.getElem?_take, if_pos (by omega)] at h1
    simpa using h1
set_option maxRecDepth 100000 in
set_option maxHeartbeats 40000000 in
theorem linear_yes (S : Value) (n : Nat) (c : Int) (w0 : World) (hS : RawAt w0 S n) (hn : n ≤ 9223372036854775807) (hc : R64 c) : Calls Try.prog 7 #[S, .int .i64 c] w0 fun e w' => e = .returned (.bool true) ∧ Kept [] w0 w' := by
  have HS : Hid _ := hS
  have shape : ∃ a c, S = .slice a n c ∧ n ≤ c := by
    obtain ⟨a, c, h1, h2, _⟩ := hS.lies
    exact ⟨a, c, h1, h2⟩
  obtain ⟨sa, sc, rfl, hsc⟩ := shape
  clear hS
  have HC : Hid _ := hc
  clear hc
  go_enter Try.func7, Try.ntmps7
  go_wp2_with fail
  refine (k_made w0).mono ?_
  rintro e w1 ⟨b, rfl, hK1⟩
  have HK1 : Hid _ := hK1
  clear hK1
  go_wp2_with fail
  refine (k_pick c 3 (by omega) (by omega) HC.out _).mono ?_
  rintro e w2 ⟨rfl, rfl⟩
  obtain ⟨t, ht, et⟩ := pk_num c 3 (by omega)
  rw [et]
  clear et
  have R := made_rest HK1.out.inv
  have run := k_hist b M.made (.slice sa n sc) n (1 + t) p9 w0 w2 HK1.out HS.out hn (by omega) (by omega) (h_start R.inv R.tab R.idle R.val made_nth R.cl)
  rw [show ((1 + t : Nat) : Int) = 1 + (t : Int) by omega] at run
  have RUN : Hid _ := run
  clear R run
  go_wp2_with fail
  refine Calls.mono RUN.out ?_
  rintro e w3 ⟨ga, S', m, h, cur, now, rfl, hH⟩
  obtain ⟨sl, lc, rfl⟩ : ∃ sl lc, S' = .slice sl h.n lc := by
    rcases hH.l.at_ with ⟨e, e0⟩ | ⟨g, cap, cs, e, _⟩
    · exact ⟨none, 0, by rw [e, e0]⟩
    · exact ⟨_, _, e⟩
  have n7 := hH.inv.n7
  have HH : Hid _ := hH
  have O0 : Hid (w3.ownsRow w3.heap.size 4 1 (.slice none 0 0) 0 (List.replicate 0 (.bool true))) := ⟨rfl, .inl ⟨rfl, rfl⟩⟩
  clear hH RUN HK1
  go_wp2_with fail
  obtain ⟨i0, hi0, hz0, hz1, hz2⟩ := info_parts info4'
  go_loopw [9, 10] (fun x y W => ∃ k : Nat, k ≤ h.n ∧ y = .int .i64 k ∧ W.ownsRow w3.heap.size 4 1 x k (List.replicate k (.bool true)) ∧ Kept [] w3 W) (fun _ y _ => h.n - (intOf y).toNat)
  case atStart => exact ⟨0, by omega, rfl, O0.out, Kept.refl [] w3⟩
  case round =>
    clear O0
    obtain ⟨k, hk, rfl, hO, hKK⟩ := hrel
    by_cases hlt : k < h.n
    · have hlt' : (k : Int) < h.n := by omega
      have hzz := hKK.size
      have ROW : Hid ((wr.alloc (.cells #[.bool true] 4)).ownsRow w3.heap.size 4 1 u9 k (List.replicate k (.bool true))) := own_kept hO ((Kept.refl [] wr).alloc _)
      have NB : Hid ((wr.alloc (.cells #[.bool true] 4)).heap[wr.heap.size]? = some (.cells #[.bool true] 4 (0, 0))) := block_alloc_new wr _
      have HX : Hid _ := And.intro hO hKK
      clear hO hKK
      go_wp2_with (at_builtin; refine wpList_append_lies _ rfl _ _ _ rfl w3.heap.size 4 i0 _ 1 1 Try.underlying59 hi0 hz0 hz1 hz2 rfl (by omega) u9 k _ rfl ROW.out ⟨wr.heap.size, 0, none⟩ 1 1 [.bool true] rfl rfl (World.news_of_block (cs := #[.bool true]) (t := 4) (fr := (0, 0)) NB.out) (by simp [Value.oneCell']) (by omega) (by unfold maxLen; omega) (by omega) (by simp; omega) (wr.heap.size + 1) (by simp) ?_; intro g cap w5 hown1 hgrow hat hlt1)
      have HN : Hid (w5.ownsRow w3.heap.size 4 1 (.slice (some ⟨g, 0, none⟩) (k + 1) cap) (k + 1) (List.replicate (k + 1) (.bool true)) ∧ Kept [] w3 w5) := by
        refine ⟨by rw [List.replicate_succ']; exact hown1, ?_⟩
        have k1 := HX.out.2.alloc (.cells #[.bool true] 4)
        refine ⟨hgrow.os.trans k1.os, hgrow.tape.trans k1.tape, hgrow.output.trans k1.output, Nat.le_trans k1.size hgrow.size, fun q hq _ => ?_⟩
        rw [hgrow.block q (Nat.lt_of_lt_of_le hq k1.size) (fun e => by
          rcases HX.out.1.2 with ⟨e1, _⟩ | ⟨g', cap', cur, e1, e2, _⟩
          · rw [e1] at e; simp [Value.ownBlock] at e
          · rw [e1] at e
            simp only [Value.ownBlock, Option.some.injEq] at e
            omega)]
        exact k1.block q hq (by simp)
      clear hown1 hgrow hat hlt1
      go_roundw
      case rel => exact ⟨k + 1, by omega, by go_num, HN.out.1, HN.out.2⟩
      case measure => simp [intOf]; omega
    · have hlt' : ¬ (k : Int) < h.n := by omega
      obtain rfl : k = h.n := by omega
      obtain ⟨bl, cb, rfl, hL⟩ := left_at hO
      obtain ⟨l, hl⟩ := HH.out.inv.ok (lf := fun _ => true) (fun _ _ => rfl)
      have hC := (HH.out.l.kept hKK).calls
      have kp : Kept [] wr (wr.alloc (.cells #[.int .i64 0, .int .i64 0, .int .i64 0, .int .i64 0, .int .i64 0, .int .i64 0, .int .i64 0, .int .i64 9] 50)) := (Kept.refl [] wr).alloc _
      have run := k_expl h sl bl lc cb n7 HH.out.inv.kinds _ (fun _ => true) p9 _ (Nat.lt_succ_self _) (hC.kept kp) (hL.kept kp)
      have HR : Hid _ := And.intro run (And.intro hl ((HH.out.k.kept.trans hKK).trans kp))
      clear run hl kp hC hL hO hKK
      go_wp2_with fail
      refine Calls.mono HR.out.1 ?_
      rintro e w6 ⟨r, rfl, hr, k6⟩
      obtain rfl := hr l HR.out.2.1
      have HK6 : Hid _ := HR.out.2.2.trans k6
      clear HR hr k6
      go_wp2
      go_ret
      exact ⟨rfl, HK6.out⟩
end Go.Proofs.Ytmnkphenobfbfaa
namespace Go.Proofs.Ytmnkphenobfbfaa
open Go.ChangeShapes Go.WideShapes Go.ChangeAt Go.RowKit Go.Deep
set_option maxRecDepth 100000 in
theorem linear_lifted (os : Os) (started : os.Started) (H : Type) (enc : TypeId × Value → H) :
    ReturnsInHanded {} Try.checked os 7 .any (Rows.linearSpec.pre6 enc Try.prog Try.f7 Rows.linearRow.domain false) (Rows.linearSpec.post enc Try.prog Try.f7 false true false false) := by
  refine returnsInHanded_of_change (C := Try.checked) keep_own started (by kernel_rfl) Try.func7
    (ChangeSpec.witness6 (enc := enc) (C := Try.checked) false ⟨#[], #[.slice none 0 0, .int .i64 0], []⟩ 8 (by kernel_rfl) (by kernel_rfl) (by kernel_rfl) (by kernel_rfl)) ?_
  intro W base args ds gs before hval0 hW hcnd _
  have hval : ∀ (j : Nat) t v, Try.f7.params[j]? = some t → args[j]? = some v → Value.okWide Try.prog W .any base t v := hval0
  have hW' := hW
  obtain ⟨p, q, hA0, hV, rfl, hfz, hnd⟩ := hW
  have hA : DataW.TrodAll enc Try.prog W 0 (fun _ => true) true Try.f7.params.toList args.toList ds p := hA0
  rw [Try.params7] at hA hval
  obtain ⟨v0, vs0, d0, ds0, p0, q0, hargs, rfl, rfl, h0, r0⟩ := trodAll_cons hA
  obtain ⟨v1, vs1, d1, ds1, p1, q1, rfl, rfl, rfl, h1, r1⟩ := trodAll_cons r0
  obtain ⟨rfl, rfl, rfl⟩ := trodAll_nil r1
  obtain rfl : args = #[v0, v1] := by cases args; simp_all
  obtain ⟨rfl, rfl⟩ := trodVars_none hV
  obtain ⟨a0, len0, cap0, rfl⟩ := okWide_slice Try.underlying42 (hval 0 42 v0 rfl rfl)
  obtain ⟨a1, rfl, rfl, rfl, w1⟩ := open_int Try.underlying3 (hval 1 3 v1 rfl rfl) h1
  have k0 := h0
  have lt0 : ∀ x ∈ p0, x.block < W.heap.size := by obtain ⟨m, hm⟩ := k0; exact DataW.trod_lt m _ _ _ hm
  obtain ⟨hS, hb⟩ := raw_of k0
  clear hA0 hval0
  refine (linear_yes _ len0 a1 W hS hb (i64_range w1)).mono fun e W' ⟨he, hg⟩ => ?_
  subst he
  have bel := hg.below
  exact ⟨_, rfl, _, _, _, [], _, [], hW', trodAll_mk1 (shut_bool Try.underlying4 _), trodAll_cons_mk (Below.trod keep_laidOut (by kernel_rfl) (of_decide_eq_true (by kernel_rfl)) k0 bel lt0) (trodAll_cons_mk (shut_int Try.underlying3 w1) trodAll_mk0), rfl, bel.frame _, fun h => by cases h⟩
theorem linear_over : Rows.linearRow.holds Try.pinned (OpenSpec.ofChange Rows.linearSpec) :=
  OpenClaim.holds_of_wide 7 Try.f7 rfl rfl rfl rfl rfl rfl rfl ⟨rfl, rfl, rfl, rfl, rfl⟩ rfl rfl rfl rfl rfl (by kernel_rfl) Try.func7 (by kernel_rfl)
    (of_decide_eq_true (by kernel_rfl)) (by unfold Func.isWrapper; first | (rw [if_pos (by decide +kernel)]; kernel_rfl) | (rw [if_neg (by decide +kernel)]; exact ⟨rfl, rfl⟩))
    (fun os started H enc _ => linear_lifted os started H enc)
/-- THE STATEMENT -/
theorem linear_holds : Rows.LinearSaid :=
  linear_over
#print axioms linear_holds
end Go.Proofs.Ytmnkphenobfbfaa
