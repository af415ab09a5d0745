import Derived.Test.YtmnkphenobfbfaaYh
import Derived.Test.YtmnkphenobfbfaaZf
import Derived.Test.YtmnkphenobfbfaaYg
namespace Go.Proofs.Ytmnkphenobfbfaa
open Go.RowKit
/-- What 'made' leaves: the key 7 has 9. -/
def p9 (k : Nat) : Int := if k = 7 then 9 else 0
theorem made_tab : Tab M.made := by
  have ham : M.made.am = false := by decide +kernel
  refine ⟨by decide +kernel, fun _ => by decide +kernel, by decide +kernel, by decide +kernel, fun q => ?_, ?_⟩
  · rw [ham] at q; cases q
  · have key : ∀ k, k < 8 → ∀ k', k' < 8 → 0 ≤ M.made.bnd k → M.made.bnd k = M.made.bnd k' → k = k' := by decide +kernel
    exact fun k k' hk hk' => key k hk k' hk'
theorem made_idle : ∀ i, i < M.made.nth → (M.made.ths i).at_ = 0 := by rw [made_nth]; decide +kernel
theorem made_val : ∀ k, k < 8 → p9 k = M.made.valE (M.made.bnd k) := by decide +kernel
theorem made_rest (hI : M.made.Inv) : Rest M.made p9 := ⟨hI, made_tab, made_idle, made_val, made_cl⟩
theorem set8 {b x : Nat} {m : M} {w0 w : World} {p : Nat → Int} (h : KAt b m w0 w) (hx : w.heap[x]? = some (.cells (cells8 p) 50 (0, 0))) (hz : w0.heap.size ≤ x) (q : Nat → Int) :
    KAt b m w0 ((((((((w.setCell ⟨x, 0, none⟩ (.int .i64 (q 0))).setCell ⟨x, 1, none⟩ (.int .i64 (q 1))).setCell ⟨x, 2, none⟩ (.int .i64 (q 2))).setCell ⟨x, 3, none⟩ (.int .i64 (q 3))).setCell ⟨x, 4, none⟩ (.int .i64 (q 4))).setCell ⟨x, 5, none⟩ (.int .i64 (q 5))).setCell ⟨x, 6, none⟩ (.int .i64 (q 6))).setCell ⟨x, 7, none⟩ (.int .i64 (q 7))) ∧
    ((((((((w.setCell ⟨x, 0, none⟩ (.int .i64 (q 0))).setCell ⟨x, 1, none⟩ (.int .i64 (q 1))).setCell ⟨x, 2, none⟩ (.int .i64 (q 2))).setCell ⟨x, 3, none⟩ (.int .i64 (q 3))).setCell ⟨x, 4, none⟩ (.int .i64 (q 4))).setCell ⟨x, 5, none⟩ (.int .i64 (q 5))).setCell ⟨x, 6, none⟩ (.int .i64 (q 6))).setCell ⟨x, 7, none⟩ (.int .i64 (q 7))).heap[x]? = some (.cells (cells8 q) 50 (0, 0)) := by
  have b0 := block_set_same hx 0 (.int .i64 (q 0))
  have b1 := block_set_same b0 1 (.int .i64 (q 1))
  have b2 := block_set_same b1 2 (.int .i64 (q 2))
  have b3 := block_set_same b2 3 (.int .i64 (q 3))
  have b4 := block_set_same b3 4 (.int .i64 (q 4))
  have b5 := block_set_same b4 5 (.int .i64 (q 5))
  have b6 := block_set_same b5 6 (.int .i64 (q 6))
  have b7 := block_set_same b6 7 (.int .i64 (q 7))
  refine ⟨?_, b7.trans (by simp [cells8])⟩
  exact (((((((h.set hx hz (by decide) (by decide) (by decide) (by decide) (by decide) 0 _).set b0 hz (by decide) (by decide) (by decide) (by decide) (by decide) 1 _).set b1 hz (by decide) (by decide) (by decide) (by decide) (by decide) 2 _).set b2 hz (by decide) (by decide) (by decide) (by decide) (by decide) 3 _).set b3 hz (by decide) (by decide) (by decide) (by decide) (by decide) 4 _).set b4 hz (by decide) (by decide) (by decide) (by decide) (by decide) 5 _).set b5 hz (by decide) (by decide) (by decide) (by decide) (by decide) 6 _).set b6 hz (by decide) (by decide) (by decide) (by decide) (by decide) 7 _
set_option maxRecDepth 100000 in
set_option maxHeartbeats 40000000 in
theorem alone_yes (S : Value) (n : Nat) (w0 : World) (hS : RawAt w0 S n) (hn : n ≤ 9223372036854775807) : Calls Try.prog 5 #[S] w0 fun e w' => e = .returned (.bool true) ∧ Kept [] w0 w' := by
  have HS : Hid _ := hS
  have shape : ∃ a c, S = .slice a n c ∧ n ≤ c := by
    obtain ⟨a, c, h1, h2, _⟩ := hS.lies
    exact ⟨a, c, h1, h2⟩
  obtain ⟨sa, sc, rfl, hsc⟩ := shape
  clear hS
  go_enter Try.func5, Try.ntmps5
  go_wp2_with fail
  refine (k_made w0).mono ?_
  rintro e w1 ⟨b, rfl, hK1⟩
  go_wp2_with fail
  have g1 : (w1.alloc (.cells #[.int .i64 0, .int .i64 0, .int .i64 0, .int .i64 0, .int .i64 0, .int .i64 0, .int .i64 0, .int .i64 9] 50)).heap[w1.heap.size]? = some (.cells (cells8 p9) 50 (0, 0)) := block_alloc_new w1 _
  have hK2 := hK1.keptNil ((Kept.refl [] w1).alloc (.cells #[.int .i64 0, .int .i64 0, .int .i64 0, .int .i64 0, .int .i64 0, .int .i64 0, .int .i64 0, .int .i64 9] 50))
  have z0 := hK1.kept.size
  go_loopw [5] (fun x W => ∃ (k : Nat) (m : M) (p : Nat → Int), k ≤ n ∧ k ≤ 200 ∧ x = .int .i64 k ∧ KAt b m w0 W ∧ Rest m p ∧ m.nth = 3 ∧ W.heap[w1.heap.size]? = some (.cells (cells8 p) 50 (0, 0))) (fun x _ => 200 - (intOf x).toNat)
  case atStart => exact ⟨0, M.made, p9, by omega, by omega, rfl, hK2, made_rest hK1.inv, made_nth, g1⟩
  case round =>
    clear hK1 hK2 g1
    obtain ⟨k, m, p, hk, hk3, rfl, hK, hR, hN, hB⟩ := hrel
    by_cases hlt : k < n
    · have hlt' : (k : Int) < n := by omega
      by_cases hl3 : k < 200
      · have hl3' : (k : Int) < 200 := by omega
        have hkt : ((k : Int)).toNat = k := by simp
        obtain ⟨_, _, hs1, _, hs3⟩ := (HS.out.kept hK.kept).lies
        cases hs1
        obtain ⟨sb, so, x, rfl, hltb, hr, hx⟩ := hs3 k hlt
        have hX : ∀ W, Kept [] wr W → W.cell? ⟨sb, so + k, none⟩ = some (.int .i64 x) := fun W kk => ((Kept.far kk hltb (by simp)).1).trans hx
        have HR : Hid _ := hr
        have HX : Hid _ := hX
        have HK : Hid _ := And.intro hK (And.intro hR (And.intro hN hB))
        clear hs3 hr hK hR hN hB hX
        go_wp2_with fail
        refine (k_op x 8 (by omega) (by omega) HR.out _).mono ?_
        rintro e w3 ⟨kind, key0, val, old, hop, rfl, k3⟩
        obtain ⟨key, rfl⟩ := Int.eq_ofNat_of_zero_le hop.key.1
        have hx3 : (w3.alloc (.cells #[.int .i64 kind, .int .i64 key, .int .i64 val, .int .i64 old] 28)).cell? ⟨sb, so + k, none⟩ = some (.int .i64 x) := HX.out _ (k3.alloc _)
        have hd1 : R64 (x.tdiv 1000) := r64_div HR.out 1000 (by omega)
        have hd1a := hd1.1
        have hd1b := hd1.2
        have K3 : Kept [] wr (w3.alloc (.cells #[.int .i64 kind, .int .i64 key, .int .i64 val, .int .i64 old] 28)) := k3.alloc _
        have O3 := block_alloc_new w3 (.cells #[.int .i64 kind, .int .i64 key, .int .i64 val, .int .i64 old] 28)
        have HO : Hid _ := And.intro K3 O3
        clear hx k3 K3 O3
        go_wp2_with fail
        generalize (w3.alloc (.cells #[.int .i64 kind, .int .i64 key, .int .i64 val, .int .i64 old] 28)) = W3 at *
        refine (k_pick (x.tdiv 1000) 3 (by omega) (by omega) hd1 _).mono ?_
        rintro e w2 ⟨rfl, rfl⟩
        obtain ⟨t, ht, et⟩ := pk_nat (x.tdiv 1000) 3 (by omega)
        rw [et]
        clear hd1a hd1b hd1 et hx3
        have hc3 : ∀ o, w2.cell? ⟨w3.heap.size, o, none⟩ = #[Value.int .i64 kind, .int .i64 key, .int .i64 val, .int .i64 old][o]? := cell_of HO.out.2
        go_wp2_with fail
        obtain ⟨ab, f, v, m', ar, an, aR, aA⟩ := alone_op HK.out.2.1 (i := t) (by rw [HK.out.2.2.1]; exact ht) (hop.ok (Nat.le_refl 8))
        rw [Int.toNat_natCast] at aR aA
        have HA : Hid _ := And.intro ar (And.intro (an.trans HK.out.2.2.1) (And.intro aR aA))
        have hB2 := HO.out.1.at HK.out.2.2.2 (by simp)
        refine (k_begin (HK.out.1.keptNil HO.out.1) t kind key val old).mono ?_
        rintro e w4 ⟨rfl, h4, o4⟩
        rw [ab]
        have hB4 := o4.at_ _ _ _ hB2 (by decide) (by decide) (by decide) (by decide)
        have hO4 := o4.at_ _ _ _ HO.out.2 (by decide) (by decide) (by decide) (by decide)
        clear ab ar an aR aA hB2 o4 HO HK hc3
        generalize (m.begin t kind key val old).2 = mb at *
        go_wp2_with fail
        refine (k_runs b mb t w0 w4 h4).mono ?_
        rintro e w5 ⟨rfl, h5, o5⟩
        have hB5 := o5.at_ _ _ _ hB4 (by decide) (by decide) (by decide) (by decide)
        have hO5 := o5.at_ _ _ _ hO4 (by decide) (by decide) (by decide) (by decide)
        rw [HA.out.1] at h5 ⊢
        simp only [ransOf] at h5 ⊢
        have kr : Kept [] w5 (w5.alloc (.cells #[.bool true, .bool f, .int .i64 v] 30)) := (Kept.refl [] w5).alloc _
        have hB6 := kr.at hB5 (by simp)
        have hO6 := kr.at hO5 (by simp)
        have hr6 := block_alloc_new w5 (.cells #[.bool true, .bool f, .int .i64 v] 30)
        have h6 := h5.keptNil kr
        have HZ : Hid _ := And.intro hB6 (And.intro hO6 (And.intro hr6 h6))
        have cO : ∀ o, (w5.alloc (.cells #[.bool true, .bool f, .int .i64 v] 30)).cell? ⟨w3.heap.size, o, none⟩ = #[Value.int .i64 kind, .int .i64 key, .int .i64 val, .int .i64 old][o]? := cell_of hO6
        have cB : ∀ o, (w5.alloc (.cells #[.bool true, .bool f, .int .i64 v] 30)).cell? ⟨w1.heap.size, o, none⟩ = (cells8 p)[o]? := cell_of hB6
        have cR : ∀ o, (w5.alloc (.cells #[.bool true, .bool f, .int .i64 v] 30)).cell? ⟨w5.heap.size, o, none⟩ = #[Value.bool true, .bool f, .int .i64 v][o]? := cell_of hr6
        have fB : ∀ o, (w5.alloc (.cells #[.bool true, .bool f, .int .i64 v] 30)).frozen? ⟨w1.heap.size, o, none⟩ = false := frozen_of hB6
        unfold cells8 at cB
        have run := k_does p kind key val old hop.kind (by have := hop.key; omega)
        unfold cells8 at run
        have RUN : Hid _ := run
        clear h4 h5 o5 hB4 hO4 hB5 hO5 hB6 hO6 hr6 h6 kr run
        go_wp2_with fail
        refine (RUN.out _).mono ?_
        rintro e w7 ⟨rfl, k7⟩
        have hB7 := k7.at HZ.out.1 (by simp)
        have hR7 := k7.at HZ.out.2.2.1 (by simp)
        have h7 := HZ.out.2.2.2.keptNil k7
        have hf : (pans p ⟨kind, key, val, old⟩).1 = f := by rw [← HA.out.2.2.2]
        have hv : (pans p ⟨kind, key, val, old⟩).2 = v := by rw [← HA.out.2.2.2]
        rw [hf, hv]
        have hR := HA.out.2.2.1
        have hN := HA.out.2.1
        clear RUN HZ HA cO cB cR fB k7 hf hv
        generalize pnext p ⟨kind, key, val, old⟩ = q at *
        have cB : ∀ o, w7.cell? ⟨w1.heap.size, o, none⟩ = (cells8 p)[o]? := cell_of hB7
        have cR : ∀ o, w7.cell? ⟨w5.heap.size, o, none⟩ = #[Value.bool true, .bool f, .int .i64 v][o]? := cell_of hR7
        have fB : ∀ o, w7.frozen? ⟨w1.heap.size, o, none⟩ = false := frozen_of hB7
        have zB := lt_of_block hB7
        have zR := lt_of_block hR7
        have nB : w1.heap.size ≠ w5.heap.size := ne_of_blocks hB7 hR7 (by simp)
        unfold cells8 at cB
        have HZ : Hid _ := And.intro hB7 (And.intro hR7 (And.intro h7 (And.intro hR hN)))
        have hn30 := neq30
        have hg := g30
        clear hB7 hR7 h7 hR hN
        go_wp2
        go_roundw
        case rel =>
          obtain ⟨s1, s2⟩ := set8 HZ.out.2.2.1 HZ.out.1 z0 q
          exact ⟨k + 1, m', q, by omega, by omega, by go_num, (s1.keptNil ((Kept.refl [] _).alloc _)).keptNil ((Kept.refl [] _).alloc _), HZ.out.2.2.2.1, HZ.out.2.2.2.2, block_alloc_lt (block_alloc_lt s2 _) _⟩
        case measure => simp [intOf]; omega
      · have hl3' : ¬ (k : Int) < 200 := by omega
        go_wp2
        go_ret
        exact ⟨rfl, hK.kept⟩
    · have hlt' : ¬ (k : Int) < n := by omega
      go_wp2
      go_ret
      exact ⟨rfl, hK.kept⟩
end Go.Proofs.Ytmnkphenobfbfaa
