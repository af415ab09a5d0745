import Derived.Test.YtmnkphenobfbfaaYk
import Derived.Test.YtmnkphenobfbfaaYa
import Derived.Deep.RegionHeld3
import Derived.Deep.DeepCutAuto
namespace Go.Proofs.Ytmnkphenobfbfaa
open Go.RowKit
/-- What 'explained' answers: true, if there is an order; all is as it was. -/
structure Expl (h : Hist) (lf : Nat → Bool) (p : Nat → Int) (w : World) (e : Ending) (w' : World) : Prop where
  at_ : ∃ r, e = .returned (.bool r) ∧ (∀ l, Ok h lf p l → r = true) ∧ Kept [] w w'
theorem blk8 {w : World} {x : Nat} (hx : w.heap[x]? = some (.cells #[.int .i64 0, .int .i64 0, .int .i64 0, .int .i64 0, .int .i64 0, .int .i64 0, .int .i64 0, .int .i64 0] 50 (0, 0))) (q : Nat → Int) :
    ((((((((w.setCell ⟨x, 0, none⟩ (.int .i64 (q 0))).setCell ⟨x, 1, none⟩ (.int .i64 (q 1))).setCell ⟨x, 2, none⟩ (.int .i64 (q 2))).setCell ⟨x, 3, none⟩ (.int .i64 (q 3))).setCell ⟨x, 4, none⟩ (.int .i64 (q 4))).setCell ⟨x, 5, none⟩ (.int .i64 (q 5))).setCell ⟨x, 6, none⟩ (.int .i64 (q 6))).setCell ⟨x, 7, none⟩ (.int .i64 (q 7))).heap[x]? = some (.cells #[.int .i64 (q 0), .int .i64 (q 1), .int .i64 (q 2), .int .i64 (q 3), .int .i64 (q 4), .int .i64 (q 5), .int .i64 (q 6), .int .i64 (q 7)] 50 (0, 0)) := by
  have b0 := block_set_same hx 0 (.int .i64 (q 0))
  have b1 := block_set_same b0 1 (.int .i64 (q 1))
  have b2 := block_set_same b1 2 (.int .i64 (q 2))
  have b3 := block_set_same b2 3 (.int .i64 (q 3))
  have b4 := block_set_same b3 4 (.int .i64 (q 4))
  have b5 := block_set_same b4 5 (.int .i64 (q 5))
  have b6 := block_set_same b5 6 (.int .i64 (q 6))
  exact (block_set_same b6 7 (.int .i64 (q 7))).trans (by simp)
theorem two_b (w : World) (A B : Obj) : ((w.alloc A).alloc B).heap[w.heap.size + 1]? = some B := by
  have := block_alloc_new (w.alloc A) B
  simpa using this
set_option maxRecDepth 100000 in
set_option maxHeartbeats 40000000 in
theorem k_expl (h : Hist) (a b : Option Addr) (ca cb : Nat) (hn : h.n ≤ 7) (hk : ∀ c, c < h.n → 0 ≤ (h.ops c).kind ∧ (h.ops c).kind ≤ 3 ∧ (h.ops c).key < 8) : ∀ (f : Nat) (lf : Nat → Bool) (p : Nat → Int) (w : World), cntL lf h.n < f → CallsAt w a h → LeftAt w b h.n lf →
    Calls Try.prog 21 #[.slice a h.n ca, .slice b h.n cb, .agg (cells8 p)] w (Expl h lf p w) := by
  intro f
  induction f with
  | zero => intro lf p w hf; omega
  | succ f ih =>
    intro lf p w hf hC hL
    have IH : Hid _ := ih
    have HK : Hid _ := hk
    have HC : Hid _ := hC
    have HL : Hid _ := hL
    have HF : Hid _ := hf
    have B0 : Hid ((w.alloc (.cells (cells8 p) 50)).heap[w.heap.size]? = some (.cells (cells8 p) 50 (0, 0))) := block_alloc_new w _
    have K0 : Hid (Kept [] w (w.alloc (.cells (cells8 p) 50))) := (Kept.refl [] w).alloc _
    clear ih hC hL hk hf
    unfold cells8
    go_enter Try.func21, Try.ntmps21
    go_wp2_with fail
    go_loopw [7, 8] (fun x y W => ∃ k : Nat, k ≤ h.n ∧ x = .bool (opn h lf k) ∧ y = .int .i64 k ∧ Kept [] w W ∧ W.heap[w.heap.size]? = some (.cells (cells8 p) 50 (0, 0))) (fun _ y _ => h.n - (intOf y).toNat)
    case atStart => exact ⟨0, by omega, rfl, rfl, K0.out, B0.out⟩
    case round =>
      clear B0 K0
      obtain ⟨k, hkn, rfl, rfl, hKK, hB⟩ := hrel
      by_cases hlt : k < h.n
      · have hlt' : (k : Int) < h.n := by omega
        have hkt : ((k : Int)).toNat = k := by simp
        obtain ⟨gl, el, cl0, _, _⟩ := (HL.out.kept hKK).cells hlt
        obtain ⟨gc, ec, _, cc0⟩ := (HC.out.kept hKK).cells hlt
        have cl := cl0 k hlt
        have cc := (cc0 k hlt).2.2.2.2.2.1
        clear cl0 cc0
        subst el ec
        have HX : Hid _ := And.intro hKK hB
        have ho : opn h lf (k + 1) = (opn h lf k || (lf k && decide (0 < h.til k))) := rfl
        generalize hq0 : opn h lf (k + 1) = o0 at ho
        generalize opn h lf k = o1 at ho ⊢
        generalize lf k = o2 at ho cl
        clear hKK hB
        by_cases ht : 0 < h.til k
        · have ht' : (0 : Int) < h.til k := by omega
          rw [decide_eq_true ht] at ho
          rcases o1 with _ | _ <;> rcases o2 with _ | _
          · have HQ : Hid (opn h lf (k + 1) = false) := hq0.trans (by simpa using ho)
            clear ho hq0
            go_wp2
            go_roundw
            case rel => exact ⟨k + 1, by omega, by rw [HQ.out], by go_num, HX.out.1, HX.out.2⟩
            case measure => simp [intOf]; omega
          · have HQ : Hid (opn h lf (k + 1) = true) := hq0.trans (by simpa using ho)
            clear ho hq0
            go_wp2
            go_roundw
            case rel => exact ⟨k + 1, by omega, by rw [HQ.out], by go_num, HX.out.1, HX.out.2⟩
            case measure => simp [intOf]; omega
          · have HQ : Hid (opn h lf (k + 1) = true) := hq0.trans (by simpa using ho)
            clear ho hq0
            go_wp2
            go_roundw
            case rel => exact ⟨k + 1, by omega, by rw [HQ.out], by go_num, HX.out.1, HX.out.2⟩
            case measure => simp [intOf]; omega
          · have HQ : Hid (opn h lf (k + 1) = true) := hq0.trans (by simpa using ho)
            clear ho hq0
            go_wp2
            go_roundw
            case rel => exact ⟨k + 1, by omega, by rw [HQ.out], by go_num, HX.out.1, HX.out.2⟩
            case measure => simp [intOf]; omega
        · have ht' : ¬ (0 : Int) < h.til k := by omega
          rw [decide_eq_false ht] at ho
          rcases o1 with _ | _ <;> rcases o2 with _ | _
          · have HQ : Hid (opn h lf (k + 1) = false) := hq0.trans (by simpa using ho)
            clear ho hq0
            go_wp2
            go_roundw
            case rel => exact ⟨k + 1, by omega, by rw [HQ.out], by go_num, HX.out.1, HX.out.2⟩
            case measure => simp [intOf]; omega
          · have HQ : Hid (opn h lf (k + 1) = false) := hq0.trans (by simpa using ho)
            clear ho hq0
            go_wp2
            go_roundw
            case rel => exact ⟨k + 1, by omega, by rw [HQ.out], by go_num, HX.out.1, HX.out.2⟩
            case measure => simp [intOf]; omega
          · have HQ : Hid (opn h lf (k + 1) = true) := hq0.trans (by simpa using ho)
            clear ho hq0
            go_wp2
            go_roundw
            case rel => exact ⟨k + 1, by omega, by rw [HQ.out], by go_num, HX.out.1, HX.out.2⟩
            case measure => simp [intOf]; omega
          · have HQ : Hid (opn h lf (k + 1) = true) := hq0.trans (by simpa using ho)
            clear ho hq0
            go_wp2
            go_roundw
            case rel => exact ⟨k + 1, by omega, by rw [HQ.out], by go_num, HX.out.1, HX.out.2⟩
            case measure => simp [intOf]; omega
      · have hlt' : ¬ (k : Int) < h.n := by omega
        obtain rfl : k = h.n := by omega
        cases hopn : opn h lf h.n with
        | false =>
          have HKK : Hid _ := hKK
          clear hKK hB
          go_wp2
          go_ret
          exact ⟨true, rfl, fun _ _ => rfl, HKK.out⟩
        | true =>
          have HKK : Hid _ := And.intro hKK hB
          have HOP : Hid _ := hopn
          clear hKK hB hopn
          go_wp2_with fail
          go_loopw [9] (fun x W => ∃ i : Nat, i ≤ h.n ∧ x = .int .i64 i ∧ Kept [] w W ∧ W.heap[w.heap.size]? = some (.cells (cells8 p) 50 (0, 0)) ∧ From h lf p i) (fun x _ => h.n - (intOf x).toNat)
          case atStart => exact ⟨0, by omega, rfl, HKK.out.1, HKK.out.2, fun c l _ => Nat.zero_le c⟩
          case round =>
            clear HKK
            obtain ⟨i, hin, rfl, hKK, hB, hF⟩ := hrel
            by_cases hlt : i < h.n
            · have hlt' : (i : Int) < h.n := by omega
              have hit : ((i : Int)).toNat = i := by simp
              obtain ⟨gl, el, cl0, _, _⟩ := (HL.out.kept hKK).cells hlt
              obtain ⟨gc, ec, _, cc0⟩ := (HC.out.kept hKK).cells hlt
              have cl := cl0 i hlt
              have HX : Hid _ := And.intro hKK (And.intro hB (And.intro hF (And.intro cl0 cc0)))
              clear hKK hB hF cl0 cc0
              subst el ec
              cases hli : lf i with
              | false =>
                rw [hli] at cl
                go_wp2
                go_roundw
                case rel => exact ⟨i + 1, by omega, by go_num, HX.out.1, HX.out.2.1, From.next HX.out.2.2.1 fun l o => by have := o.head.1.2; rw [hli] at this; cases this⟩
                case measure => simp [intOf]; omega
              | true =>
                rw [hli] at cl
                go_wp2_with fail
                go_loopw [10, 11] (fun x y W => ∃ j : Nat, j ≤ h.n ∧ x = .bool (frst h lf i j) ∧ y = .int .i64 j ∧ Kept [] w W ∧ W.heap[w.heap.size]? = some (.cells (cells8 p) 50 (0, 0))) (fun _ y _ => h.n - (intOf y).toNat)
                case atStart => exact ⟨0, by omega, rfl, rfl, HX.out.1, HX.out.2.1⟩
                case round =>
                  obtain ⟨j, hjn, rfl, rfl, hKK, hB⟩ := hrel
                  have HZ : Hid _ := HX.out.2.2.1
                  clear HX cl
                  obtain ⟨_, el, cl0, _, _⟩ := (HL.out.kept hKK).cells hlt
                  obtain ⟨_, ec, zC, cc0⟩ := (HC.out.kept hKK).cells hlt
                  simp only [Option.some.injEq, Addr.mk.injEq, and_true] at el ec
                  subst el ec
                  have HY : Hid _ := And.intro hKK hB
                  have HCC : Hid _ := And.intro cl0 cc0
                  have ci := (cc0 i hlt).2.2.2.2.1
                  clear hKK hB cc0 cl0
                  by_cases hjl : j < h.n
                  · have hjl' : (j : Int) < h.n := by omega
                    have hjt : ((j : Int)).toNat = j := by simp
                    have cl := HCC.out.1 j hjl
                    have cc := (HCC.out.2 j hjl).2.2.2.2.2.1
                    cases hlj : lf j with
                    | false =>
                      rw [hlj] at cl
                      have HQ : Hid (frst h lf i (j + 1) = frst h lf i j) := by show (if lf j = true ∧ ¬ j = i ∧ 0 < h.til j ∧ h.til j < h.frm i then false else frst h lf i j) = _; rw [if_neg (by rw [hlj]; simp)]
                      go_wp2_with fail
                      go_big_quiet (fail)
                      go_wp2
                      go_roundw
                      case rel => exact ⟨j + 1, by omega, by rw [HQ.out], by go_num, HY.out.1.drewN _, HY.out.2⟩
                      case measure => simp [intOf]; omega
                    | true =>
                      rw [hlj] at cl
                      by_cases hji : j = i
                      · subst hji
                        have HQ : Hid (frst h lf j (j + 1) = frst h lf j j) := by show (if lf j = true ∧ ¬ j = j ∧ 0 < h.til j ∧ h.til j < h.frm j then false else frst h lf j j) = _; rw [if_neg (by omega)]
                        go_wp2_with fail
                        go_big_quiet (fail)
                        go_wp2
                        go_roundw
                        case rel => exact ⟨j + 1, by omega, by rw [HQ.out], by go_num, HY.out.1.drewN _, HY.out.2⟩
                        case measure => simp [intOf]; omega
                      · have hji' : ¬ (j : Int) = i := by omega
                        have hjb : ((j : Int) != i) = true := bne_iff_ne.2 hji'
                        by_cases ht : 0 < h.til j
                        · have ht' : (0 : Int) < h.til j := by omega
                          by_cases hb : h.til j < h.frm i
                          · have hb' : (h.til j : Int) < h.frm i := by omega
                            have HQ : Hid (frst h lf i (j + 1) = false) := by show (if lf j = true ∧ ¬ j = i ∧ 0 < h.til j ∧ h.til j < h.frm i then false else frst h lf i j) = _; rw [if_pos ⟨hlj, hji, ht, hb⟩]
                            go_wp2_with fail
                            go_big_quiet (fail)
                            go_wp2
                            go_roundw
                            case rel => exact ⟨j + 1, by omega, by rw [HQ.out], by go_num, HY.out.1.drewN _, HY.out.2⟩
                            case measure => simp [intOf]; omega
                          · have hb' : ¬ (h.til j : Int) < h.frm i := by omega
                            have HQ : Hid (frst h lf i (j + 1) = frst h lf i j) := by show (if lf j = true ∧ ¬ j = i ∧ 0 < h.til j ∧ h.til j < h.frm i then false else frst h lf i j) = _; rw [if_neg (by omega)]
                            go_wp2_with fail
                            go_big_quiet (fail)
                            go_wp2
                            go_roundw
                            case rel => exact ⟨j + 1, by omega, by rw [HQ.out], by go_num, HY.out.1.drewN _, HY.out.2⟩
                            case measure => simp [intOf]; omega
                        · have h0 : h.til j = 0 := by omega
                          have cc2 : wr.cell? ⟨gc, j * 9 + 5, none⟩ = some (.int .i64 0) := by rw [cc, h0]; rfl
                          clear cc
                          have HQ : Hid (frst h lf i (j + 1) = frst h lf i j) := by show (if lf j = true ∧ ¬ j = i ∧ 0 < h.til j ∧ h.til j < h.frm i then false else frst h lf i j) = _; rw [if_neg (by omega)]
                          go_wp2_with fail
                          go_big_quiet (fail)
                          go_wp2
                          go_roundw
                          case rel => exact ⟨j + 1, by omega, by rw [HQ.out], by go_num, HY.out.1.drewN _, HY.out.2⟩
                          case measure => simp [intOf]; omega
                  · have hjl' : ¬ (j : Int) < h.n := by omega
                    obtain rfl : j = h.n := by omega
                    cases hfr : frst h lf i h.n with
                    | false =>
                      have hfr' : ∀ l, Ok h lf p (i :: l) → False := fun l o => by
                        rw [frst_yes o.head.2.1] at hfr
                        cases hfr
                      go_wp2
                      go_roundw
                      case rel => exact ⟨i + 1, by omega, by go_num, HY.out.1, HY.out.2, From.next HZ.out hfr'⟩
                      case measure => simp [intOf]; omega
                    | true =>
                      obtain ⟨c0, c1, c2, c3, _, c5, c6, c7, c8⟩ := HCC.out.2 i hlt
                      have cl := HCC.out.1 i hlt
                      rw [hli] at cl
                      have zB := lt_of_block HY.out.2
                      have hcB : ∀ o, wr.cell? ⟨w.heap.size, o, none⟩ = (cells8 p)[o]? := cell_of HY.out.2
                      obtain ⟨q, hq⟩ : ∃ q, q = pnext p (h.ops i) := ⟨_, rfl⟩
                      obtain ⟨fo, hfo⟩ : ∃ x, x = (pans p (h.ops i)).1 := ⟨_, rfl⟩
                      obtain ⟨vo, hvo⟩ : ∃ x, x = (pans p (h.ops i)).2 := ⟨_, rfl⟩
                      have run : ∀ W, Calls Try.prog 18 #[.agg (cells8 p), .agg #[.int .i64 (h.ops i).kind, .int .i64 (h.ops i).key, .int .i64 (h.ops i).val, .int .i64 (h.ops i).old]] W fun e w' => e = .returned (.tuple #[.agg (cells8 q), .agg #[.bool true, .bool fo, .int .i64 vo]]) ∧ Kept [] W w' := by
                        rw [hq, hfo, hvo]
                        exact k_does p (h.ops i).kind (h.ops i).key (h.ops i).val (h.ops i).old ⟨(HK.out i hlt).1, (HK.out i hlt).2.1⟩ (HK.out i hlt).2.2
                      have HQ : Hid _ := And.intro hq (And.intro hfo hvo)
                      clear hq hfo hvo
                      unfold cells8 at hcB run
                      generalize (h.ops i).kind = okind at *
                      generalize (h.ops i).key = okey at *
                      generalize (h.ops i).val = oval at *
                      generalize (h.ops i).old = oold at *
                      have SK : ∀ W, Kept [] wr W → ((∀ o, W.cell? ⟨w.heap.size, o, none⟩ = #[Value.int .i64 (p 0), .int .i64 (p 1), .int .i64 (p 2), .int .i64 (p 3), .int .i64 (p 4), .int .i64 (p 5), .int .i64 (p 6), .int .i64 (p 7)][o]?) ∧ W.cell? ⟨gc, i * 9, none⟩ = some (.int .i64 okind) ∧ W.cell? ⟨gc, i * 9 + 1, none⟩ = some (.int .i64 okey) ∧ W.cell? ⟨gc, i * 9 + 2, none⟩ = some (.int .i64 oval) ∧ W.cell? ⟨gc, i * 9 + 3, none⟩ = some (.int .i64 oold)) := fun W k =>
                        ⟨fun o => ((Kept.far k zB (by simp)).1).trans (hcB o), ((Kept.far k zC (by simp)).1).trans c0, ((Kept.far k zC (by simp)).1).trans c1, ((Kept.far k zC (by simp)).1).trans c2, ((Kept.far k zC (by simp)).1).trans c3⟩
                      have SKH : Hid _ := SK
                      have RUN : Hid _ := run
                      have zB1 : w.heap.size < wr.heap.size + 1 := by omega
                      have zB2 : w.heap.size < wr.heap.size + 2 := by omega
                      have zC1 : gc < wr.heap.size + 1 := by omega
                      have zC2 : gc < wr.heap.size + 2 := by omega
                      clear run SK c5 c6 c7 c8 cl ci
                      have L0 : Hid (∀ W, Kept [] wr W → Calls Try.prog 18 #[.agg #[Value.int .i64 (p 0), .int .i64 (p 1), .int .i64 (p 2), .int .i64 (p 3), .int .i64 (p 4), .int .i64 (p 5), .int .i64 (p 6), .int .i64 (p 7)], .agg #[.int .i64 okind, .int .i64 okey, .int .i64 oval, .int .i64 oold]] W fun e w' => e = .returned (.tuple #[.agg #[Value.int .i64 (q 0), .int .i64 (q 1), .int .i64 (q 2), .int .i64 (q 3), .int .i64 (q 4), .int .i64 (q 5), .int .i64 (q 6), .int .i64 (q 7)], .agg #[.bool true, .bool fo, .int .i64 vo]]) ∧ Kept [] wr w' ∧ ((∀ o, w'.cell? ⟨w.heap.size, o, none⟩ = #[Value.int .i64 (p 0), .int .i64 (p 1), .int .i64 (p 2), .int .i64 (p 3), .int .i64 (p 4), .int .i64 (p 5), .int .i64 (p 6), .int .i64 (p 7)][o]?) ∧ w'.cell? ⟨gc, i * 9, none⟩ = some (.int .i64 okind) ∧ w'.cell? ⟨gc, i * 9 + 1, none⟩ = some (.int .i64 okey) ∧ w'.cell? ⟨gc, i * 9 + 2, none⟩ = some (.int .i64 oval) ∧ w'.cell? ⟨gc, i * 9 + 3, none⟩ = some (.int .i64 oold)) ∧ w.heap.size < w'.heap.size ∧ gc < w'.heap.size ∧ wr.heap.size ≤ w'.heap.size) := by
                        intro W k
                        refine (RUN.out W).mono ?_
                        rintro e w' ⟨rfl, k9⟩
                        have k' := k.trans k9
                        have z' := k'.size
                        exact ⟨rfl, k', SKH.out w' k', by omega, by omega, z'⟩
                      have LQ : Hid (∀ x W, Kept [] wr W → W.heap[x]? = some (.cells #[Value.int .i64 0, .int .i64 0, .int .i64 0, .int .i64 0, .int .i64 0, .int .i64 0, .int .i64 0, .int .i64 0] 50 (0, 0)) → Calls Try.prog 18 #[.agg #[Value.int .i64 (p 0), .int .i64 (p 1), .int .i64 (p 2), .int .i64 (p 3), .int .i64 (p 4), .int .i64 (p 5), .int .i64 (p 6), .int .i64 (p 7)], .agg #[.int .i64 okind, .int .i64 okey, .int .i64 oval, .int .i64 oold]] W fun e w' => e = .returned (.tuple #[.agg #[Value.int .i64 (q 0), .int .i64 (q 1), .int .i64 (q 2), .int .i64 (q 3), .int .i64 (q 4), .int .i64 (q 5), .int .i64 (q 6), .int .i64 (q 7)], .agg #[.bool true, .bool fo, .int .i64 vo]]) ∧ Kept [] wr w' ∧ ((∀ o, w'.cell? ⟨w.heap.size, o, none⟩ = #[Value.int .i64 (p 0), .int .i64 (p 1), .int .i64 (p 2), .int .i64 (p 3), .int .i64 (p 4), .int .i64 (p 5), .int .i64 (p 6), .int .i64 (p 7)][o]?) ∧ w'.cell? ⟨gc, i * 9, none⟩ = some (.int .i64 okind) ∧ w'.cell? ⟨gc, i * 9 + 1, none⟩ = some (.int .i64 okey) ∧ w'.cell? ⟨gc, i * 9 + 2, none⟩ = some (.int .i64 oval) ∧ w'.cell? ⟨gc, i * 9 + 3, none⟩ = some (.int .i64 oold)) ∧ w.heap.size < w'.heap.size ∧ gc < w'.heap.size ∧ wr.heap.size ≤ w'.heap.size ∧ (x < w'.heap.size ∧ w'.heap[x]? = some (.cells #[Value.int .i64 0, .int .i64 0, .int .i64 0, .int .i64 0, .int .i64 0, .int .i64 0, .int .i64 0, .int .i64 0] 50 (0, 0)) ∧ (∀ o, w'.cell? ⟨x, o, none⟩ = #[Value.int .i64 0, .int .i64 0, .int .i64 0, .int .i64 0, .int .i64 0, .int .i64 0, .int .i64 0, .int .i64 0][o]?) ∧ (∀ o, w'.frozen? ⟨x, o, none⟩ = false))) := by
                        intro x W k hx
                        refine (RUN.out W).mono ?_
                        rintro e w' ⟨rfl, k9⟩
                        have k' := k.trans k9
                        have z' := k'.size
                        have hx' := k9.at hx (by simp)
                        exact ⟨rfl, k', SKH.out w' k', by omega, by omega, z', lt_of_block hx', hx', cell_of hx', frozen_of hx'⟩
                      have LR : Hid (∀ y W, Kept [] wr W → W.heap[y]? = some (.cells #[Value.bool false, .bool false, .int .i64 0] 30 (0, 0)) → Calls Try.prog 18 #[.agg #[Value.int .i64 (p 0), .int .i64 (p 1), .int .i64 (p 2), .int .i64 (p 3), .int .i64 (p 4), .int .i64 (p 5), .int .i64 (p 6), .int .i64 (p 7)], .agg #[.int .i64 okind, .int .i64 okey, .int .i64 oval, .int .i64 oold]] W fun e w' => e = .returned (.tuple #[.agg #[Value.int .i64 (q 0), .int .i64 (q 1), .int .i64 (q 2), .int .i64 (q 3), .int .i64 (q 4), .int .i64 (q 5), .int .i64 (q 6), .int .i64 (q 7)], .agg #[.bool true, .bool fo, .int .i64 vo]]) ∧ Kept [] wr w' ∧ ((∀ o, w'.cell? ⟨w.heap.size, o, none⟩ = #[Value.int .i64 (p 0), .int .i64 (p 1), .int .i64 (p 2), .int .i64 (p 3), .int .i64 (p 4), .int .i64 (p 5), .int .i64 (p 6), .int .i64 (p 7)][o]?) ∧ w'.cell? ⟨gc, i * 9, none⟩ = some (.int .i64 okind) ∧ w'.cell? ⟨gc, i * 9 + 1, none⟩ = some (.int .i64 okey) ∧ w'.cell? ⟨gc, i * 9 + 2, none⟩ = some (.int .i64 oval) ∧ w'.cell? ⟨gc, i * 9 + 3, none⟩ = some (.int .i64 oold)) ∧ w.heap.size < w'.heap.size ∧ gc < w'.heap.size ∧ wr.heap.size ≤ w'.heap.size ∧ (y < w'.heap.size ∧ w'.heap[y]? = some (.cells #[Value.bool false, .bool false, .int .i64 0] 30 (0, 0)) ∧ (∀ o, w'.cell? ⟨y, o, none⟩ = #[Value.bool false, .bool false, .int .i64 0][o]?) ∧ (∀ o, w'.frozen? ⟨y, o, none⟩ = false))) := by
                        intro y W k hy
                        refine (RUN.out W).mono ?_
                        rintro e w' ⟨rfl, k9⟩
                        have k' := k.trans k9
                        have z' := k'.size
                        have hy' := k9.at hy (by simp)
                        exact ⟨rfl, k', SKH.out w' k', by omega, by omega, z', lt_of_block hy', hy', cell_of hy', frozen_of hy'⟩
                      have LB : Hid (∀ x y W, Kept [] wr W → W.heap[x]? = some (.cells #[Value.int .i64 0, .int .i64 0, .int .i64 0, .int .i64 0, .int .i64 0, .int .i64 0, .int .i64 0, .int .i64 0] 50 (0, 0)) → W.heap[y]? = some (.cells #[Value.bool false, .bool false, .int .i64 0] 30 (0, 0)) → Calls Try.prog 18 #[.agg #[Value.int .i64 (p 0), .int .i64 (p 1), .int .i64 (p 2), .int .i64 (p 3), .int .i64 (p 4), .int .i64 (p 5), .int .i64 (p 6), .int .i64 (p 7)], .agg #[.int .i64 okind, .int .i64 okey, .int .i64 oval, .int .i64 oold]] W fun e w' => e = .returned (.tuple #[.agg #[Value.int .i64 (q 0), .int .i64 (q 1), .int .i64 (q 2), .int .i64 (q 3), .int .i64 (q 4), .int .i64 (q 5), .int .i64 (q 6), .int .i64 (q 7)], .agg #[.bool true, .bool fo, .int .i64 vo]]) ∧ Kept [] wr w' ∧ ((∀ o, w'.cell? ⟨w.heap.size, o, none⟩ = #[Value.int .i64 (p 0), .int .i64 (p 1), .int .i64 (p 2), .int .i64 (p 3), .int .i64 (p 4), .int .i64 (p 5), .int .i64 (p 6), .int .i64 (p 7)][o]?) ∧ w'.cell? ⟨gc, i * 9, none⟩ = some (.int .i64 okind) ∧ w'.cell? ⟨gc, i * 9 + 1, none⟩ = some (.int .i64 okey) ∧ w'.cell? ⟨gc, i * 9 + 2, none⟩ = some (.int .i64 oval) ∧ w'.cell? ⟨gc, i * 9 + 3, none⟩ = some (.int .i64 oold)) ∧ w.heap.size < w'.heap.size ∧ gc < w'.heap.size ∧ wr.heap.size ≤ w'.heap.size ∧ (x < w'.heap.size ∧ w'.heap[x]? = some (.cells #[Value.int .i64 0, .int .i64 0, .int .i64 0, .int .i64 0, .int .i64 0, .int .i64 0, .int .i64 0, .int .i64 0] 50 (0, 0)) ∧ (∀ o, w'.cell? ⟨x, o, none⟩ = #[Value.int .i64 0, .int .i64 0, .int .i64 0, .int .i64 0, .int .i64 0, .int .i64 0, .int .i64 0, .int .i64 0][o]?) ∧ (∀ o, w'.frozen? ⟨x, o, none⟩ = false)) ∧ (y < w'.heap.size ∧ w'.heap[y]? = some (.cells #[Value.bool false, .bool false, .int .i64 0] 30 (0, 0)) ∧ (∀ o, w'.cell? ⟨y, o, none⟩ = #[Value.bool false, .bool false, .int .i64 0][o]?) ∧ (∀ o, w'.frozen? ⟨y, o, none⟩ = false))) := by
                        intro x y W k hx hy
                        refine (RUN.out W).mono ?_
                        rintro e w' ⟨rfl, k9⟩
                        have k' := k.trans k9
                        have z' := k'.size
                        have hx' := k9.at hx (by simp)
                        have hy' := k9.at hy (by simp)
                        exact ⟨rfl, k', SKH.out w' k', by omega, by omega, z', ⟨lt_of_block hx', hx', cell_of hx', frozen_of hx'⟩, lt_of_block hy', hy', cell_of hy', frozen_of hy'⟩
                      go_wp2_with fail
                      go_cut [12, 13] (fun x y w' => ∃ bq br : Nat, x = .pointer (some ⟨bq, 0, none⟩) ∧ y = .pointer (some ⟨br, 0, none⟩) ∧ w'.heap[bq]? = some (.cells #[Value.int .i64 (q 0), .int .i64 (q 1), .int .i64 (q 2), .int .i64 (q 3), .int .i64 (q 4), .int .i64 (q 5), .int .i64 (q 6), .int .i64 (q 7)] 50 (0, 0)) ∧ w'.heap[br]? = some (.cells #[.bool true, .bool fo, .int .i64 vo] 30 (0, 0)) ∧ Kept [] wr w')
                      case first =>
                        go_region_held3 (fun W => (∀ o, W.cell? ⟨w.heap.size, o, none⟩ = #[Value.int .i64 (p 0), .int .i64 (p 1), .int .i64 (p 2), .int .i64 (p 3), .int .i64 (p 4), .int .i64 (p 5), .int .i64 (p 6), .int .i64 (p 7)][o]?) ∧ W.cell? ⟨gc, i * 9, none⟩ = some (.int .i64 okind) ∧ W.cell? ⟨gc, i * 9 + 1, none⟩ = some (.int .i64 okey) ∧ W.cell? ⟨gc, i * 9 + 2, none⟩ = some (.int .i64 oval) ∧ W.cell? ⟨gc, i * 9 + 3, none⟩ = some (.int .i64 oold))
                          (first | with_reducible exact ⟨hb9, g0, g1, g2, g3⟩ | (refine ⟨fun o => ?_, ?_, ?_, ?_, ?_⟩ <;> go_simp))
                          (first
                            | (go_at_call 18; refine (LB.out wr.heap.size (wr.heap.size + 1) _ ?x1 ?x2 ?x3).mono ?_; (case x1 => (repeat (first | with_reducible exact Kept.refl _ _ | with_reducible refine Kept.drew ?_ | with_reducible refine Kept.drewN ?_ _ | with_reducible refine Kept.alloc ?_ _))); (case x2 => (repeat (first | with_reducible exact block_alloc_new _ _ | with_reducible exact two_b _ _ _ | with_reducible refine blk_drew ?_ | with_reducible refine blk_drewN ?_ _ | with_reducible refine block_alloc_lt ?_ _))); (case x3 => (repeat (first | with_reducible exact block_alloc_new _ _ | with_reducible exact two_b _ _ _ | with_reducible refine blk_drew ?_ | with_reducible refine blk_drewN ?_ _ | with_reducible refine block_alloc_lt ?_ _))); rintro e w9 ⟨rfl, k9, ⟨hb9, g0, g1, g2, g3⟩, zb9, zc9, zw9, ⟨zq, hq9, cq, fq⟩, zr, hr9, cr, fr⟩)
                            | (go_at_call 18; refine (LB.out (wr.heap.size + 1) wr.heap.size _ ?x1 ?x2 ?x3).mono ?_; (case x1 => (repeat (first | with_reducible exact Kept.refl _ _ | with_reducible refine Kept.drew ?_ | with_reducible refine Kept.drewN ?_ _ | with_reducible refine Kept.alloc ?_ _))); (case x2 => (repeat (first | with_reducible exact block_alloc_new _ _ | with_reducible exact two_b _ _ _ | with_reducible refine blk_drew ?_ | with_reducible refine blk_drewN ?_ _ | with_reducible refine block_alloc_lt ?_ _))); (case x3 => (repeat (first | with_reducible exact block_alloc_new _ _ | with_reducible exact two_b _ _ _ | with_reducible refine blk_drew ?_ | with_reducible refine blk_drewN ?_ _ | with_reducible refine block_alloc_lt ?_ _))); rintro e w9 ⟨rfl, k9, ⟨hb9, g0, g1, g2, g3⟩, zb9, zc9, zw9, ⟨zq, hq9, cq, fq⟩, zr, hr9, cr, fr⟩)
                            | (go_at_call 18; refine (LQ.out wr.heap.size _ ?x1 ?x2).mono ?_; (case x1 => (repeat (first | with_reducible exact Kept.refl _ _ | with_reducible refine Kept.drew ?_ | with_reducible refine Kept.drewN ?_ _ | with_reducible refine Kept.alloc ?_ _))); (case x2 => (repeat (first | with_reducible exact block_alloc_new _ _ | with_reducible exact two_b _ _ _ | with_reducible refine blk_drew ?_ | with_reducible refine blk_drewN ?_ _ | with_reducible refine block_alloc_lt ?_ _))); rintro e w9 ⟨rfl, k9, ⟨hb9, g0, g1, g2, g3⟩, zb9, zc9, zw9, zq, hq9, cq, fq⟩)
                            | (go_at_call 18; refine (LR.out wr.heap.size _ ?x1 ?x2).mono ?_; (case x1 => (repeat (first | with_reducible exact Kept.refl _ _ | with_reducible refine Kept.drew ?_ | with_reducible refine Kept.drewN ?_ _ | with_reducible refine Kept.alloc ?_ _))); (case x2 => (repeat (first | with_reducible exact block_alloc_new _ _ | with_reducible exact two_b _ _ _ | with_reducible refine blk_drew ?_ | with_reducible refine blk_drewN ?_ _ | with_reducible refine block_alloc_lt ?_ _))); rintro e w9 ⟨rfl, k9, ⟨hb9, g0, g1, g2, g3⟩, zb9, zc9, zw9, zr, hr9, cr, fr⟩)
                            | (go_at_call 18; refine (L0.out _ ?x1).mono ?_; (case x1 => (repeat (first | with_reducible exact Kept.refl _ _ | with_reducible refine Kept.drew ?_ | with_reducible refine Kept.drewN ?_ _ | with_reducible refine Kept.alloc ?_ _))); rintro e w9 ⟨rfl, k9, ⟨hb9, g0, g1, g2, g3⟩, zb9, zc9, zw9⟩))
                        all_goals go_wp2_with fail
                        all_goals go_meet
                        all_goals refine ⟨_, _, rfl, rfl, ?_, ?_, ?_⟩
                        all_goals first
                          | (with_reducible refine Kept.trans (Kept.refl _ _) ?_
                             repeat (first | with_reducible exact k9 | with_reducible refine Kept.alloc ?_ _ | with_reducible refine Kept.setAt ?_ (.inr (by omega)) _ _))
                          | (repeat (first | with_reducible exact blk8 hq9 q | with_reducible exact hr9 | with_reducible refine resLaidP ?_ true fo vo | with_reducible exact block_alloc_new _ _ | with_reducible exact two_b _ _ _ | with_reducible exact newBox (by simp [World.setCell]) _ | with_reducible refine block_alloc_lt ?_ _ | with_reducible refine block_set_ne ?_ (by omega) _ _))
                      case rest =>
                        obtain ⟨bq, br, rfl, rfl, hbq, hbr, hKC0⟩ := hcut
                        have hKC := HY.out.1.trans hKC0
                        have hBC := hKC0.at HY.out.2 (by simp)
                        have hLC := HL.out.kept hKC
                        have hCC := HC.out.kept hKC
                        obtain ⟨_, el, cl0, fl, zl⟩ := hLC.cells hlt
                        obtain ⟨_, ec, zc, cc0⟩ := hCC.cells hlt
                        obtain ⟨_, lcur, el2, hlb, _⟩ := hLC.at_ i hlt
                        simp only [Option.some.injEq, Addr.mk.injEq, and_true] at el ec el2
                        subst el ec el2
                        have cl := cl0 i hlt
                        rw [hli] at cl
                        obtain ⟨_, _, _, _, _, c5, c6, c7, c8⟩ := cc0 i hlt
                        have cq : ∀ o, wc.cell? ⟨bq, o, none⟩ = #[Value.int .i64 (q 0), .int .i64 (q 1), .int .i64 (q 2), .int .i64 (q 3), .int .i64 (q 4), .int .i64 (q 5), .int .i64 (q 6), .int .i64 (q 7)][o]? := cell_of hbq
                        have cr : ∀ o, wc.cell? ⟨br, o, none⟩ = #[Value.bool true, .bool fo, .int .i64 vo][o]? := cell_of hbr
                        have nql : bq ≠ gl := ne_of_blocks hbq hlb (by simp)
                        have nql' : gl ≠ bq := Ne.symm nql
                        have zq := lt_of_block hbq
                        have REC : Hid (∀ n, Calls Try.prog 21 #[.slice (some ⟨gc, 0, none⟩) h.n ca, .slice (some ⟨gl, 0, none⟩) h.n cb, .agg #[Value.int .i64 (q 0), .int .i64 (q 1), .int .i64 (q 2), .int .i64 (q 3), .int .i64 (q 4), .int .i64 (q 5), .int .i64 (q 6), .int .i64 (q 7)]] ((wc.drewN n).setCell ⟨gl, i, none⟩ (.bool false)) (Expl h (put lf i false) q ((wc.drewN n).setCell ⟨gl, i, none⟩ (.bool false)))) := by
                          intro n
                          have kd : Kept [] wc (wc.drewN n) := (Kept.refl [] wc).drewN n
                          have := IH.out (put lf i false) q ((wc.drewN n).setCell ⟨gl, i, none⟩ (.bool false)) (by have := cntL_lt hlt hli; have := HF.out; omega) ((hCC.kept kd).left (hLC.kept kd) hlt _) ((hLC.kept kd).take hlt false)
                          unfold cells8 at this
                          exact this
                        have HWC : Hid (∀ n, Kept [] w (wc.drewN n) ∧ (wc.drewN n).heap[w.heap.size]? = some (.cells (cells8 p) 50 (0, 0))) := fun n => ⟨hKC.drewN n, hBC⟩
                        have HLC : Hid (∀ n, LeftAt (wc.drewN n) (some ⟨gl, 0, none⟩) h.n lf) := fun n => hLC.kept ((Kept.refl [] wc).drewN n)
                        clear hKC hKC0 hBC hLC hCC cl0 cc0 hlb hbq hbr zc
                        by_cases ht : 0 < h.til i
                        · have ht' : (0 : Int) < h.til i := by omega
                          rw [decide_eq_true ht] at c6
                          have hn30 := neq30 true fo vo true (h.res i).1 (h.res i).2
                          have hg := g30
                          by_cases hok : (fo, vo) = h.res i
                          · have e1 : fo = (h.res i).1 := by rw [← hok]
                            have e2 : vo = (h.res i).2 := by rw [← hok]
                            have hv : (!(true == true && fo == (h.res i).1 && vo == (h.res i).2)) = false := by rw [← e1, ← e2]; simp
                            rw [hv] at hn30
                            clear hv e1 e2 hok
                            go_wp2_with fail
                            go_big_quiet (fail)
                            clear hn30
                            go_wp2_with fail
                            refine (REC.out nq).mono ?_
                            rintro e w10 ⟨r, rfl, hr, k10⟩
                            have kb := kept_back (HLC.out nq) hlt hli k10
                            have L10 := ((HLC.out nq).take hlt false).kept k10
                            obtain ⟨_, el, cl10a, fl10, _⟩ := L10.cells hlt
                            simp only [Option.some.injEq, Addr.mk.injEq, and_true] at el
                            subst el
                            have cl10 := cl10a i hlt
                            have KB : Hid _ := And.intro kb hr
                            clear kb hr k10 L10 REC cl10a cq cr
                            cases r with
                            | true =>
                              go_wp2
                              go_ret
                              exact ⟨true, rfl, fun _ _ => rfl, (HWC.out nq).1.trans KB.out.1⟩
                            | false =>
                              go_wp2
                              go_roundw
                              case rel => exact ⟨i + 1, by omega, by go_num, (HWC.out nq).1.trans KB.out.1, KB.out.1.at (HWC.out nq).2 (by simp), From.next HZ.out fun l o => by
                                have o' := o.tail
                                rw [← HQ.out.1] at o'
                                have := KB.out.2 l o'
                                cases this⟩
                              case measure => simp [intOf]; omega
                          · have hv : (!(true == true && fo == (h.res i).1 && vo == (h.res i).2)) = true := by
                              by_cases e1 : fo = (h.res i).1
                              · by_cases e2 : vo = (h.res i).2
                                · exact absurd (Prod.ext e1 e2) hok
                                · simp [e2]
                              · simp [e1]
                            rw [hv] at hn30
                            have HOK : Hid _ := hok
                            clear hv hok
                            go_wp2_with fail
                            go_big_quiet (fail)
                            clear hn30
                            go_wp2
                            go_roundw
                            case rel => exact ⟨i + 1, by omega, by go_num, (HWC.out nq).1, (HWC.out nq).2, From.next HZ.out fun l o => HOK.out (by
                              have := o.head.2.2 ht
                              rw [← this, HQ.out.2.1, HQ.out.2.2])⟩
                            case measure => simp [intOf]; omega
                        · have h0 : h.til i = 0 := by omega
                          have c5' : wc.cell? ⟨gc, i * 9 + 5, none⟩ = some (.int .i64 0) := by rw [c5, h0]; rfl
                          clear c5
                          go_wp2_with fail
                          go_big_quiet (fail)
                          go_wp2_with fail
                          refine (REC.out nq).mono ?_
                          rintro e w10 ⟨r, rfl, hr, k10⟩
                          have kb := kept_back (HLC.out nq) hlt hli k10
                          have L10 := ((HLC.out nq).take hlt false).kept k10
                          obtain ⟨_, el, cl10a, fl10, _⟩ := L10.cells hlt
                          simp only [Option.some.injEq, Addr.mk.injEq, and_true] at el
                          subst el
                          have cl10 := cl10a i hlt
                          have KB : Hid _ := And.intro kb hr
                          clear kb hr k10 L10 REC cl10a cq cr
                          cases r with
                          | true =>
                            go_wp2
                            go_ret
                            exact ⟨true, rfl, fun _ _ => rfl, (HWC.out nq).1.trans KB.out.1⟩
                          | false =>
                            go_wp2
                            go_roundw
                            case rel => exact ⟨i + 1, by omega, by go_num, (HWC.out nq).1.trans KB.out.1, KB.out.1.at (HWC.out nq).2 (by simp), From.next HZ.out fun l o => by
                              have o' := o.tail
                              rw [← HQ.out.1] at o'
                              have := KB.out.2 l o'
                              cases this⟩
                            case measure => simp [intOf]; omega
            · have hlt' : ¬ (i : Int) < h.n := by omega
              obtain rfl : i = h.n := by omega
              have HX : Hid _ := And.intro hKK (And.intro hB hF)
              clear hKK hB hF
              go_wp2
              go_ret
              exact ⟨false, rfl, fun l o => absurd o (HX.out.2.2.end_ HOP.out l), HX.out.1⟩
end Go.Proofs.Ytmnkphenobfbfaa
