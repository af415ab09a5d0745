import Derived.Test.YtfgfpggjcfhccaaGreatWa
import Derived.Deep.LoopGhost
namespace Go.Proofs.YtfgfpggjcfhccaaGreat
open Go.RowKit
/-- A script of n plain steps that lies in memory. -/
structure Script (w : World) (S : Value) (n : Nat) : Prop where
  lies : ∃ a c, S = .slice a n c ∧ n ≤ c ∧ ∀ k : Nat, k < n → ∃ (sb so : Nat) (kd mp i y0 y1 y2 y3 : Int), a = some ⟨sb, so, none⟩ ∧ sb < w.heap.size ∧
    w.cell? ⟨sb, so + k * 7, none⟩ = some (.int .i64 kd) ∧ w.cell? ⟨sb, so + k * 7 + 1, none⟩ = some (.int .i64 mp) ∧ w.cell? ⟨sb, so + k * 7 + 2, none⟩ = some (.int .i64 i) ∧
    w.cell? ⟨sb, so + k * 7 + 3, none⟩ = some (.int .i64 y0) ∧ w.cell? ⟨sb, so + k * 7 + 4, none⟩ = some (.int .i64 y1) ∧ w.cell? ⟨sb, so + k * 7 + 5, none⟩ = some (.int .i64 y2) ∧ w.cell? ⟨sb, so + k * 7 + 6, none⟩ = some (.int .i64 y3)
theorem Script.kept {w w' : World} {S : Value} {n : Nat} (h : Script w S n) (k : Kept [] w w') : Script w' S n := by
  obtain ⟨a, c, h1, h2, h3⟩ := h.lies
  refine ⟨a, c, h1, h2, fun j hj => ?_⟩
  obtain ⟨sb, so, kd, mp, i, y0, y1, y2, y3, e, hlt, c0, c1, c2, c3, c4, c5, c6⟩ := h3 j hj
  have hc : ∀ o, w'.cell? ⟨sb, o, none⟩ = w.cell? ⟨sb, o, none⟩ := fun o => (k.far hlt (by simp)).1
  exact ⟨sb, so, kd, mp, i, y0, y1, y2, y3, e, Nat.lt_of_lt_of_le hlt k.size, (hc _).trans c0, (hc _).trans c1, (hc _).trans c2, (hc _).trans c3, (hc _).trans c4, (hc _).trans c5, (hc _).trans c6⟩
set_option maxRecDepth 100000 in
set_option maxHeartbeats 6400000 in
theorem plays_yes (S : Value) (n : Nat) (w0 : World) (hS : Script w0 S n) (hn : n ≤ 1048576) : Calls Tryz.prog 9 #[S, .bool false, .bool false, .bool false] w0 fun e w' => e = .returned (.bool true) ∧ Kept [] w0 w' := by
  have HS : Hid _ := hS
  have shape : ∃ a c, S = .slice a n c ∧ n ≤ c := by
    obtain ⟨a, c, h1, h2, _⟩ := hS.lies
    exact ⟨a, c, h1, h2⟩
  obtain ⟨sa, sc, rfl, hsc⟩ := shape
  clear hS
  go_enter Tryz.func9, Tryz.ntmps9
  go_wp2_with fail
  refine (wstep_new w0.heap.size w0 _ (block_alloc_new _ _) ((Kept.refl [] w0).alloc _) (Nat.le_refl _)).mono ?_
  rintro e w1 ⟨rfl, hO⟩
  obtain ⟨b, p, q, hl3, hW⟩ := hO.out
  obtain ⟨pb, cap, ls, l3, xs, ys, pcs, e1, e2, e3, e4⟩ := hW.at_
  have d0 : w1.cell? ⟨w0.heap.size, 0, none⟩ = some (.slice (some ⟨pb, 0, none⟩) 1 cap) := cell_of e1 0
  clear e1 e2 e3 e4 hO hl3
  go_wp2_with fail
  clear d0
  go_loopw [10, 12] (fun ok x W => ∃ k L : Nat, k ≤ n ∧ L ≤ 2 * k ∧ x = .int .i64 k ∧ ok = .bool true ∧ ∃ cl th, WAt w0.heap.size b p q cl th L w0 W) (fun _ x _ => n - (intOf x).toNat)
  case atStart => exact ⟨0, 0, by omega, by omega, rfl, rfl, _, _, hW⟩
  case round =>
    obtain ⟨k, L, hk, hL, rfl, rfl, cl, th, hW⟩ := hrel
    by_cases hlt : k < n
    · have hlt' : (k : Int) < n := by omega
      obtain ⟨_, _, hs1, _, hs3⟩ := (HS.out.kept hW.kept).lies
      cases hs1
      obtain ⟨sb, so, kd, mp, i, y0, y1, y2, y3, rfl, hltb, c0, c1, c2, c3, c4, c5, c6⟩ := hs3 k hlt
      have HC : Hid _ := hs3
      clear hs3
      have hb31 : (k : Int) ≤ 1048576 := by omega
      by_cases hk2 : kd = 2
      · subst hk2
        by_cases hy1 : y0 = 1
        · subst hy1
          go_wp2
          go_roundw
          case rel => exact ⟨k + 1, L, by omega, by omega, by go_num, rfl, _, _, hW.keptNil ((Kept.refl [] wr).alloc _)⟩
          case measure => simp [intOf]; omega
        · by_cases hy2 : 1 < y0
          · have ey : (y0 == 1) = false := beq_eq_false_iff_ne.2 hy1
            go_wp2
            go_roundw
            case rel => exact ⟨k + 1, L, by omega, by omega, by go_num, rfl, _, _, hW.keptNil ((Kept.refl [] wr).alloc _)⟩
            case measure => simp [intOf]; omega
          · have ey : (y0 == 1) = false := beq_eq_false_iff_ne.2 hy1
            go_wp2_with fail
            refine (wstep w0.heap.size b p q cl th L 2 mp i y0 y1 y2 y3 w0 _ (hW.keptNil ((Kept.refl [] wr).alloc _)) (by omega) (fun _ => by omega) (by omega)).mono ?_
            rintro e w2 ⟨rfl, hSt⟩
            obtain ⟨cl2, th2, L2, hL2, hW2⟩ := hSt.out
            obtain ⟨pb2, cap2, ls2, l32, xs2, ys2, pcs2, f1, f2, f3, f4⟩ := hW2.at_
            have HF : Hid _ := And.intro f1 f4
            clear f1 f2 f3 f4 hSt c0 c1 c2 c3 c4 c5 c6 hW
            go_wp2_with fail
            refine (looks_yes w0.heap.size w0.heap.size L2 _ ls2 l32 xs2 ys2 w2 HF.out.1 HF.out.2 (by omega)).mono ?_
            rintro e w3 ⟨rfl, rfl⟩
            go_wp2
            go_roundw
            case rel => exact ⟨k + 1, L2, by omega, by omega, by go_num, rfl, _, _, hW2⟩
            case measure => simp [intOf]; omega
      · have e2 : (kd == 2) = false := beq_eq_false_iff_ne.2 hk2
        by_cases hk1 : kd = 1
        · subst hk1
          go_wp2
          go_roundw
          case rel => exact ⟨k + 1, L, by omega, by omega, by go_num, rfl, _, _, hW.keptNil ((Kept.refl [] wr).alloc _)⟩
          case measure => simp [intOf]; omega
        · have e1 : (kd == 1) = false := beq_eq_false_iff_ne.2 hk1
          go_wp2_with fail
          refine (wstep w0.heap.size b p q cl th L kd mp i y0 y1 y2 y3 w0 _ (hW.keptNil ((Kept.refl [] wr).alloc _)) hk1 (fun h => absurd h hk2) (by omega)).mono ?_
          rintro e w2 ⟨rfl, hSt⟩
          obtain ⟨cl2, th2, L2, hL2, hW2⟩ := hSt.out
          obtain ⟨pb2, cap2, ls2, l32, xs2, ys2, pcs2, f1, f2, f3, f4⟩ := hW2.at_
          have HF : Hid _ := And.intro f1 f4
          clear f1 f2 f3 f4 hSt c0 c1 c2 c3 c4 c5 c6 hW
          go_wp2_with fail
          refine (looks_yes w0.heap.size w0.heap.size L2 _ ls2 l32 xs2 ys2 w2 HF.out.1 HF.out.2 (by omega)).mono ?_
          rintro e w3 ⟨rfl, rfl⟩
          go_wp2
          go_roundw
          case rel => exact ⟨k + 1, L2, by omega, by omega, by go_num, rfl, _, _, hW2⟩
          case measure => simp [intOf]; omega
    · go_wp2
      go_ret
      exact ⟨rfl, hW.kept⟩
set_option maxHeartbeats 400000 in
theorem loaded_yes (S : Value) (n : Nat) (w : World) (hS : Script w S n) (hn : n ≤ 1048576) : Calls Tryz.prog 4 #[S] w fun e w' => e = .returned (.bool true) ∧ Kept [] w w' := by
  go_enter Tryz.func4, Tryz.ntmps4
  go_wp2_with fail
  refine (plays_yes S n w hS hn).mono ?_
  rintro e w' ⟨rfl, hk⟩
  go_wp2
  go_ret
  exact ⟨rfl, hk⟩
end Go.Proofs.YtfgfpggjcfhccaaGreat
