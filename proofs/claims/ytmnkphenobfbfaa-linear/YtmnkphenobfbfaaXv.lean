import Derived.Test.YtmnkphenobfbfaaGc
import Derived.Test.YtmnkphenobfbfaaXg
import Derived.Test.YtmnkphenobfbfaaXh
namespace Go.Proofs.Ytmnkphenobfbfaa
open Go.RowKit
theorem GAt.ofNew {p : PM} {w : World} {n : Nat} (hl : p.ts.length = n) (h : PAt p 0 w false (fun _ => none)) (en : Nat → Nat) : GAt p en 0 (M.new n) w := by
  refine ⟨hl, by rw [← hl]; exact h.len, h.cap, h.m, h.c, h.s, h.tb, fun i t ht => ⟨0, fun _ => rfl, h.ts i t ht⟩, fun j hj => absurd hj (Nat.not_lt_zero _), fun j _ hj => absurd hj (Nat.not_lt_zero _)⟩
set_option maxRecDepth 100000 in
set_option maxHeartbeats 4000000 in
theorem new_gen (n : Nat) (w : World) (h1 : 1 ≤ n) (h6 : n ≤ 6) : Calls Try.prog 8 #[.int .i64 n] w fun e w' => ∃ p : PM, e = .returned (.tuple #[.pointer (some ⟨p.m, 0, none⟩), .int .i64 0]) ∧
    p.ts.length = n ∧ PAt p 0 w' false (fun _ => none) ∧ w.heap.size ≤ p.m ∧ w.heap.size ≤ p.c ∧ w.heap.size ≤ p.s ∧ (∀ t, t ∈ p.ts → w.heap.size ≤ t) ∧ Kept [] w w' := by
  have hmc := mkchan
  have h1' : ¬ (n : Int) < 1 := by omega
  have h6' : ¬ 6 < (n : Int) := by omega
  go_enter Try.func8, Try.ntmps8
  go_wp2_with fail
  go_cut [4] (fun x w' => ∃ m c s, x = .pointer (some ⟨m, 0, none⟩) ∧ Making ⟨m, c, s, 0, 0, []⟩ 0 (.slice none 0 0) w w' ∧ w.heap.size ≤ m ∧ w.heap.size ≤ c ∧ w.heap.size ≤ s)
  case first =>
    go_region_with (first | (go_at_call 22; refine (snew _).mono ?_; rintro e w' ⟨rfl, rfl⟩))
    all_goals go_wp2_with fail
    all_goals go_meet
    · have t3 := three w (.chan 0 #[] false 0 0 false) (.cells shCells 97) (.cells #[.int .i32 0, .int .u32 0, .chan (some w.heap.size), .pointer (some ⟨w.heap.size + 1, 0, none⟩), .slice none 0 0] 74)
      exact ⟨_, _, _, rfl, ⟨rfl, t3.2.2, t3.1, t3.2.1, ⟨rfl, .inl ⟨rfl, rfl⟩⟩, fun i t hi => by simp at hi, ((((Kept.refl [] w).alloc _).alloc _).alloc _).drew, by simp⟩, by omega, Nat.le_refl _, by omega⟩
    · have t3 := three w (.cells shCells 97) (.chan 0 #[] false 0 0 false) (.cells #[.int .i32 0, .int .u32 0, .chan (some (w.heap.size + 1)), .pointer (some ⟨w.heap.size, 0, none⟩), .slice none 0 0] 74)
      exact ⟨_, _, _, rfl, ⟨rfl, t3.2.2, t3.2.1, t3.1, ⟨rfl, .inl ⟨rfl, rfl⟩⟩, fun i t hi => by simp at hi, ((((Kept.refl [] w).alloc _).alloc _).alloc _).drew, by simp⟩, by omega, by omega, Nat.le_refl _⟩
  case rest =>
    obtain ⟨m, c, s, rfl, hM, hz, hzc, hzs⟩ := hcut
    clear hmc
    go_wp2_with fail
    go_loopw [17] (fun x W => ∃ (k : Nat) (sl : Value) (ts : List Nat), k ≤ n ∧ x = .int .i64 k ∧ Making ⟨m, c, s, 0, 0, ts⟩ k sl w W) (fun x _ => n - (intOf x).toNat)
    case atStart => exact ⟨0, _, [], by omega, rfl, hM⟩
    case round =>
      obtain ⟨k, sl, ts, hkn, rfl, hR⟩ := hrel
      clear hM
      obtain ⟨i0, hi0, hz0, hz1, hz2⟩ := info_parts info79
      by_cases hlt : k < n
      · have hlt' : (k : Int) < n := by omega
        have c3 : wr.cell? ⟨m, 3, none⟩ = some (.pointer (some ⟨s, 0, none⟩)) := cell_of hR.m 3
        have c4 : wr.cell? ⟨m, 4, none⟩ = some sl := cell_of hR.m 4
        have zm := lt_of_block hR.m
        have om := hR.own_ne hR.m (by simp)
        have HR : Hid _ := hR
        clear hR
        go_wp2_with fail
        go_region_law (first
          | (refine step_append_lies _ (by rfl) _ _ _ (by rfl) w.heap.size 75 i0 _ 1 8 Try.underlying72 hi0 hz0 hz1 hz2 rfl (by omega) sl k _ (by rfl) (((HR.out.row.alloc _).alloc _).drew)
              ⟨wr.heap.size + 1, 0, none⟩ 1 1 [.pointer (some ⟨wr.heap.size, 0, none⟩)] (by rfl) (by rfl) (World.news_of_block (cs := #[.pointer (some ⟨wr.heap.size, 0, none⟩)]) (t := 75) (fr := (0, 0)) (three2 wr _ _)) (by simp [Value.oneCell'])
              (by omega) (by unfold maxLen; omega) (by omega) (by simp; have := HR.out.kept.size; omega) (wr.heap.size + 2) (by simp) ?_; intro g cap w1 hown1 hgrow hat hlt1; have hm1 := (hgrow.block m (by simp; omega) (Ne.symm om)).trans (block_alloc_lt (block_alloc_lt HR.out.m _) _); have s4 := cell_of hm1 4; have sf := frozen_of hm1 4)
          | (go_simp; go_at_call 23; refine (tnew k s _).mono ?_; rintro e w' ⟨rfl, rfl⟩))
        all_goals
          have hS := HR.out.step hown1 hgrow hz
          clear s4 sf hm1 hown1 hgrow hat c3 c4
          go_wp2
          go_roundw
          case rel => exact ⟨k + 1, _, _, by omega, by go_num, hS⟩
          case measure => simp [intOf]; omega
      · go_wp2
        go_ret2
        have hkk : k = n := by omega
        subst hkk
        obtain ⟨tb, cap, hP⟩ := hR.done h1 h6
        exact ⟨⟨m, c, s, tb, cap, ts⟩, rfl, hR.len, hP, hz, hzc, hzs, hR.new, hR.kept⟩
end Go.Proofs.Ytmnkphenobfbfaa
