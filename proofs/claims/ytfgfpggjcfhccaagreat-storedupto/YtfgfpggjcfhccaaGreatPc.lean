import Derived.Test.YtfgfpggjcfhccaaGreatPb
import Derived.Laws.StructEq
import Derived.Deep.RegionHeld3
namespace Go.Proofs.YtfgfpggjcfhccaaGreat
open Go.RowKit
theorem u113 : Tryz.prog.underlying 113 = some (.struct (Tryz.prog.fieldsOf 113)) := by
  rw [Program.fieldsOf, Tryz.underlying113]
theorem s113 : Tryz.prog.stoodInHeld 113 = false := by kernel_rfl
theorem g113 : Tryz.prog.eqGuardType Tryz.prog.depth 113 = false := by kernel_rfl
theorem neq113 (a b c e : Int) (w : World) : (binOp .neq 113 (.agg #[.int .i64 a, .int .i64 b]) (.agg #[.int .i64 c, .int .i64 e])).run Tryz.prog w = .ok (.bool (!(a == c && b == e))) w := by
  rw [run_neq_struct, run_equalIn_struct w 9999 113 _ _ u113 s113, Program.fieldsOf, Tryz.underlying113]
  by_cases h1 : a = c <;> by_cases h2 : b = e <;> simp [go_sem, h1, h2]
theorem neq113No {a b c e : Int} (h : ¬ (a = c ∧ b = e)) (w : World) : (binOp .neq 113 (.agg #[.int .i64 a, .int .i64 b]) (.agg #[.int .i64 c, .int .i64 e])).run Tryz.prog w = .ok (.bool true) w := by
  rw [neq113]
  have : (a == c && b == e) = false := by
    rw [Bool.eq_false_iff]
    intro hh
    simp only [Bool.and_eq_true, beq_iff_eq] at hh
    exact h hh
  rw [this]; rfl
theorem neq113Yes {a b c e : Int} (h1 : a = c) (h2 : b = e) (w : World) : (binOp .neq 113 (.agg #[.int .i64 a, .int .i64 b]) (.agg #[.int .i64 c, .int .i64 e])).run Tryz.prog w = .ok (.bool false) w := by
  rw [neq113, h1, h2]
  simp
set_option maxRecDepth 100000 in
set_option maxHeartbeats 800000 in
theorem g_setIfC_no (g : Nat) (x y a b c e : Int) (w : World) (h : w.heap[g]? = some (.cells #[.int .i64 x, .int .i64 y] 141 (0, 0))) (hne : ¬ (x = a ∧ y = b)) :
    Calls Tryz.prog 96 #[.pointer (some ⟨g, 0, none⟩), .agg #[.int .i64 a, .int .i64 b], .agg #[.int .i64 c, .int .i64 e]] w fun r w' => r = .returned (.bool false) ∧ Kept [] w w' := by
  have hs := lt_of_block h
  have hc : ∀ o, w.cell? ⟨g, o, none⟩ = #[Value.int .i64 x, .int .i64 y][o]? := cell_of h
  have hq := neq113No hne
  have hg := g113
  go_enter Tryz.func96, Tryz.ntmps96
  go_wp2_with fail
  go_quiet (fail)
  go_wp2
  go_ret
  exact ⟨rfl, Kept.drewN (((Kept.refl [] w).alloc _).alloc _) _⟩
set_option maxRecDepth 100000 in
set_option maxHeartbeats 800000 in
theorem g_setIfC_yes (g : Nat) (a b c e : Int) (w : World) (h : w.heap[g]? = some (.cells #[.int .i64 a, .int .i64 b] 141 (0, 0))) :
    Calls Tryz.prog 96 #[.pointer (some ⟨g, 0, none⟩), .agg #[.int .i64 a, .int .i64 b], .agg #[.int .i64 c, .int .i64 e]] w fun r w' => r = .returned (.bool true) ∧ w'.heap[g]? = some (.cells #[.int .i64 c, .int .i64 e] 141 (0, 0)) ∧ Kept [g] w w' := by
  have hs := lt_of_block h
  have hc : ∀ o, w.cell? ⟨g, o, none⟩ = #[Value.int .i64 a, .int .i64 b][o]? := cell_of h
  have hf : ∀ o, w.frozen? ⟨g, o, none⟩ = false := frozen_of h
  have hq := neq113Yes (a := a) (b := b) rfl rfl
  have hg := g113
  go_enter Tryz.func96, Tryz.ntmps96
  go_wp2_with fail
  go_quiet (fail)
  go_wp2
  go_ret
  refine ⟨rfl, (block_set_same (block_set_same (blk_drewN (block_alloc_lt (block_alloc_lt h _) _) _) _ _) _ _).trans (by simp), ?_⟩
  exact (((((Kept.refl _ w).alloc _).alloc _).drewN _).setCell (.inl (by simp)) _).setCell (.inl (by simp)) _
/-- How many of a table's first n keys it has. -/
def cntP (f : Nat → Option Addr) : Nat → Nat
  | 0 => 0
  | n + 1 => cntP f n + if (f n).isSome then 1 else 0
theorem cntP_le (f : Nat → Option Addr) (n : Nat) : cntP f n ≤ n := by
  induction n with
  | zero => simp [cntP]
  | succ n ih => simp only [cntP]; split <;> omega
def ptrs (f : Nat → Option Addr) : Array Value := #[.pointer (f 0), .pointer (f 1), .pointer (f 2), .pointer (f 3), .pointer (f 4), .pointer (f 5), .pointer (f 6), .pointer (f 7)]
theorem ptrs_at (f : Nat → Option Addr) {k : Nat} (hk : k < 8) : (ptrs f)[k]? = some (.pointer (f k)) := by
  match k, hk with
  | 0, _ | 1, _ | 2, _ | 3, _ | 4, _ | 5, _ | 6, _ | 7, _ => rfl
theorem idx_p0 (f : Nat → Option Addr) (w : World) : Sem.run Tryz.prog (Instr.index 99 (Value.agg #[Value.pointer (f 0), .pointer (f 1), .pointer (f 2), .pointer (f 3), .pointer (f 4), .pointer (f 5), .pointer (f 6), .pointer (f 7)]) (Value.int IntKind.i64 (((0 : Nat) : Int)))) w = .ok (.pointer (f 0)) w := by kernel_rfl
theorem idx_p1 (f : Nat → Option Addr) (w : World) : Sem.run Tryz.prog (Instr.index 99 (Value.agg #[Value.pointer (f 0), .pointer (f 1), .pointer (f 2), .pointer (f 3), .pointer (f 4), .pointer (f 5), .pointer (f 6), .pointer (f 7)]) (Value.int IntKind.i64 (((1 : Nat) : Int)))) w = .ok (.pointer (f 1)) w := by kernel_rfl
theorem idx_p2 (f : Nat → Option Addr) (w : World) : Sem.run Tryz.prog (Instr.index 99 (Value.agg #[Value.pointer (f 0), .pointer (f 1), .pointer (f 2), .pointer (f 3), .pointer (f 4), .pointer (f 5), .pointer (f 6), .pointer (f 7)]) (Value.int IntKind.i64 (((2 : Nat) : Int)))) w = .ok (.pointer (f 2)) w := by kernel_rfl
theorem idx_p3 (f : Nat → Option Addr) (w : World) : Sem.run Tryz.prog (Instr.index 99 (Value.agg #[Value.pointer (f 0), .pointer (f 1), .pointer (f 2), .pointer (f 3), .pointer (f 4), .pointer (f 5), .pointer (f 6), .pointer (f 7)]) (Value.int IntKind.i64 (((3 : Nat) : Int)))) w = .ok (.pointer (f 3)) w := by kernel_rfl
theorem idx_p4 (f : Nat → Option Addr) (w : World) : Sem.run Tryz.prog (Instr.index 99 (Value.agg #[Value.pointer (f 0), .pointer (f 1), .pointer (f 2), .pointer (f 3), .pointer (f 4), .pointer (f 5), .pointer (f 6), .pointer (f 7)]) (Value.int IntKind.i64 (((4 : Nat) : Int)))) w = .ok (.pointer (f 4)) w := by kernel_rfl
theorem idx_p5 (f : Nat → Option Addr) (w : World) : Sem.run Tryz.prog (Instr.index 99 (Value.agg #[Value.pointer (f 0), .pointer (f 1), .pointer (f 2), .pointer (f 3), .pointer (f 4), .pointer (f 5), .pointer (f 6), .pointer (f 7)]) (Value.int IntKind.i64 (((5 : Nat) : Int)))) w = .ok (.pointer (f 5)) w := by kernel_rfl
theorem idx_p6 (f : Nat → Option Addr) (w : World) : Sem.run Tryz.prog (Instr.index 99 (Value.agg #[Value.pointer (f 0), .pointer (f 1), .pointer (f 2), .pointer (f 3), .pointer (f 4), .pointer (f 5), .pointer (f 6), .pointer (f 7)]) (Value.int IntKind.i64 (((6 : Nat) : Int)))) w = .ok (.pointer (f 6)) w := by kernel_rfl
theorem idx_p7 (f : Nat → Option Addr) (w : World) : Sem.run Tryz.prog (Instr.index 99 (Value.agg #[Value.pointer (f 0), .pointer (f 1), .pointer (f 2), .pointer (f 3), .pointer (f 4), .pointer (f 5), .pointer (f 6), .pointer (f 7)]) (Value.int IntKind.i64 (((7 : Nat) : Int)))) w = .ok (.pointer (f 7)) w := by kernel_rfl
theorem idx_p (f : Nat → Option Addr) (k : Nat) (hk : k < 8) (w : World) : Sem.run Tryz.prog (Instr.index 99 (Value.agg #[Value.pointer (f 0), .pointer (f 1), .pointer (f 2), .pointer (f 3), .pointer (f 4), .pointer (f 5), .pointer (f 6), .pointer (f 7)]) (Value.int IntKind.i64 k)) w = .ok (.pointer (f k)) w := by
  have h : k = 0 ∨ k = 1 ∨ k = 2 ∨ k = 3 ∨ k = 4 ∨ k = 5 ∨ k = 6 ∨ k = 7 := by omega
  rcases h with rfl | rfl | rfl | rfl | rfl | rfl | rfl | rfl
  · exact idx_p0 f w
  · exact idx_p1 f w
  · exact idx_p2 f w
  · exact idx_p3 f w
  · exact idx_p4 f w
  · exact idx_p5 f w
  · exact idx_p6 f w
  · exact idx_p7 f w
set_option maxRecDepth 100000 in
set_option maxHeartbeats 800000 in
theorem g_count (f : Nat → Option Addr) (w : World) : Calls Tryz.prog 66 #[.agg (ptrs f)] w fun e w' => e = .returned (.int .i64 (cntP f 8)) ∧ Kept [] w w' := by
  simp only [ptrs]
  go_enter Tryz.func66, Tryz.ntmps66
  go_wp2
  go_loop [3, 7] (fun n i => ∃ k : Nat, k ≤ 8 ∧ i = .int .i64 k ∧ n = .int .i64 (cntP f k)) (fun _ i => 8 - (intOf i).toNat)
  case atStart => exact ⟨0, by omega, rfl, rfl⟩
  case round =>
    obtain ⟨k, hk, rfl, rfl⟩ := hrel
    by_cases hlt : k < 8
    · have hn := idx_p f k hlt
      have hle := cntP_le f k
      cases hfk : f k with
      | none =>
        simp only [hfk] at hn
        have HF : Hid _ := hfk
        clear hfk
        go_wp2
        go_round
        case rel => exact ⟨k + 1, by omega, by go_num, by simp [cntP, HF.out]⟩
        case measure => simp [intOf]; omega
      | some a =>
        simp only [hfk] at hn
        have HF : Hid _ := hfk
        clear hfk
        go_wp2
        go_round
        case rel => exact ⟨k + 1, by omega, by go_num, by simp only [cntP, HF.out, Option.isSome, if_true]; go_num⟩
        case measure => simp [intOf]; omega
    · obtain rfl : k = 8 := by omega
      go_wp2
      go_ret
      exact ⟨rfl, (Kept.refl [] w).alloc _⟩
/-- The first key from k on, at most n further, that a table has; else k + n. -/
def nextP (f : Nat → Option Addr) : Nat → Nat → Nat
  | 0, k => k
  | n + 1, k => if (f k).isSome then k else nextP f n (k + 1)
def keyAns (f : Nat → Option Addr) (k0 : Nat) : Value := if nextP f (8 - k0) k0 < 8 then .tuple #[.int .i64 (nextP f (8 - k0) k0), .bool true] else .tuple #[.int .i64 0, .bool false]
set_option maxRecDepth 100000 in
set_option maxHeartbeats 800000 in
theorem g_keyFrom (f : Nat → Option Addr) (k0 : Nat) (h0 : k0 ≤ 8) (w : World) : Calls Tryz.prog 113 #[.agg (ptrs f), .int .i64 k0] w fun e w' =>
    e = .returned (keyAns f k0) ∧ Kept [] w w' := by
  have hb := block_alloc_new w (.cells (ptrs f) 99)
  have hc : ∀ k, k < 8 → (w.alloc (.cells (ptrs f) 99)).cell? ⟨w.heap.size, k, none⟩ = some (.pointer (f k)) := fun k hk => by rw [cell_of hb]; exact ptrs_at f hk
  have HC : Hid _ := hc
  clear hb hc
  simp only [ptrs] at HC
  simp only [ptrs]
  go_enter Tryz.func113, Tryz.ntmps113
  go_wp2
  go_loop [6] (fun i => ∃ k : Nat, k ≤ 8 ∧ i = .int .i64 k ∧ nextP f (8 - k) k = nextP f (8 - k0) k0) (fun i => 8 - (intOf i).toNat)
  case atStart => exact ⟨k0, h0, rfl, rfl⟩
  case round =>
    obtain ⟨k, hk, rfl, hnx⟩ := hrel
    by_cases hlt : k < 8
    · have hck := HC.out k hlt
      have hkt : ((k : Int)).toNat = k := by simp
      have h8 : 8 - k = (8 - (k + 1)) + 1 := by omega
      have HNX : Hid _ := hnx
      clear hnx
      cases hfk : f k with
      | none =>
        simp only [hfk] at hck
        have HF : Hid _ := hfk
        clear hfk
        go_wp2
        go_round
        case rel => exact ⟨k + 1, by omega, by go_num, by rw [← HNX.out, h8]; simp [nextP, HF.out]⟩
        case measure => simp [intOf]; omega
      | some a =>
        simp only [hfk] at hck
        have HF : Hid _ := hfk
        clear hfk
        go_wp2
        have e : nextP f (8 - k0) k0 = k := by rw [← HNX.out, h8]; simp [nextP, HF.out]
        simp only [keyAns, e, if_pos hlt]
        exact bodyPost_ret (v := .tuple #[.int .i64 k, .bool true]) (by simp [results, Tryz.results113, go_sem]) rfl ⟨rfl, (Kept.refl [] w).alloc _⟩
    · obtain rfl : k = 8 := by omega
      have HNX : Hid _ := hnx
      clear hnx
      go_wp2
      have e : nextP f (8 - k0) k0 = 8 := by rw [← HNX.out]; rfl
      simp only [keyAns, e, Nat.lt_irrefl, if_false]
      exact bodyPost_ret (v := .tuple #[.int .i64 0, .bool false]) (by simp [results, Tryz.results113, go_sem]) rfl ⟨rfl, (Kept.refl [] w).alloc _⟩
/-- What a step answers, laid into its box. -/
theorem resLaidP {w : World} {g : Nat} (hg : w.heap[g]? = some (.cells #[.bool false, .bool false, .int .i64 0] 52 (0, 0))) (d f : Bool) (v : Int) :
    (((w.setCell ⟨g, 0, none⟩ (.bool d)).setCell ⟨g, 1, none⟩ (.bool f)).setCell ⟨g, 2, none⟩ (.int .i64 v)).heap[g]? = some (.cells #[.bool d, .bool f, .int .i64 v] 52 (0, 0)) :=
  (block_set_same (block_set_same (block_set_same hg _ _) _ _) _ _).trans (by simp)
theorem blk_res {w : World} {b g : Nat} {o : Obj} (h : w.heap[b]? = some o) (hne : b ≠ g) (v0 v1 v2 : Value) : (((w.setCell ⟨g, 0, none⟩ v0).setCell ⟨g, 1, none⟩ v1).setCell ⟨g, 2, none⟩ v2).heap[b]? = some o :=
  block_set_ne (block_set_ne (block_set_ne h hne _ _) hne _ _) hne _ _
theorem Kept.res {F : List Nat} {w0 w : World} (h : Kept F w0 w) {g : Nat} (hg : w0.heap.size ≤ g) (v0 v1 v2 : Value) : Kept F w0 (((w.setCell ⟨g, 0, none⟩ v0).setCell ⟨g, 1, none⟩ v1).setCell ⟨g, 2, none⟩ v2) :=
  ((h.setCell (.inr hg) _).setCell (.inr hg) _).setCell (.inr hg) _
set_option maxRecDepth 100000 in
set_option maxHeartbeats 800000 in
theorem g_doneNothing (tc : Tc) (t : Nat) (w : World) (h : w.heap[t]? = some (.cells tc.cells 116 (0, 0))) :
    Calls Tryz.prog 81 #[.pointer (some ⟨t, 0, none⟩)] w fun e w' => e = .returned (ans true false 0 0) ∧ w'.heap[t]? = some (.cells tc.idle.cells 116 (0, 0)) ∧ Kept [t] w w' := by
  have hs := lt_of_block h
  go_enter Tryz.func81, Tryz.ntmps81
  go_wp2_with fail
  refine (g_done tc t true false 0 _ (block_alloc_lt h _)).mono ?_
  rintro e w1 ⟨rfl, h1, k1⟩
  have hr : w1.heap[w.heap.size]? = some (.cells #[.bool false, .bool false, .int .i64 0] 52 (0, 0)) := k1.at (block_alloc_new _ _) (by simp; omega)
  have hc : ∀ o, w1.cell? ⟨w.heap.size, o, none⟩ = #[.bool false, .bool false, .int .i64 0][o]? := cell_of hr
  have hf : ∀ o, w1.frozen? ⟨w.heap.size, o, none⟩ = false := frozen_of hr
  simp only [ans]
  go_wp2
  refine bodyPost_ret (v := ans true false 0 0) (by simp [results, Tryz.results81, go_sem, ans, cell_of (resLaidP hr true false 0)]) rfl ⟨rfl, blk_res h1 (by omega) _ _ _, ?_⟩
  exact (((Kept.refl _ w).alloc _).drop k1 (by simp)).res (Nat.le_refl _) _ _ _
set_option maxRecDepth 100000 in
set_option maxHeartbeats 800000 in
theorem g_doneWith (tc : Tc) (t : Nat) (v : Int) (w : World) (h : w.heap[t]? = some (.cells tc.cells 116 (0, 0))) :
    Calls Tryz.prog 85 #[.pointer (some ⟨t, 0, none⟩), .int .i64 v] w fun e w' => e = .returned (ans true true v 0) ∧ w'.heap[t]? = some (.cells tc.idle.cells 116 (0, 0)) ∧ Kept [t] w w' := by
  have hs := lt_of_block h
  go_enter Tryz.func85, Tryz.ntmps85
  go_wp2_with fail
  refine (g_done tc t true true v _ (block_alloc_lt h _)).mono ?_
  rintro e w1 ⟨rfl, h1, k1⟩
  have hr : w1.heap[w.heap.size]? = some (.cells #[.bool false, .bool false, .int .i64 0] 52 (0, 0)) := k1.at (block_alloc_new _ _) (by simp; omega)
  have hc : ∀ o, w1.cell? ⟨w.heap.size, o, none⟩ = #[.bool false, .bool false, .int .i64 0][o]? := cell_of hr
  have hf : ∀ o, w1.frozen? ⟨w.heap.size, o, none⟩ = false := frozen_of hr
  simp only [ans]
  go_wp2
  refine bodyPost_ret (v := ans true true v 0) (by simp [results, Tryz.results85, go_sem, ans, cell_of (resLaidP hr true true v)]) rfl ⟨rfl, blk_res h1 (by omega) _ _ _, ?_⟩
  exact (((Kept.refl _ w).alloc _).drop k1 (by simp)).res (Nat.le_refl _) _ _ _
set_option maxRecDepth 100000 in
set_option maxHeartbeats 800000 in
theorem g_freeLock (tc : Tc) (sh : Sh) (t : Nat) (w : World) (h : w.heap[t]? = some (.cells tc.cells 116 (0, 0))) (hS : w.heap[tc.s]? = some (.cells sh.cells 111 (0, 0))) :
    Calls Tryz.prog 98 #[.pointer (some ⟨t, 0, none⟩)] w fun e w' => e = .returned (.tuple #[]) ∧ w'.heap[tc.s]? = some (.cells { sh with hol := -1 }.cells 111 (0, 0)) ∧ Kept [tc.s] w w' := by
  have hc : ∀ o, w.cell? ⟨t, o, none⟩ = tc.cells[o]? := cell_of h
  simp only [Tc.cells] at hc
  go_enter Tryz.func98, Tryz.ntmps98
  go_wp2_with fail
  refine (g_setInt tc.s 19 sh.hol (-1) _ (cell_of hS 19) (frozen_of hS 19)).mono ?_
  rintro e w1 ⟨rfl, rfl⟩
  go_wp2
  go_end0
  exact ⟨rfl, (block_set_same hS _ _).trans (by simp [Sh.cells]), (Kept.refl _ w).setCell (.inl (by simp)) _⟩
end Go.Proofs.YtfgfpggjcfhccaaGreat
