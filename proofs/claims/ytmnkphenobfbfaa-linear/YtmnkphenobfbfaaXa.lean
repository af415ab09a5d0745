import Derived.Test.YtmnkphenobfbfaaGa
import Derived.Laws.StructEq
import Derived.Deep.RegionHeld3
namespace Go.Proofs.Ytmnkphenobfbfaa
/-! Which of the program's methods is the step. -/
def firstAt (kind : Int) : Nat := if kind = 2 then 70 else if kind = 3 then 71 else 72
def behindAt (kind : Int) (e : Option Addr) : Nat := if kind = 2 then 97 else if kind = 3 ∧ e = none then 83 else 98
def fnOf (kind at_ : Int) : Nat :=
  if kind = 1 then
    if at_ = 1 then 50 else if at_ = 2 then 63 else if at_ = 3 then 69 else if at_ = 4 then 62 else if at_ = 5 then 68 else if at_ = 6 then 77 else if at_ = 7 then 88 else if at_ = 8 then 76 else if at_ = 9 then 87 else if at_ = 10 then 101 else if at_ = 11 then 100 else if at_ = 12 then 86 else if at_ = 13 then 85 else 92
  else if at_ = 1 then 51 else if at_ = 2 then 66 else if at_ = 3 then 74 else if at_ = 4 then 84
  else if at_ = 51 ∨ at_ = 61 then 103 else if at_ = 52 ∨ at_ = 62 then 105 else if at_ = 53 ∨ at_ = 63 then 106
  else if kind = 0 then if at_ = 5 then 98 else if at_ = 6 then 83 else 72
  else if at_ = 6 then 98 else if at_ = 7 then 83
  else if kind = 2 then if at_ = 5 then 97 else if at_ = 8 then 70 else 81
  else if at_ = 8 then 71 else 82
end Go.Proofs.Ytmnkphenobfbfaa
namespace Go.Proofs.Ytmnkphenobfbfaa
open Go.RowKit
def tabCells (f : Nat → Option Addr) (b : Bool) : Array Value :=
  #[.pointer (f 0), .pointer (f 1), .pointer (f 2), .pointer (f 3), .pointer (f 4), .pointer (f 5), .pointer (f 6), .pointer (f 7), .bool b]
set_option maxRecDepth 100000 in
set_option maxHeartbeats 800000 in
theorem g_lookRead (sh : Sh) (s : Nat) (w : World) (h : w.heap[s]? = some (.cells sh.cells 97 (0, 0))) :
    Calls Try.prog 38 #[.pointer (some ⟨s, 0, none⟩)] w fun e w' => e = .returned (.agg (tabCells sh.R sh.am)) ∧ w' = w.alloc (.cells (tabCells sh.R sh.am) 87) := by
  have hs := lt_of_block h
  have hc : ∀ o, w.cell? ⟨s, o, none⟩ = sh.cells[o]? := cell_of h
  simp only [Sh.cells] at hc
  simp only [tabCells]
  go_enter Try.func38, Try.ntmps38
  go_wp2
  exact bodyPost_ret (v := .agg (tabCells sh.R sh.am)) (by simp [results, Try.results38, go_sem, tabCells]) rfl ⟨rfl, rfl⟩
set_option maxRecDepth 100000 in
set_option maxHeartbeats 800000 in
theorem g_lookDirty (sh : Sh) (s : Nat) (w : World) (h : w.heap[s]? = some (.cells sh.cells 97 (0, 0))) :
    Calls Try.prog 39 #[.pointer (some ⟨s, 9, none⟩)] w fun e w' => e = .returned (.agg (tabCells sh.D sh.hd)) ∧ w' = w.alloc (.cells (tabCells sh.D sh.hd) 91) := by
  have hs := lt_of_block h
  have hc : ∀ o, w.cell? ⟨s, o, none⟩ = sh.cells[o]? := cell_of h
  simp only [Sh.cells] at hc
  simp only [tabCells]
  go_enter Try.func39, Try.ntmps39
  go_wp2
  exact bodyPost_ret (v := .agg (tabCells sh.D sh.hd)) (by simp [results, Try.results39, go_sem, tabCells]) rfl ⟨rfl, rfl⟩
set_option maxHeartbeats 800000 in
theorem g_lookInt (s o : Nat) (x : Int) (w : World) (hc : w.cell? ⟨s, o, none⟩ = some (.int .i64 x)) :
    Calls Try.prog 41 #[.pointer (some ⟨s, o, none⟩)] w fun e w' => e = .returned (.int .i64 x) ∧ w' = w := by
  go_enter Try.func41, Try.ntmps41
  go_wp2
  go_ret
  exact ⟨rfl, rfl⟩
set_option maxHeartbeats 800000 in
theorem g_setInt (s o : Nat) (x y : Int) (w : World) (hc : w.cell? ⟨s, o, none⟩ = some (.int .i64 x)) (hf : w.frozen? ⟨s, o, none⟩ = false) :
    Calls Try.prog 33 #[.pointer (some ⟨s, o, none⟩), .int .i64 y] w fun e w' => e = .returned (.tuple #[]) ∧ w' = w.setCell ⟨s, o, none⟩ (.int .i64 y) := by
  go_enter Try.func33, Try.ntmps33
  go_wp2
  go_end0
  exact ⟨rfl, rfl⟩
set_option maxHeartbeats 800000 in
theorem g_setIfInt_no (s o : Nat) (x a b : Int) (w : World) (hc : w.cell? ⟨s, o, none⟩ = some (.int .i64 x)) (hne : ¬ x = a) :
    Calls Try.prog 75 #[.pointer (some ⟨s, o, none⟩), .int .i64 a, .int .i64 b] w fun e w' => e = .returned (.bool false) ∧ w' = w := by
  go_enter Try.func75, Try.ntmps75
  go_wp2
  go_ret
  exact ⟨rfl, rfl⟩
set_option maxHeartbeats 800000 in
theorem g_setIfInt_yes (s o : Nat) (a b : Int) (w : World) (hc : w.cell? ⟨s, o, none⟩ = some (.int .i64 a)) (hf : w.frozen? ⟨s, o, none⟩ = false) :
    Calls Try.prog 75 #[.pointer (some ⟨s, o, none⟩), .int .i64 a, .int .i64 b] w fun e w' => e = .returned (.bool true) ∧ w' = w.setCell ⟨s, o, none⟩ (.int .i64 b) := by
  go_enter Try.func75, Try.ntmps75
  go_wp2
  go_ret
  exact ⟨rfl, rfl⟩
set_option maxHeartbeats 800000 in
theorem g_lookC (g : Nat) (x y : Int) (w : World) (h : w.heap[g]? = some (.cells #[.int .i64 x, .int .i64 y] 124 (0, 0))) :
    Calls Try.prog 53 #[.pointer (some ⟨g, 0, none⟩)] w fun e w' => e = .returned (.agg #[.int .i64 x, .int .i64 y]) ∧ w' = w.alloc (.cells #[.int .i64 x, .int .i64 y] 100) := by
  have hs := lt_of_block h
  have hc : ∀ o, w.cell? ⟨g, o, none⟩ = #[Value.int .i64 x, .int .i64 y][o]? := cell_of h
  go_enter Try.func53, Try.ntmps53
  go_wp2
  exact bodyPost_ret (v := .agg #[.int .i64 x, .int .i64 y]) (by simp [results, Try.results53, go_sem]) rfl ⟨rfl, rfl⟩
set_option maxHeartbeats 800000 in
theorem g_setC (g : Nat) (x y a b : Int) (w : World) (h : w.heap[g]? = some (.cells #[.int .i64 x, .int .i64 y] 124 (0, 0))) :
    Calls Try.prog 91 #[.pointer (some ⟨g, 0, none⟩), .agg #[.int .i64 a, .int .i64 b]] w fun e w' => e = .returned (.tuple #[]) ∧ w'.heap[g]? = some (.cells #[.int .i64 a, .int .i64 b] 124 (0, 0)) ∧ Kept [g] w w' := by
  have hs := lt_of_block h
  have hc : ∀ o, w.cell? ⟨g, o, none⟩ = #[Value.int .i64 x, .int .i64 y][o]? := cell_of h
  have hf : ∀ o, w.frozen? ⟨g, o, none⟩ = false := frozen_of h
  go_enter Try.func91, Try.ntmps91
  go_wp2
  go_end0
  refine ⟨rfl, block_alloc_lt ((block_set_same (block_set_same h _ _) _ _).trans (by simp)) _, Kept.alloc ?_ _⟩
  repeat (refine Kept.setCell ?_ (.inl (by simp)) _)
  exact Kept.refl _ _
set_option maxHeartbeats 800000 in
theorem g_having (v : Int) (w : World) :
    Calls Try.prog 79 #[.int .i64 v] w fun e w' => e = .returned (.agg #[.int .i64 0, .int .i64 v]) ∧ w' = w.alloc (.cells #[.int .i64 0, .int .i64 v] 100) := by
  go_enter Try.func79, Try.ntmps79
  go_wp2
  exact bodyPost_ret (v := .agg #[.int .i64 0, .int .i64 v]) (by simp [results, Try.results79, go_sem]) rfl ⟨rfl, rfl⟩
set_option maxRecDepth 100000 in
set_option maxHeartbeats 800000 in
theorem g_setDirty (sh : Sh) (s : Nat) (f : Nat → Option Addr) (b : Bool) (w : World) (h : w.heap[s]? = some (.cells sh.cells 97 (0, 0))) :
    Calls Try.prog 95 #[.pointer (some ⟨s, 9, none⟩), .agg (tabCells f b)] w fun e w' => e = .returned (.tuple #[]) ∧ w'.heap[s]? = some (.cells { sh with D := f, hd := b }.cells 97 (0, 0)) ∧ Kept [s] w w' := by
  have hs := lt_of_block h
  have hc : ∀ o, w.cell? ⟨s, o, none⟩ = sh.cells[o]? := cell_of h
  have hf : ∀ o, w.frozen? ⟨s, o, none⟩ = false := frozen_of h
  simp only [Sh.cells] at hc
  simp only [tabCells]
  go_enter Try.func95, Try.ntmps95
  go_wp2
  go_end0
  refine ⟨rfl, block_alloc_lt ((block_set_same (block_set_same (block_set_same (block_set_same (block_set_same (block_set_same (block_set_same (block_set_same (block_set_same h _ _) _ _) _ _) _ _) _ _) _ _) _ _) _ _) _ _).trans (by simp [Sh.cells])) _, Kept.alloc ?_ _⟩
  repeat (refine Kept.setCell ?_ (.inl (by simp)) _)
  exact Kept.refl _ _
set_option maxRecDepth 100000 in
set_option maxHeartbeats 800000 in
theorem g_setRead (sh : Sh) (s : Nat) (f : Nat → Option Addr) (b : Bool) (w : World) (h : w.heap[s]? = some (.cells sh.cells 97 (0, 0))) :
    Calls Try.prog 104 #[.pointer (some ⟨s, 0, none⟩), .agg (tabCells f b)] w fun e w' => e = .returned (.tuple #[]) ∧ w'.heap[s]? = some (.cells { sh with R := f, am := b }.cells 97 (0, 0)) ∧ Kept [s] w w' := by
  have hs := lt_of_block h
  have hc : ∀ o, w.cell? ⟨s, o, none⟩ = sh.cells[o]? := cell_of h
  have hf : ∀ o, w.frozen? ⟨s, o, none⟩ = false := frozen_of h
  simp only [Sh.cells] at hc
  simp only [tabCells]
  go_enter Try.func104, Try.ntmps104
  go_wp2
  go_end0
  refine ⟨rfl, block_alloc_lt ((block_set_same (block_set_same (block_set_same (block_set_same (block_set_same (block_set_same (block_set_same (block_set_same (block_set_same h _ _) _ _) _ _) _ _) _ _) _ _) _ _) _ _) _ _).trans (by simp [Sh.cells])) _, Kept.alloc ?_ _⟩
  repeat (refine Kept.setCell ?_ (.inl (by simp)) _)
  exact Kept.refl _ _
set_option maxRecDepth 100000 in
set_option maxHeartbeats 800000 in
theorem g_goOn (tc : Tc) (t : Nat) (fn : Fn) (a b : Array Value) (w : World) (h : w.heap[t]? = some (.cells tc.cells 103 (0, 0))) :
    Calls Try.prog 61 #[.pointer (some ⟨t, 0, none⟩), .func fn a b] w fun e w' => e = .returned (ans false false 0 0) ∧ w'.heap[t]? = some (.cells { tc with nx := .func fn a b }.cells 103 (0, 0)) ∧ Kept [t] w w' := by
  have hs := lt_of_block h
  have hf : ∀ o, w.frozen? ⟨t, o, none⟩ = false := frozen_of h
  have hc : ∀ o, w.cell? ⟨t, o, none⟩ = tc.cells[o]? := cell_of h
  simp only [Tc.cells] at hc
  go_enter Try.func61, Try.ntmps61
  go_wp2
  refine bodyPost_ret (v := ans false false 0 0) (by simp [results, Try.results61, go_sem, ans]) rfl ⟨rfl, ?_, ?_⟩
  · exact block_alloc_lt ((block_set_same h _ _).trans (by simp [Tc.cells])) _
  · exact ((Kept.refl _ w).setCell (.inl (by simp)) _).alloc _
end Go.Proofs.Ytmnkphenobfbfaa
namespace Go.Proofs.Ytmnkphenobfbfaa
open Go.RowKit
theorem u113 : Try.prog.underlying 100 = some (.struct (Try.prog.fieldsOf 100)) := by
  rw [Program.fieldsOf, Try.underlying100]
theorem s113 : Try.prog.stoodInHeld 100 = false := by kernel_rfl
theorem g113 : Try.prog.eqGuardType Try.prog.depth 100 = false := by kernel_rfl
theorem neq113 (a b c e : Int) (w : World) : (binOp .neq 100 (.agg #[.int .i64 a, .int .i64 b]) (.agg #[.int .i64 c, .int .i64 e])).run Try.prog w = .ok (.bool (!(a == c && b == e))) w := by
  rw [run_neq_struct, run_equalIn_struct w 9999 100 _ _ u113 s113, Program.fieldsOf, Try.underlying100]
  by_cases h1 : a = c <;> by_cases h2 : b = e <;> simp [go_sem, h1, h2]
theorem neq113No {a b c e : Int} (h : ¬ (a = c ∧ b = e)) (w : World) : (binOp .neq 100 (.agg #[.int .i64 a, .int .i64 b]) (.agg #[.int .i64 c, .int .i64 e])).run Try.prog w = .ok (.bool true) w := by
  rw [neq113]
  have : (a == c && b == e) = false := by
    rw [Bool.eq_false_iff]
    intro hh
    simp only [Bool.and_eq_true, beq_iff_eq] at hh
    exact h hh
  rw [this]; rfl
theorem neq113Yes {a b c e : Int} (h1 : a = c) (h2 : b = e) (w : World) : (binOp .neq 100 (.agg #[.int .i64 a, .int .i64 b]) (.agg #[.int .i64 c, .int .i64 e])).run Try.prog w = .ok (.bool false) w := by
  rw [neq113, h1, h2]
  simp
set_option maxRecDepth 100000 in
set_option maxHeartbeats 800000 in
theorem g_setIfC_no (g : Nat) (x y a b c e : Int) (w : World) (h : w.heap[g]? = some (.cells #[.int .i64 x, .int .i64 y] 124 (0, 0))) (hne : ¬ (x = a ∧ y = b)) :
    Calls Try.prog 78 #[.pointer (some ⟨g, 0, none⟩), .agg #[.int .i64 a, .int .i64 b], .agg #[.int .i64 c, .int .i64 e]] w fun r w' => r = .returned (.bool false) ∧ Kept [] w w' := by
  have hs := lt_of_block h
  have hc : ∀ o, w.cell? ⟨g, o, none⟩ = #[Value.int .i64 x, .int .i64 y][o]? := cell_of h
  have hq := neq113No hne
  have hg := g113
  go_enter Try.func78, Try.ntmps78
  go_wp2_with fail
  go_quiet (fail)
  go_wp2
  go_ret
  exact ⟨rfl, Kept.drewN (((Kept.refl [] w).alloc _).alloc _) _⟩
set_option maxRecDepth 100000 in
set_option maxHeartbeats 800000 in
theorem g_setIfC_yes (g : Nat) (a b c e : Int) (w : World) (h : w.heap[g]? = some (.cells #[.int .i64 a, .int .i64 b] 124 (0, 0))) :
    Calls Try.prog 78 #[.pointer (some ⟨g, 0, none⟩), .agg #[.int .i64 a, .int .i64 b], .agg #[.int .i64 c, .int .i64 e]] w fun r w' => r = .returned (.bool true) ∧ w'.heap[g]? = some (.cells #[.int .i64 c, .int .i64 e] 124 (0, 0)) ∧ Kept [g] w w' := by
  have hs := lt_of_block h
  have hc : ∀ o, w.cell? ⟨g, o, none⟩ = #[Value.int .i64 a, .int .i64 b][o]? := cell_of h
  have hf : ∀ o, w.frozen? ⟨g, o, none⟩ = false := frozen_of h
  have hq := neq113Yes (a := a) (b := b) rfl rfl
  have hg := g113
  go_enter Try.func78, Try.ntmps78
  go_wp2_with fail
  go_quiet (fail)
  go_wp2
  go_ret
  refine ⟨rfl, (block_set_same (block_set_same (blk_drewN (block_alloc_lt (block_alloc_lt h _) _) _) _ _) _ _).trans (by simp), ?_⟩
  exact (((((Kept.refl _ w).alloc _).alloc _).drewN _).setCell (.inl (by simp)) _).setCell (.inl (by simp)) _
/-- How many of a table's first n keys it has. -/
def cntP (f : Nat → Option Addr) : Nat → Nat
  | 0 => 0
  | n + 1 => cntP f n + if (f n).isSome then 1 else 0
theorem cntP_le (f : Nat → Option Addr) (n : Nat) : cntP f n ≤ n := by
  induction n with
  | zero => simp [cntP]
  | succ n ih => simp only [cntP]; split <;> omega
def ptrs (f : Nat → Option Addr) : Array Value := #[.pointer (f 0), .pointer (f 1), .pointer (f 2), .pointer (f 3), .pointer (f 4), .pointer (f 5), .pointer (f 6), .pointer (f 7)]
theorem ptrs_at (f : Nat → Option Addr) {k : Nat} (hk : k < 8) : (ptrs f)[k]? = some (.pointer (f k)) := by
  match k, hk with
  | 0, _ | 1, _ | 2, _ | 3, _ | 4, _ | 5, _ | 6, _ | 7, _ => rfl
theorem idx_p0 (f : Nat → Option Addr) (w : World) : Sem.run Try.prog (Instr.index 85 (Value.agg #[Value.pointer (f 0), .pointer (f 1), .pointer (f 2), .pointer (f 3), .pointer (f 4), .pointer (f 5), .pointer (f 6), .pointer (f 7)]) (Value.int IntKind.i64 (((0 : Nat) : Int)))) w = .ok (.pointer (f 0)) w := by kernel_rfl
theorem idx_p1 (f : Nat → Option Addr) (w : World) : Sem.run Try.prog (Instr.index 85 (Value.agg #[Value.pointer (f 0), .pointer (f 1), .pointer (f 2), .pointer (f 3), .pointer (f 4), .pointer (f 5), .pointer (f 6), .pointer (f 7)]) (Value.int IntKind.i64 (((1 : Nat) : Int)))) w = .ok (.pointer (f 1)) w := by kernel_rfl
theorem idx_p2 (f : Nat → Option Addr) (w : World) : Sem.run Try.prog (Instr.index 85 (Value.agg #[Value.pointer (f 0), .pointer (f 1), .pointer (f 2), .pointer (f 3), .pointer (f 4), .pointer (f 5), .pointer (f 6), .pointer (f 7)]) (Value.int IntKind.i64 (((2 : Nat) : Int)))) w = .ok (.pointer (f 2)) w := by kernel_rfl
theorem idx_p3 (f : Nat → Option Addr) (w : World) : Sem.run Try.prog (Instr.index 85 (Value.agg #[Value.pointer (f 0), .pointer (f 1), .pointer (f 2), .pointer (f 3), .pointer (f 4), .pointer (f 5), .pointer (f 6), .pointer (f 7)]) (Value.int IntKind.i64 (((3 : Nat) : Int)))) w = .ok (.pointer (f 3)) w := by kernel_rfl
theorem idx_p4 (f : Nat → Option Addr) (w : World) : Sem.run Try.prog (Instr.index 85 (Value.agg #[Value.pointer (f 0), .pointer (f 1), .pointer (f 2), .pointer (f 3), .pointer (f 4), .pointer (f 5), .pointer (f 6), .pointer (f 7)]) (Value.int IntKind.i64 (((4 : Nat) : Int)))) w = .ok (.pointer (f 4)) w := by kernel_rfl
theorem idx_p5 (f : Nat → Option Addr) (w : World) : Sem.run Try.prog (Instr.index 85 (Value.agg #[Value.pointer (f 0), .pointer (f 1), .pointer (f 2), .pointer (f 3), .pointer (f 4), .pointer (f 5), .pointer (f 6), .pointer (f 7)]) (Value.int IntKind.i64 (((5 : Nat) : Int)))) w = .ok (.pointer (f 5)) w := by kernel_rfl
theorem idx_p6 (f : Nat → Option Addr) (w : World) : Sem.run Try.prog (Instr.index 85 (Value.agg #[Value.pointer (f 0), .pointer (f 1), .pointer (f 2), .pointer (f 3), .pointer (f 4), .pointer (f 5), .pointer (f 6), .pointer (f 7)]) (Value.int IntKind.i64 (((6 : Nat) : Int)))) w = .ok (.pointer (f 6)) w := by kernel_rfl
theorem idx_p7 (f : Nat → Option Addr) (w : World) : Sem.run Try.prog (Instr.index 85 (Value.agg #[Value.pointer (f 0), .pointer (f 1), .pointer (f 2), .pointer (f 3), .pointer (f 4), .pointer (f 5), .pointer (f 6), .pointer (f 7)]) (Value.int IntKind.i64 (((7 : Nat) : Int)))) w = .ok (.pointer (f 7)) w := by kernel_rfl
theorem idx_p (f : Nat → Option Addr) (k : Nat) (hk : k < 8) (w : World) : Sem.run Try.prog (Instr.index 85 (Value.agg #[Value.pointer (f 0), .pointer (f 1), .pointer (f 2), .pointer (f 3), .pointer (f 4), .pointer (f 5), .pointer (f 6), .pointer (f 7)]) (Value.int IntKind.i64 k)) w = .ok (.pointer (f k)) w := by
  have h : k = 0 ∨ k = 1 ∨ k = 2 ∨ k = 3 ∨ k = 4 ∨ k = 5 ∨ k = 6 ∨ k = 7 := by omega
  rcases h with rfl | rfl | rfl | rfl | rfl | rfl | rfl | rfl
  · exact idx_p0 f w
  · exact idx_p1 f w
  · exact idx_p2 f w
  · exact idx_p3 f w
  · exact idx_p4 f w
  · exact idx_p5 f w
  · exact idx_p6 f w
  · exact idx_p7 f w
set_option maxRecDepth 100000 in
set_option maxHeartbeats 800000 in
theorem g_count (f : Nat → Option Addr) (w : World) : Calls Try.prog 52 #[.agg (ptrs f)] w fun e w' => e = .returned (.int .i64 (cntP f 8)) ∧ Kept [] w w' := by
  simp only [ptrs]
  go_enter Try.func52, Try.ntmps52
  go_wp2
  go_loop [3, 7] (fun n i => ∃ k : Nat, k ≤ 8 ∧ i = .int .i64 k ∧ n = .int .i64 (cntP f k)) (fun _ i => 8 - (intOf i).toNat)
  case atStart => exact ⟨0, by omega, rfl, rfl⟩
  case round =>
    obtain ⟨k, hk, rfl, rfl⟩ := hrel
    by_cases hlt : k < 8
    · have hn := idx_p f k hlt
      have hle := cntP_le f k
      cases hfk : f k with
      | none =>
        simp only [hfk] at hn
        have HF : Hid _ := hfk
        clear hfk
        go_wp2
        go_round
        case rel => exact ⟨k + 1, by omega, by go_num, by simp [cntP, HF.out]⟩
        case measure => simp [intOf]; omega
      | some a =>
        simp only [hfk] at hn
        have HF : Hid _ := hfk
        clear hfk
        go_wp2
        go_round
        case rel => exact ⟨k + 1, by omega, by go_num, by simp only [cntP, HF.out, Option.isSome, if_true]; go_num⟩
        case measure => simp [intOf]; omega
    · obtain rfl : k = 8 := by omega
      go_wp2
      go_ret
      exact ⟨rfl, (Kept.refl [] w).alloc _⟩
/-- The first key from k on, at most n further, that a table has; else k + n. -/
def nextP (f : Nat → Option Addr) : Nat → Nat → Nat
  | 0, k => k
  | n + 1, k => if (f k).isSome then k else nextP f n (k + 1)
def keyAns (f : Nat → Option Addr) (k0 : Nat) : Value := if nextP f (8 - k0) k0 < 8 then .tuple #[.int .i64 (nextP f (8 - k0) k0), .bool true] else .tuple #[.int .i64 0, .bool false]
set_option maxRecDepth 100000 in
set_option maxHeartbeats 800000 in
theorem g_keyFrom (f : Nat → Option Addr) (k0 : Nat) (h0 : k0 ≤ 8) (w : World) : Calls Try.prog 99 #[.agg (ptrs f), .int .i64 k0] w fun e w' =>
    e = .returned (keyAns f k0) ∧ Kept [] w w' := by
  have hb := block_alloc_new w (.cells (ptrs f) 85)
  have hc : ∀ k, k < 8 → (w.alloc (.cells (ptrs f) 85)).cell? ⟨w.heap.size, k, none⟩ = some (.pointer (f k)) := fun k hk => by rw [cell_of hb]; exact ptrs_at f hk
  have HC : Hid _ := hc
  clear hb hc
  simp only [ptrs] at HC
  simp only [ptrs]
  go_enter Try.func99, Try.ntmps99
  go_wp2
  go_loop [6] (fun i => ∃ k : Nat, k ≤ 8 ∧ i = .int .i64 k ∧ nextP f (8 - k) k = nextP f (8 - k0) k0) (fun i => 8 - (intOf i).toNat)
  case atStart => exact ⟨k0, h0, rfl, rfl⟩
  case round =>
    obtain ⟨k, hk, rfl, hnx⟩ := hrel
    by_cases hlt : k < 8
    · have hck := HC.out k hlt
      have hkt : ((k : Int)).toNat = k := by simp
      have h8 : 8 - k = (8 - (k + 1)) + 1 := by omega
      have HNX : Hid _ := hnx
      clear hnx
      cases hfk : f k with
      | none =>
        simp only [hfk] at hck
        have HF : Hid _ := hfk
        clear hfk
        go_wp2
        go_round
        case rel => exact ⟨k + 1, by omega, by go_num, by rw [← HNX.out, h8]; simp [nextP, HF.out]⟩
        case measure => simp [intOf]; omega
      | some a =>
        simp only [hfk] at hck
        have HF : Hid _ := hfk
        clear hfk
        go_wp2
        have e : nextP f (8 - k0) k0 = k := by rw [← HNX.out, h8]; simp [nextP, HF.out]
        simp only [keyAns, e, if_pos hlt]
        exact bodyPost_ret (v := .tuple #[.int .i64 k, .bool true]) (by simp [results, Try.results99, go_sem]) rfl ⟨rfl, (Kept.refl [] w).alloc _⟩
    · obtain rfl : k = 8 := by omega
      have HNX : Hid _ := hnx
      clear hnx
      go_wp2
      have e : nextP f (8 - k0) k0 = 8 := by rw [← HNX.out]; rfl
      simp only [keyAns, e, Nat.lt_irrefl, if_false]
      exact bodyPost_ret (v := .tuple #[.int .i64 0, .bool false]) (by simp [results, Try.results99, go_sem]) rfl ⟨rfl, (Kept.refl [] w).alloc _⟩
/-- What a step answers, laid into its box. -/
theorem resLaidP {w : World} {g : Nat} (hg : w.heap[g]? = some (.cells #[.bool false, .bool false, .int .i64 0] 30 (0, 0))) (d f : Bool) (v : Int) :
    (((w.setCell ⟨g, 0, none⟩ (.bool d)).setCell ⟨g, 1, none⟩ (.bool f)).setCell ⟨g, 2, none⟩ (.int .i64 v)).heap[g]? = some (.cells #[.bool d, .bool f, .int .i64 v] 30 (0, 0)) :=
  (block_set_same (block_set_same (block_set_same hg _ _) _ _) _ _).trans (by simp)
theorem blk_res {w : World} {b g : Nat} {o : Obj} (h : w.heap[b]? = some o) (hne : b ≠ g) (v0 v1 v2 : Value) : (((w.setCell ⟨g, 0, none⟩ v0).setCell ⟨g, 1, none⟩ v1).setCell ⟨g, 2, none⟩ v2).heap[b]? = some o :=
  block_set_ne (block_set_ne (block_set_ne h hne _ _) hne _ _) hne _ _
theorem Kept.res {F : List Nat} {w0 w : World} (h : Kept F w0 w) {g : Nat} (hg : w0.heap.size ≤ g) (v0 v1 v2 : Value) : Kept F w0 (((w.setCell ⟨g, 0, none⟩ v0).setCell ⟨g, 1, none⟩ v1).setCell ⟨g, 2, none⟩ v2) :=
  ((h.setCell (.inr hg) _).setCell (.inr hg) _).setCell (.inr hg) _
set_option maxRecDepth 100000 in
set_option maxHeartbeats 800000 in
theorem g_doneNothing (tc : Tc) (t : Nat) (w : World) (h : w.heap[t]? = some (.cells tc.cells 103 (0, 0))) :
    Calls Try.prog 65 #[.pointer (some ⟨t, 0, none⟩)] w fun e w' => e = .returned (ans true false 0 0) ∧ w'.heap[t]? = some (.cells tc.idle.cells 103 (0, 0)) ∧ Kept [t] w w' := by
  have hs := lt_of_block h
  go_enter Try.func65, Try.ntmps65
  go_wp2_with fail
  refine (g_done tc t true false 0 _ (block_alloc_lt h _)).mono ?_
  rintro e w1 ⟨rfl, h1, k1⟩
  have hr : w1.heap[w.heap.size]? = some (.cells #[.bool false, .bool false, .int .i64 0] 30 (0, 0)) := k1.at (block_alloc_new _ _) (by simp; omega)
  have hc : ∀ o, w1.cell? ⟨w.heap.size, o, none⟩ = #[.bool false, .bool false, .int .i64 0][o]? := cell_of hr
  have hf : ∀ o, w1.frozen? ⟨w.heap.size, o, none⟩ = false := frozen_of hr
  simp only [ans]
  go_wp2
  refine bodyPost_ret (v := ans true false 0 0) (by simp [results, Try.results65, go_sem, ans, cell_of (resLaidP hr true false 0)]) rfl ⟨rfl, blk_res h1 (by omega) _ _ _, ?_⟩
  exact (((Kept.refl _ w).alloc _).drop k1 (by simp)).res (Nat.le_refl _) _ _ _
set_option maxRecDepth 100000 in
set_option maxHeartbeats 800000 in
theorem g_doneWith (tc : Tc) (t : Nat) (v : Int) (w : World) (h : w.heap[t]? = some (.cells tc.cells 103 (0, 0))) :
    Calls Try.prog 80 #[.pointer (some ⟨t, 0, none⟩), .int .i64 v] w fun e w' => e = .returned (ans true true v 0) ∧ w'.heap[t]? = some (.cells tc.idle.cells 103 (0, 0)) ∧ Kept [t] w w' := by
  have hs := lt_of_block h
  go_enter Try.func80, Try.ntmps80
  go_wp2_with fail
  refine (g_done tc t true true v _ (block_alloc_lt h _)).mono ?_
  rintro e w1 ⟨rfl, h1, k1⟩
  have hr : w1.heap[w.heap.size]? = some (.cells #[.bool false, .bool false, .int .i64 0] 30 (0, 0)) := k1.at (block_alloc_new _ _) (by simp; omega)
  have hc : ∀ o, w1.cell? ⟨w.heap.size, o, none⟩ = #[.bool false, .bool false, .int .i64 0][o]? := cell_of hr
  have hf : ∀ o, w1.frozen? ⟨w.heap.size, o, none⟩ = false := frozen_of hr
  simp only [ans]
  go_wp2
  refine bodyPost_ret (v := ans true true v 0) (by simp [results, Try.results80, go_sem, ans, cell_of (resLaidP hr true true v)]) rfl ⟨rfl, blk_res h1 (by omega) _ _ _, ?_⟩
  exact (((Kept.refl _ w).alloc _).drop k1 (by simp)).res (Nat.le_refl _) _ _ _
set_option maxRecDepth 100000 in
set_option maxHeartbeats 800000 in
theorem g_freeLock (tc : Tc) (sh : Sh) (t : Nat) (w : World) (h : w.heap[t]? = some (.cells tc.cells 103 (0, 0))) (hS : w.heap[tc.s]? = some (.cells sh.cells 97 (0, 0))) :
    Calls Try.prog 89 #[.pointer (some ⟨t, 0, none⟩)] w fun e w' => e = .returned (.tuple #[]) ∧ w'.heap[tc.s]? = some (.cells { sh with hol := -1 }.cells 97 (0, 0)) ∧ Kept [tc.s] w w' := by
  have hc : ∀ o, w.cell? ⟨t, o, none⟩ = tc.cells[o]? := cell_of h
  simp only [Tc.cells] at hc
  go_enter Try.func89, Try.ntmps89
  go_wp2_with fail
  refine (g_setInt tc.s 19 sh.hol (-1) _ (cell_of hS 19) (frozen_of hS 19)).mono ?_
  rintro e w1 ⟨rfl, rfl⟩
  go_wp2
  go_end0
  exact ⟨rfl, (block_set_same hS _ _).trans (by simp [Sh.cells]), (Kept.refl _ w).setCell (.inl (by simp)) _⟩
end Go.Proofs.Ytmnkphenobfbfaa
namespace Go.Proofs.Ytmnkphenobfbfaa
open Go.RowKit
set_option maxRecDepth 100000 in
set_option maxHeartbeats 800000 in
theorem g_takeLock_no (tc : Tc) (sh : Sh) (t : Nat) (nx : Value) (w : World) (h : w.heap[t]? = some (.cells tc.cells 103 (0, 0))) (hS : w.heap[tc.s]? = some (.cells sh.cells 97 (0, 0))) (hl : ¬ sh.hol = -1) :
    Calls Try.prog 67 #[.pointer (some ⟨t, 0, none⟩), nx] w fun e w' => e = .returned (ans false false 0 4) ∧ Kept [] w w' := by
  have hs := lt_of_block h
  have hs2 := lt_of_block hS
  have hc : ∀ o, w.cell? ⟨t, o, none⟩ = tc.cells[o]? := cell_of h
  have hl2 : w.cell? ⟨tc.s, 19, none⟩ = some (.int .i64 sh.hol) := cell_of hS 19
  simp only [Tc.cells] at hc
  go_enter Try.func67, Try.ntmps67
  go_wp2_with fail
  go_quiet ((go_at_call 75; refine Calls.quiet_of_same (g_setIfInt_no tc.s 19 sh.hol (-1) tc.i _ (cell_of (block_alloc_lt hS _) 19) hl)))
  go_wp2
  refine bodyPost_ret (v := ans false false 0 4) (by simp [results, Try.results67, go_sem, ans]) rfl ⟨rfl, ?_⟩
  exact (((Kept.refl [] w).alloc _).drewN _).res (Nat.le_refl _) _ _ _
theorem newBox {w w1 : World} (h : w1.heap.size = w.heap.size) (x : Obj) : (w1.alloc x).heap[w.heap.size]? = some x := by
  rw [← h]; exact block_alloc_new w1 x
theorem size_setP (w : World) (a : Addr) (v : Value) : (w.setCell a v).heap.size = w.heap.size := by simp [World.setCell]
theorem Kept.setAt {F : List Nat} {a w : World} (h : Kept F a w) {b : Nat} (hb : b ∈ F ∨ a.heap.size ≤ b) (o : Nat) (u : Value) : Kept F a (w.setCell ⟨b, o, none⟩ u) := h.setCell hb u
theorem mem0 {a : Nat} {l : List Nat} : a ∈ a :: l := List.mem_cons_self
theorem mem1 {a b : Nat} {l : List Nat} : a ∈ b :: a :: l := List.mem_cons_of_mem _ List.mem_cons_self
theorem mem2 {a b c : Nat} {l : List Nat} : a ∈ b :: c :: a :: l := List.mem_cons_of_mem _ (List.mem_cons_of_mem _ List.mem_cons_self)
set_option maxRecDepth 100000 in
set_option maxHeartbeats 1600000 in
theorem g_takeLock_yes (tc : Tc) (sh : Sh) (t : Nat) (fn : Fn) (a b : Array Value) (w : World) (h : w.heap[t]? = some (.cells tc.cells 103 (0, 0))) (hS : w.heap[tc.s]? = some (.cells sh.cells 97 (0, 0))) (hl : sh.hol = -1) :
    Calls Try.prog 67 #[.pointer (some ⟨t, 0, none⟩), .func fn a b] w fun e w' => e = .returned (ans false false 0 0) ∧ w'.heap[t]? = some (.cells { tc with nx := .func fn a b }.cells 103 (0, 0)) ∧ w'.heap[tc.s]? = some (.cells { sh with hol := tc.i }.cells 97 (0, 0)) ∧ Kept [t, tc.s] w w' := by
  have hs := lt_of_block h
  have hs2 := lt_of_block hS
  have hne : t ≠ tc.s := ne_of_blocks h hS (by simp)
  have hne' : tc.s ≠ t := Ne.symm hne
  have hnt : t ≠ w.heap.size := Nat.ne_of_lt hs
  have hns : tc.s ≠ w.heap.size := Nat.ne_of_lt hs2
  have hnt' : w.heap.size ≠ t := Ne.symm hnt
  have hns' : w.heap.size ≠ tc.s := Ne.symm hns
  have hc : ∀ o, w.cell? ⟨t, o, none⟩ = tc.cells[o]? := cell_of h
  simp only [Tc.cells] at hc
  have hl2 : w.cell? ⟨tc.s, 19, none⟩ = some (.int .i64 sh.hol) := cell_of hS 19
  rw [hl] at hl2
  have hf2 : w.frozen? ⟨tc.s, 19, none⟩ = false := frozen_of hS 19
  have H : Hid _ := h
  have HS : Hid _ := hS
  clear h hS hl
  go_enter Try.func67, Try.ntmps67
  go_wp2_with fail
  go_region_held3 (fun w' => ∀ o, w'.cell? ⟨t, o, none⟩ = #[Value.int IntKind.i64 tc.i, .pointer (some ⟨tc.s, 0, none⟩), .int IntKind.i64 tc.kind, .int IntKind.i64 tc.key, .int IntKind.i64 tc.val, .int IntKind.i64 tc.old, .pointer tc.e, .int IntKind.i64 tc.sst, .int IntKind.i64 tc.sv, .int IntKind.i64 tc.cp, tc.nx][o]?) ((intro o; go_simp)) ((go_at_call 75; refine (g_setIfInt_yes tc.s 19 (-1) tc.i _ (by go_simp) (by go_simp)).mono ?_; rintro e w' ⟨rfl, rfl⟩))
  clear hc hl2 hf2
  go_wp2_with fail
  refine Calls.mono (g_goOn tc t fn a b _ (by repeat (first | with_reducible exact H.out | with_reducible refine blk_drew ?_ | with_reducible refine blk_drewN ?_ _ | with_reducible refine block_set_ne ?_ (by assumption) _ _ | with_reducible refine block_alloc_lt ?_ _))) ?_
  rintro e wz ⟨rfl, hz, kz⟩
  have rz : wz.heap[w.heap.size]? = some (.cells #[.bool false, .bool false, .int .i64 0] 30 (0, 0)) := kz.at (by repeat (first | with_reducible exact block_alloc_new _ _ | with_reducible refine blk_drew ?_ | with_reducible refine blk_drewN ?_ _ | with_reducible refine block_set_ne ?_ (by assumption) _ _ | with_reducible exact newBox (by with_reducible first | exact rfl | exact size_setP _ _ _ | exact (size_setP _ _ _).trans (size_setP _ _ _) | exact (size_setP _ _ _).trans ((size_setP _ _ _).trans (size_setP _ _ _))) _ | with_reducible refine block_alloc_lt ?_ _)) (by simp; omega)
  have sz0 : wz.heap[tc.s]? = some (.cells { sh with hol := tc.i }.cells 97 (0, 0)) := kz.at (blk_drew (block_alloc_lt ((block_set_same HS.out _ _).trans (by simp [Sh.cells])) _)) (by simp; omega)
  have KZ : Hid (Kept [t, tc.s] w wz) := Kept.drop (by repeat (first | with_reducible exact Kept.refl _ _ | with_reducible refine Kept.drew ?_ | with_reducible refine Kept.drewN ?_ _ | with_reducible refine Kept.alloc ?_ _ | with_reducible refine Kept.setAt ?_ (.inl mem0) _ _ | with_reducible refine Kept.setAt ?_ (.inl mem1) _ _ | with_reducible refine Kept.setAt ?_ (.inl mem2) _ _ | with_reducible refine Kept.setAt ?_ (.inr (Nat.le_refl _)) _ _)) kz (by simp)
  have hcz : ∀ o, wz.cell? ⟨w.heap.size, o, none⟩ = #[.bool false, .bool false, .int .i64 0][o]? := cell_of rz
  have hfz : ∀ o, wz.frozen? ⟨w.heap.size, o, none⟩ = false := frozen_of rz
  clear kz
  simp only [ans]
  go_wp2
  refine bodyPost_ret (v := ans false false 0 0) (by simp [results, Try.results67, go_sem, ans, cell_of (resLaidP rz false false 0)]) rfl ⟨rfl, blk_res hz (by omega) _ _ _, blk_res sz0 (by omega) _ _ _, KZ.out.res (Nat.le_refl _) _ _ _⟩
theorem tabSet (f : Nat → Option Addr) (k : Nat) (e0 : Option Addr) (b : Bool) (hk : k < 8) :
    ([Value.pointer (f 0), .pointer (f 1), .pointer (f 2), .pointer (f 3), .pointer (f 4), .pointer (f 5), .pointer (f 6), .pointer (f 7), .bool b].set k (.pointer e0)).toArray = tabCells (fun j => if j = k then e0 else f j) b := by
  match k, hk with
  | 0, _ | 1, _ | 2, _ | 3, _ | 4, _ | 5, _ | 6, _ | 7, _ => rfl
set_option maxRecDepth 100000 in
set_option maxHeartbeats 1600000 in
theorem g_putInDirty (sh : Sh) (s : Nat) (k : Nat) (e0 : Option Addr) (w : World) (hS : w.heap[s]? = some (.cells sh.cells 97 (0, 0))) (hk : k < 8) :
    Calls Try.prog 93 #[.pointer (some ⟨s, 0, none⟩), .int .i64 k, .pointer e0] w fun e w' => e = .returned (.tuple #[]) ∧ w'.heap[s]? = some (.cells { sh with D := fun j => if j = k then e0 else sh.D j }.cells 97 (0, 0)) ∧ Kept [s] w w' := by
  have hs := lt_of_block hS
  have hk1 : (k : Int) < 8 := by omega
  have hkt : ((k : Int)).toNat = k := by simp
  go_enter Try.func93, Try.ntmps93
  go_wp2_with fail
  refine (g_lookDirty sh s _ hS).mono ?_
  rintro e w1 ⟨rfl, rfl⟩
  simp only [tabCells]
  go_wp2_with fail
  simp only [tabSet sh.D k e0 sh.hd hk]
  generalize hG : (fun j => if j = k then e0 else sh.D j) = G
  have HG : Hid _ := hG
  clear hG
  have h1 := block_alloc_lt (block_alloc_lt hS (.cells (tabCells sh.D sh.hd) 91)) (.cells (tabCells G sh.hd) 91)
  have g1 := block_alloc_new (w.alloc (.cells (tabCells sh.D sh.hd) 91)) (.cells (tabCells G sh.hd) 91)
  have k1 := ((Kept.refl [s] w).alloc (.cells (tabCells sh.D sh.hd) 91)).alloc (.cells (tabCells G sh.hd) 91)
  simp only [World.size_alloc] at g1
  simp only [tabCells] at h1 g1 k1 ⊢
  generalize (w.alloc (.cells #[Value.pointer (sh.D 0), .pointer (sh.D 1), .pointer (sh.D 2), .pointer (sh.D 3), .pointer (sh.D 4), .pointer (sh.D 5), .pointer (sh.D 6), .pointer (sh.D 7), .bool sh.hd] 91)).alloc (.cells #[Value.pointer (G 0), .pointer (G 1), .pointer (G 2), .pointer (G 3), .pointer (G 4), .pointer (G 5), .pointer (G 6), .pointer (G 7), .bool sh.hd] 91) = W at *
  have hc1 : ∀ o, W.cell? ⟨w.heap.size + 1, o, none⟩ = #[Value.pointer (G 0), .pointer (G 1), .pointer (G 2), .pointer (G 3), .pointer (G 4), .pointer (G 5), .pointer (G 6), .pointer (G 7), .bool sh.hd][o]? := cell_of g1
  have H1 : Hid _ := h1
  have K1 : Hid _ := k1
  clear h1 k1 hS
  go_region_with ((go_at_call 95; refine Calls.mono (g_setDirty sh s G sh.hd _ (blk_drew H1.out)) ?_; rintro e wz ⟨rfl, hz, kz⟩))
  all_goals
    go_wp2
    go_end0
    obtain rfl := HG.out
    exact ⟨rfl, hz, K1.out.drew.trans kz⟩
set_option maxRecDepth 100000 in
set_option maxHeartbeats 1600000 in
theorem g_newEntry (v : Int) (w : World) :
    Calls Try.prog 94 #[.int .i64 v] w fun e w' => ∃ g, e = .returned (.pointer (some ⟨g, 0, none⟩)) ∧ w'.heap[g]? = some (.cells #[.int .i64 0, .int .i64 v] 124 (0, 0)) ∧ w.heap.size ≤ g ∧ Kept [] w w' := by
  go_enter Try.func94, Try.ntmps94
  go_wp2_with fail
  go_region_with (first | (go_at_call 79; refine Calls.mono (g_having v _) ?_; rintro e w1 ⟨rfl, rfl⟩) | (go_at_call 91; refine Calls.mono (g_setC w.heap.size 0 0 0 v _ (by repeat (first | with_reducible exact block_alloc_new _ _ | with_reducible refine blk_drew ?_ | with_reducible refine block_alloc_lt ?_ _))) ?_; rintro e wz ⟨rfl, hz, kz⟩))
  all_goals
    go_wp2
    go_ret
    refine ⟨_, rfl, hz, Nat.le_refl _, Kept.drop (F' := [w.heap.size]) (by repeat (first | with_reducible exact Kept.refl _ _ | with_reducible refine Kept.drew ?_ | with_reducible refine Kept.alloc ?_ _)) kz (by simp)⟩
end Go.Proofs.Ytmnkphenobfbfaa
