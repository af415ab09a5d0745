import Derived.Test.YtfgfpggjcfhccaaGreatPa
namespace Go.Proofs.YtfgfpggjcfhccaaGreat
open Go.RowKit
def tabCells (f : Nat → Option Addr) (b : Bool) : Array Value :=
  #[.pointer (f 0), .pointer (f 1), .pointer (f 2), .pointer (f 3), .pointer (f 4), .pointer (f 5), .pointer (f 6), .pointer (f 7), .bool b]
set_option maxRecDepth 100000 in
set_option maxHeartbeats 800000 in
theorem g_lookRead (sh : Sh) (s : Nat) (w : World) (h : w.heap[s]? = some (.cells sh.cells 111 (0, 0))) :
    Calls Tryz.prog 45 #[.pointer (some ⟨s, 0, none⟩)] w fun e w' => e = .returned (.agg (tabCells sh.R sh.am)) ∧ w' = w.alloc (.cells (tabCells sh.R sh.am) 101) := by
  have hs := lt_of_block h
  have hc : ∀ o, w.cell? ⟨s, o, none⟩ = sh.cells[o]? := cell_of h
  simp only [Sh.cells] at hc
  simp only [tabCells]
  go_enter Tryz.func45, Tryz.ntmps45
  go_wp2
  exact bodyPost_ret (v := .agg (tabCells sh.R sh.am)) (by simp [results, Tryz.results45, go_sem, tabCells]) rfl ⟨rfl, rfl⟩
set_option maxRecDepth 100000 in
set_option maxHeartbeats 800000 in
theorem g_lookDirty (sh : Sh) (s : Nat) (w : World) (h : w.heap[s]? = some (.cells sh.cells 111 (0, 0))) :
    Calls Tryz.prog 46 #[.pointer (some ⟨s, 9, none⟩)] w fun e w' => e = .returned (.agg (tabCells sh.D sh.hd)) ∧ w' = w.alloc (.cells (tabCells sh.D sh.hd) 105) := by
  have hs := lt_of_block h
  have hc : ∀ o, w.cell? ⟨s, o, none⟩ = sh.cells[o]? := cell_of h
  simp only [Sh.cells] at hc
  simp only [tabCells]
  go_enter Tryz.func46, Tryz.ntmps46
  go_wp2
  exact bodyPost_ret (v := .agg (tabCells sh.D sh.hd)) (by simp [results, Tryz.results46, go_sem, tabCells]) rfl ⟨rfl, rfl⟩
set_option maxHeartbeats 800000 in
theorem g_lookInt (s o : Nat) (x : Int) (w : World) (hc : w.cell? ⟨s, o, none⟩ = some (.int .i64 x)) :
    Calls Tryz.prog 48 #[.pointer (some ⟨s, o, none⟩)] w fun e w' => e = .returned (.int .i64 x) ∧ w' = w := by
  go_enter Tryz.func48, Tryz.ntmps48
  go_wp2
  go_ret
  exact ⟨rfl, rfl⟩
set_option maxHeartbeats 800000 in
theorem g_setInt (s o : Nat) (x y : Int) (w : World) (hc : w.cell? ⟨s, o, none⟩ = some (.int .i64 x)) (hf : w.frozen? ⟨s, o, none⟩ = false) :
    Calls Tryz.prog 42 #[.pointer (some ⟨s, o, none⟩), .int .i64 y] w fun e w' => e = .returned (.tuple #[]) ∧ w' = w.setCell ⟨s, o, none⟩ (.int .i64 y) := by
  go_enter Tryz.func42, Tryz.ntmps42
  go_wp2
  go_end0
  exact ⟨rfl, rfl⟩
set_option maxHeartbeats 800000 in
theorem g_setIfInt_no (s o : Nat) (x a b : Int) (w : World) (hc : w.cell? ⟨s, o, none⟩ = some (.int .i64 x)) (hne : ¬ x = a) :
    Calls Tryz.prog 91 #[.pointer (some ⟨s, o, none⟩), .int .i64 a, .int .i64 b] w fun e w' => e = .returned (.bool false) ∧ w' = w := by
  go_enter Tryz.func91, Tryz.ntmps91
  go_wp2
  go_ret
  exact ⟨rfl, rfl⟩
set_option maxHeartbeats 800000 in
theorem g_setIfInt_yes (s o : Nat) (a b : Int) (w : World) (hc : w.cell? ⟨s, o, none⟩ = some (.int .i64 a)) (hf : w.frozen? ⟨s, o, none⟩ = false) :
    Calls Tryz.prog 91 #[.pointer (some ⟨s, o, none⟩), .int .i64 a, .int .i64 b] w fun e w' => e = .returned (.bool true) ∧ w' = w.setCell ⟨s, o, none⟩ (.int .i64 b) := by
  go_enter Tryz.func91, Tryz.ntmps91
  go_wp2
  go_ret
  exact ⟨rfl, rfl⟩
set_option maxHeartbeats 800000 in
theorem g_lookC (g : Nat) (x y : Int) (w : World) (h : w.heap[g]? = some (.cells #[.int .i64 x, .int .i64 y] 141 (0, 0))) :
    Calls Tryz.prog 67 #[.pointer (some ⟨g, 0, none⟩)] w fun e w' => e = .returned (.agg #[.int .i64 x, .int .i64 y]) ∧ w' = w.alloc (.cells #[.int .i64 x, .int .i64 y] 113) := by
  have hs := lt_of_block h
  have hc : ∀ o, w.cell? ⟨g, o, none⟩ = #[Value.int .i64 x, .int .i64 y][o]? := cell_of h
  go_enter Tryz.func67, Tryz.ntmps67
  go_wp2
  exact bodyPost_ret (v := .agg #[.int .i64 x, .int .i64 y]) (by simp [results, Tryz.results67, go_sem]) rfl ⟨rfl, rfl⟩
set_option maxHeartbeats 800000 in
theorem g_setC (g : Nat) (x y a b : Int) (w : World) (h : w.heap[g]? = some (.cells #[.int .i64 x, .int .i64 y] 141 (0, 0))) :
    Calls Tryz.prog 105 #[.pointer (some ⟨g, 0, none⟩), .agg #[.int .i64 a, .int .i64 b]] w fun e w' => e = .returned (.tuple #[]) ∧ w'.heap[g]? = some (.cells #[.int .i64 a, .int .i64 b] 141 (0, 0)) ∧ Kept [g] w w' := by
  have hs := lt_of_block h
  have hc : ∀ o, w.cell? ⟨g, o, none⟩ = #[Value.int .i64 x, .int .i64 y][o]? := cell_of h
  have hf : ∀ o, w.frozen? ⟨g, o, none⟩ = false := frozen_of h
  go_enter Tryz.func105, Tryz.ntmps105
  go_wp2
  go_end0
  refine ⟨rfl, block_alloc_lt ((block_set_same (block_set_same h _ _) _ _).trans (by simp)) _, Kept.alloc ?_ _⟩
  repeat (refine Kept.setCell ?_ (.inl (by simp)) _)
  exact Kept.refl _ _
set_option maxHeartbeats 800000 in
theorem g_having (v : Int) (w : World) :
    Calls Tryz.prog 97 #[.int .i64 v] w fun e w' => e = .returned (.agg #[.int .i64 0, .int .i64 v]) ∧ w' = w.alloc (.cells #[.int .i64 0, .int .i64 v] 113) := by
  go_enter Tryz.func97, Tryz.ntmps97
  go_wp2
  exact bodyPost_ret (v := .agg #[.int .i64 0, .int .i64 v]) (by simp [results, Tryz.results97, go_sem]) rfl ⟨rfl, rfl⟩
set_option maxRecDepth 100000 in
set_option maxHeartbeats 800000 in
theorem g_setDirty (sh : Sh) (s : Nat) (f : Nat → Option Addr) (b : Bool) (w : World) (h : w.heap[s]? = some (.cells sh.cells 111 (0, 0))) :
    Calls Tryz.prog 109 #[.pointer (some ⟨s, 9, none⟩), .agg (tabCells f b)] w fun e w' => e = .returned (.tuple #[]) ∧ w'.heap[s]? = some (.cells { sh with D := f, hd := b }.cells 111 (0, 0)) ∧ Kept [s] w w' := by
  have hs := lt_of_block h
  have hc : ∀ o, w.cell? ⟨s, o, none⟩ = sh.cells[o]? := cell_of h
  have hf : ∀ o, w.frozen? ⟨s, o, none⟩ = false := frozen_of h
  simp only [Sh.cells] at hc
  simp only [tabCells]
  go_enter Tryz.func109, Tryz.ntmps109
  go_wp2
  go_end0
  refine ⟨rfl, block_alloc_lt ((block_set_same (block_set_same (block_set_same (block_set_same (block_set_same (block_set_same (block_set_same (block_set_same (block_set_same h _ _) _ _) _ _) _ _) _ _) _ _) _ _) _ _) _ _).trans (by simp [Sh.cells])) _, Kept.alloc ?_ _⟩
  repeat (refine Kept.setCell ?_ (.inl (by simp)) _)
  exact Kept.refl _ _
set_option maxRecDepth 100000 in
set_option maxHeartbeats 800000 in
theorem g_setRead (sh : Sh) (s : Nat) (f : Nat → Option Addr) (b : Bool) (w : World) (h : w.heap[s]? = some (.cells sh.cells 111 (0, 0))) :
    Calls Tryz.prog 111 #[.pointer (some ⟨s, 0, none⟩), .agg (tabCells f b)] w fun e w' => e = .returned (.tuple #[]) ∧ w'.heap[s]? = some (.cells { sh with R := f, am := b }.cells 111 (0, 0)) ∧ Kept [s] w w' := by
  have hs := lt_of_block h
  have hc : ∀ o, w.cell? ⟨s, o, none⟩ = sh.cells[o]? := cell_of h
  have hf : ∀ o, w.frozen? ⟨s, o, none⟩ = false := frozen_of h
  simp only [Sh.cells] at hc
  simp only [tabCells]
  go_enter Tryz.func111, Tryz.ntmps111
  go_wp2
  go_end0
  refine ⟨rfl, block_alloc_lt ((block_set_same (block_set_same (block_set_same (block_set_same (block_set_same (block_set_same (block_set_same (block_set_same (block_set_same h _ _) _ _) _ _) _ _) _ _) _ _) _ _) _ _) _ _).trans (by simp [Sh.cells])) _, Kept.alloc ?_ _⟩
  repeat (refine Kept.setCell ?_ (.inl (by simp)) _)
  exact Kept.refl _ _
set_option maxRecDepth 100000 in
set_option maxHeartbeats 800000 in
theorem g_goOn (tc : Tc) (t : Nat) (fn : Fn) (a b : Array Value) (w : World) (h : w.heap[t]? = some (.cells tc.cells 116 (0, 0))) :
    Calls Tryz.prog 79 #[.pointer (some ⟨t, 0, none⟩), .func fn a b] w fun e w' => e = .returned (ans false false 0 0) ∧ w'.heap[t]? = some (.cells { tc with nx := .func fn a b }.cells 116 (0, 0)) ∧ Kept [t] w w' := by
  have hs := lt_of_block h
  have hf : ∀ o, w.frozen? ⟨t, o, none⟩ = false := frozen_of h
  have hc : ∀ o, w.cell? ⟨t, o, none⟩ = tc.cells[o]? := cell_of h
  simp only [Tc.cells] at hc
  go_enter Tryz.func79, Tryz.ntmps79
  go_wp2
  refine bodyPost_ret (v := ans false false 0 0) (by simp [results, Tryz.results79, go_sem, ans]) rfl ⟨rfl, ?_, ?_⟩
  · exact block_alloc_lt ((block_set_same h _ _).trans (by simp [Tc.cells])) _
  · exact ((Kept.refl _ w).setCell (.inl (by simp)) _).alloc _
end Go.Proofs.YtfgfpggjcfhccaaGreat
