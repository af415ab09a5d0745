import Derived.Test.YtfgfpggjcfhccaaGreatStp
import Derived.Laws.EntriesVeiled
import Derived.BigQuiet
namespace Go.Proofs.YtfgfpggjcfhccaaGreat
open Go.RowKit
/-- A thread's cells. -/
structure Tc where
  i : Nat
  s : Nat
  kind : Int
  key : Int
  val : Int
  old : Int
  e : Option Addr
  sst : Int
  sv : Int
  cp : Int
  nx : Value
def Tc.cells (t : Tc) : Array Value :=
  #[.int .i64 t.i, .pointer (some ⟨t.s, 0, none⟩), .int .i64 t.kind, .int .i64 t.key, .int .i64 t.val, .int .i64 t.old, .pointer t.e, .int .i64 t.sst, .int .i64 t.sv, .int .i64 t.cp, t.nx]
/-- A thread at nothing. -/
def Tc.idle (t : Tc) : Tc := ⟨t.i, t.s, 0, 0, 0, 0, none, 0, 0, 0, .nilFunc⟩
/-- What threads share. -/
structure Sh where
  R : Nat → Option Addr
  am : Bool
  D : Nat → Option Addr
  hd : Bool
  mis : Int
  hol : Int
def Sh.cells (s : Sh) : Array Value :=
  #[.pointer (s.R 0), .pointer (s.R 1), .pointer (s.R 2), .pointer (s.R 3), .pointer (s.R 4), .pointer (s.R 5), .pointer (s.R 6), .pointer (s.R 7), .bool s.am,
    .pointer (s.D 0), .pointer (s.D 1), .pointer (s.D 2), .pointer (s.D 3), .pointer (s.D 4), .pointer (s.D 5), .pointer (s.D 6), .pointer (s.D 7), .bool s.hd, .int .i64 s.mis, .int .i64 s.hol]
def tabVal (f : Nat → Option Addr) (b : Bool) : Value :=
  .agg #[.pointer (f 0), .pointer (f 1), .pointer (f 2), .pointer (f 3), .pointer (f 4), .pointer (f 5), .pointer (f 6), .pointer (f 7), .bool b]
theorem blk_drew {w : World} {b : Nat} {o : Obj} (h : w.heap[b]? = some o) : w.drew.heap[b]? = some o := h
theorem blk_drewN {w : World} {b : Nat} {o : Obj} (h : w.heap[b]? = some o) (n : Nat) : (w.drewN n).heap[b]? = some o := h
def ans (d f : Bool) (v e : Int) : Value := .tuple #[.agg #[.bool d, .bool f, .int .i64 v], .int .i64 e]
set_option maxRecDepth 100000 in
set_option maxHeartbeats 800000 in
theorem g_done (tc : Tc) (t : Nat) (d f : Bool) (v : Int) (w : World) (h : w.heap[t]? = some (.cells tc.cells 116 (0, 0))) :
    Calls Tryz.prog 86 #[.pointer (some ⟨t, 0, none⟩), .agg #[.bool d, .bool f, .int .i64 v]] w fun e w' => e = .returned (ans d f v 0) ∧ w'.heap[t]? = some (.cells tc.idle.cells 116 (0, 0)) ∧ Kept [t] w w' := by
  have hs := lt_of_block h
  have hf : ∀ o, w.frozen? ⟨t, o, none⟩ = false := frozen_of h
  have hc : ∀ o, w.cell? ⟨t, o, none⟩ = tc.cells[o]? := cell_of h
  simp only [Tc.cells] at hc
  go_enter Tryz.func86, Tryz.ntmps86
  go_wp2_with fail
  go_region
  go_wp2
  refine bodyPost_ret (v := ans d f v 0) (by simp [results, Tryz.results86, go_sem, ans]) rfl ⟨rfl, ?_, ?_⟩
  · refine blk_drew (block_alloc_lt (block_alloc_lt ((block_set_same (block_set_same (block_set_same (block_set_same (block_set_same (block_set_same (block_set_same (block_set_same (block_set_same (block_set_same (block_set_same h _ _) _ _) _ _) _ _) _ _) _ _) _ _) _ _) _ _) _ _) _ _).trans ?_) _) _)
    simp [Tc.cells, Tc.idle]
  · refine Kept.drew (Kept.alloc (Kept.alloc ?_ _) _)
    repeat (refine Kept.setCell ?_ (.inl (by simp)) _)
    exact Kept.refl _ _
end Go.Proofs.YtfgfpggjcfhccaaGreat
