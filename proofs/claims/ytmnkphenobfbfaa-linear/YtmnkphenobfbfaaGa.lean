import Derived.Test.YtmnkphenobfbfaaRows
import Derived.WalkKit
import Derived.WalkSpells
import Derived.KernelRfl
import Derived.Deep.Draws
import Derived.Test.YtmnkphenobfbfaaProg
import Derived.Conc.RwLib
import Derived.Conc.MuData
import Derived.Conc.LoneCalls
import Derived.Conc.LoneSelect
import Derived.Conc.MuLone
import Derived.Defers
import Derived.Laws.EntriesVeiled
import Derived.BigQuiet
namespace Go.Proofs.Ytmnkphenobfbfaa
open Go.RowKit

/-- All blocks that were there are as they were, but for those of the list F. -/
structure Kept (F : List Nat) (w w' : World) : Prop where
  os : w'.os = w.os
  tape : w'.tape = w.tape
  output : w'.output = w.output
  size : w.heap.size ≤ w'.heap.size
  block : ∀ k, k < w.heap.size → k ∉ F → w'.heap[k]? = w.heap[k]?

theorem Kept.refl (F : List Nat) (w : World) : Kept F w w := ⟨rfl, rfl, rfl, Nat.le_refl _, fun _ _ _ => rfl⟩
theorem Kept.trans {F : List Nat} {a b c : World} (h : Kept F a b) (k : Kept F b c) : Kept F a c :=
  ⟨k.os.trans h.os, k.tape.trans h.tape, k.output.trans h.output, Nat.le_trans h.size k.size,
   fun i hi hf => (k.block i (Nat.lt_of_lt_of_le hi h.size) hf).trans (h.block i hi hf)⟩
theorem Kept.mono {F F' : List Nat} {w w' : World} (h : Kept F w w') (hF : ∀ x, x ∈ F → x ∈ F') : Kept F' w w' :=
  ⟨h.os, h.tape, h.output, h.size, fun k hk hn => h.block k hk (fun hx => hn (hF k hx))⟩
/-- What was made since may be changed too. -/
theorem Kept.drop {F F' : List Nat} {w0 w w' : World} (h0 : Kept F w0 w) (h : Kept F' w w') (hF : ∀ x, x ∈ F' → x < w0.heap.size → x ∈ F) : Kept F w0 w' :=
  ⟨h.os.trans h0.os, h.tape.trans h0.tape, h.output.trans h0.output, Nat.le_trans h0.size h.size,
   fun i hi hf => (h.block i (Nat.lt_of_lt_of_le hi h0.size) (fun hx => hf (hF i hx hi))).trans (h0.block i hi hf)⟩
theorem Kept.drew {F : List Nat} {a w : World} (h : Kept F a w) : Kept F a w.drew := ⟨h.os, h.tape, h.output, h.size, h.block⟩
theorem Kept.drewN {F : List Nat} {a w : World} (h : Kept F a w) (n : Nat) : Kept F a (w.drewN n) := ⟨h.os, h.tape, h.output, h.size, h.block⟩
theorem Kept.alloc {F : List Nat} {a w : World} (h : Kept F a w) (o : Obj) : Kept F a (w.alloc o) :=
  h.trans ⟨rfl, rfl, rfl, by simp, fun k hk _ => Below.heap_alloc _ _ _ hk⟩
theorem Kept.setCell {F : List Nat} {a w : World} (h : Kept F a w) {p : Addr} (hp : p.block ∈ F ∨ a.heap.size ≤ p.block) (u : Value) : Kept F a (w.setCell p u) :=
  ⟨h.os, h.tape, h.output, by simpa [World.setCell] using h.size, fun k hk hf =>
    (Below.heap_setCell _ _ _ _ (by rintro rfl; rcases hp with hp | hp; exact hf hp; omega)).trans (h.block k hk hf)⟩
theorem Kept.below {w w' : World} (h : Kept [] w w') : Below w.heap.size w w' := ⟨h.os, h.tape, h.output, h.size, fun k hk => h.block k hk (by simp)⟩
theorem Kept.ofBelow {w w' : World} (h : Below w.heap.size w w') : Kept [] w w' := ⟨h.os, h.tape, h.output, h.size, fun k hk _ => h.block k hk⟩
theorem lt_of_block {w : World} {b : Nat} {o : Obj} (h : w.heap[b]? = some o) : b < w.heap.size := by
  rcases Nat.lt_or_ge b w.heap.size with h' | h'
  · exact h'
  · simp [Array.getElem?_eq_none h'] at h
theorem Kept.at {F : List Nat} {w w' : World} (h : Kept F w w') {k : Nat} {o : Obj} (hk : w.heap[k]? = some o) (hf : k ∉ F) : w'.heap[k]? = some o :=
  (h.block k (lt_of_block hk) hf).trans hk
theorem cell_of {w : World} {b : Nat} {cs : Array Value} {T : TypeId} {z : Nat × Nat} (h : w.heap[b]? = some (.cells cs T z)) (o : Nat) : w.cell? ⟨b, o, none⟩ = cs[o]? := by
  simp [World.cell?, h]
theorem frozen_of {w : World} {b : Nat} {cs : Array Value} {T : TypeId} (h : w.heap[b]? = some (.cells cs T (0, 0))) (o : Nat) : w.frozen? ⟨b, o, none⟩ = false := by
  simp [World.frozen?, h]
theorem block_alloc_lt {w : World} {b : Nat} {o : Obj} (h : w.heap[b]? = some o) (x : Obj) : (w.alloc x).heap[b]? = some o :=
  (Below.heap_alloc _ _ _ (lt_of_block h)).trans h
theorem block_alloc_new (w : World) (x : Obj) : (w.alloc x).heap[w.heap.size]? = some x := by
  show (w.heap.push x)[w.heap.size]? = _
  simp
theorem block_set_same {w : World} {b : Nat} {cs : Array Value} {T : TypeId} {z : Nat × Nat} (h : w.heap[b]? = some (.cells cs T z)) (o : Nat) (v : Value) :
    (w.setCell ⟨b, o, none⟩ v).heap[b]? = some (.cells (cs.setIfInBounds o v) T z) := by
  simp only [World.setCell, Array.getElem?_modify, h]
  simp
theorem block_set_ne {w : World} {b b' : Nat} {o : Obj} (h : w.heap[b]? = some o) (hne : b ≠ b') (off : Nat) (v : Value) :
    (w.setCell ⟨b', off, none⟩ v).heap[b]? = some o := (Below.heap_setCell _ _ _ _ hne).trans h
theorem ne_of_blocks {w : World} {b b' : Nat} {o o' : Obj} (h : w.heap[b]? = some o) (h' : w.heap[b']? = some o') (hne : o ≠ o') : b ≠ b' := by
  rintro rfl
  exact hne (Option.some.inj (h.symm.trans h'))
end Go.Proofs.Ytmnkphenobfbfaa
namespace Go.Proofs
abbrev Try.muLink : Go.Conc.Locks.MuLink := { lock := 24, unlock := 25, ilock := 34, iunlock := 35, lockSlow := 46, unlockSlow := 49, disable := 42, enable := 44, acquire := 45, relMerge := 47, cas32 := 43, add32 := 48, tMutex := 71, tIMutex := 69, tPMutex := 104, tPIMutex := 111, tPI32 := 113, tUP := 115, tNoCopy := 66, tU32 := 67 }
theorem Try.muLib : Go.Conc.Locks.MuLib Try.prog Try.muLink :=
  ⟨Try.func24, Try.func25, Try.func34, Try.func35, Try.func42, Try.func44, Try.func45, Try.func47, Try.func43, Try.func48, Try.underlying69, Try.runUnderlying69, Try.sizeOf69, Try.isAgg69, Try.zeroValue69, Try.underlying71, Try.runUnderlying71, Try.sizeOf71, Try.isAgg71, Try.zeroValue71, Try.underlying104, Try.runUnderlying104, Try.sizeOf104, Try.isAgg104, Try.zeroValue104, Try.underlying111, Try.runUnderlying111, Try.sizeOf111, Try.isAgg111, Try.zeroValue111, Try.underlying113, Try.runUnderlying113, Try.sizeOf113, Try.isAgg113, Try.zeroValue113, Try.underlying115, Try.runUnderlying115, Try.sizeOf115, Try.isAgg115, Try.zeroValue115, Try.underlying66, Try.runUnderlying66, Try.sizeOf66, Try.isAgg66, Try.zeroValue66, Try.underlying21, Try.runUnderlying21, Try.sizeOf21, Try.isAgg21, Try.zeroValue21, (by kernel_rfl)⟩
end Go.Proofs
namespace Go.Proofs.Ytmnkphenobfbfaa
open Go.RowKit

/-- Where a map of the program lies: its own block, its channel, what is shared, the row of threads, the threads. -/
structure PM where
  m : Nat
  c : Nat
  s : Nat
  tb : Nat
  cap : Nat
  ts : List Nat

/-- At what a thread is: nothing, or at the first step of a Load. -/
def thCells (i s t : Nat) : Option (Int × Int × Int) → Array Value
  | none => #[.int .i64 i, .pointer (some ⟨s, 0, none⟩), .int .i64 0, .int .i64 0, .int .i64 0, .int .i64 0, .pointer none, .int .i64 0, .int .i64 0, .int .i64 0, .nilFunc]
  | some (k, v, o) => #[.int .i64 i, .pointer (some ⟨s, 0, none⟩), .int .i64 0, .int .i64 k, .int .i64 v, .int .i64 o, .pointer none, .int .i64 0, .int .i64 0, .int .i64 0, .func (.func 51) #[.pointer (some ⟨t, 0, none⟩)] #[]]

def pmCells (p : PM) (lock : Int) : Array Value :=
  #[.int .i32 lock, .int .u32 0, .chan (some p.c), .pointer (some ⟨p.s, 0, none⟩), .slice (some ⟨p.tb, 0, none⟩) p.ts.length p.cap]

def shCells : Array Value :=
  #[.pointer none, .pointer none, .pointer none, .pointer none, .pointer none, .pointer none, .pointer none, .pointer none, .bool false,
    .pointer none, .pointer none, .pointer none, .pointer none, .pointer none, .pointer none, .pointer none, .pointer none, .bool false,
    .int .i64 0, .int .i64 (-1)]

/-- A map without keys; 'lock': the state word of the calls' lock. -/
structure PAt (p : PM) (lock : Int) (w : World) (cl : Bool) (th : Nat → Option (Int × Int × Int)) : Prop where
  len : p.ts.length ≤ 6
  cap : p.ts.length ≤ p.cap
  m : w.heap[p.m]? = some (.cells (pmCells p lock) 74 (0, 0))
  c : w.heap[p.c]? = some (.chan 0 #[] cl 0 0 false)
  s : w.heap[p.s]? = some (.cells shCells 97 (0, 0))
  tb : ∃ cs : Array Value, w.heap[p.tb]? = some (.cells cs 75 (0, 0)) ∧ ∀ (i t : Nat), p.ts[i]? = some t → cs[i]? = some (.pointer (some ⟨t, 0, none⟩))
  ts : ∀ (i t : Nat), p.ts[i]? = some t → w.heap[t]? = some (.cells (thCells i p.s t (th i)) 103 (0, 0))

/-- Nothing of a map stands in F. -/
structure PM.off (p : PM) (F : List Nat) : Prop where
  m : p.m ∉ F
  c : p.c ∉ F
  s : p.s ∉ F
  tb : p.tb ∉ F
  ts : ∀ (i t : Nat), p.ts[i]? = some t → t ∉ F

theorem PAt.kept {p : PM} {l : Int} {w w' : World} {cl : Bool} {th : Nat → Option (Int × Int × Int)} {F : List Nat} (h : PAt p l w cl th) (k : Kept F w w') (hF : p.off F) : PAt p l w' cl th := by
  obtain ⟨cs, h1, h2⟩ := h.tb
  exact ⟨h.len, h.cap, k.at h.m hF.m, k.at h.c hF.c, k.at h.s hF.s, ⟨cs, k.at h1 hF.tb, h2⟩, fun i t hi => k.at (h.ts i t hi) (hF.ts i t hi)⟩
theorem PAt.keptNil {p : PM} {l : Int} {w w' : World} {cl : Bool} {th : Nat → Option (Int × Int × Int)} (h : PAt p l w cl th) (k : Kept [] w w') : PAt p l w' cl th :=
  h.kept k ⟨by simp, by simp, by simp, by simp, fun _ _ _ => by simp⟩
theorem PAt.alloc {p : PM} {l : Int} {w : World} {cl : Bool} {th : Nat → Option (Int × Int × Int)} (h : PAt p l w cl th) (o : Obj) : PAt p l (w.alloc o) cl th :=
  h.keptNil ((Kept.refl [] w).alloc o)
theorem PAt.drew {p : PM} {l : Int} {w : World} {cl : Bool} {th : Nat → Option (Int × Int × Int)} (h : PAt p l w cl th) : PAt p l w.drew cl th :=
  h.keptNil (Kept.refl [] w).drew
/-- The lock's word is another. -/
theorem PAt.lock {p : PM} {l : Int} {w : World} {cl : Bool} {th : Nat → Option (Int × Int × Int)} (h : PAt p l w cl th) (l' : Int) : PAt p l' (w.setCell ⟨p.m, 0, none⟩ (.int .i32 l')) cl th := by
  obtain ⟨cs, h1, h2⟩ := h.tb
  refine ⟨h.len, h.cap, ?_, ?_, ?_, ⟨cs, ?_, h2⟩, fun i t hi => ?_⟩
  · rw [block_set_same h.m]; simp [pmCells]
  · exact block_set_ne h.c (ne_of_blocks h.c h.m (by simp)) _ _
  · exact block_set_ne h.s (ne_of_blocks h.s h.m (by simp)) _ _
  · exact block_set_ne h1 (ne_of_blocks h1 h.m (by simp)) _ _
  · exact block_set_ne (h.ts i t hi) (ne_of_blocks (h.ts i t hi) h.m (by simp)) _ _
/-- A cell of a block that is none of the map's. -/
theorem PAt.set {p : PM} {l : Int} {w : World} {cl : Bool} {th : Nat → Option (Int × Int × Int)} (h : PAt p l w cl th) {b : Nat} {cs : Array Value} {T : TypeId} {z : Nat × Nat}
    (hb : w.heap[b]? = some (.cells cs T z)) (h1 : T ≠ 74) (h2 : T ≠ 97) (h3 : T ≠ 75) (h4 : T ≠ 103) (o : Nat) (v : Value) : PAt p l (w.setCell ⟨b, o, none⟩ v) cl th := by
  obtain ⟨cs', g1, g2⟩ := h.tb
  refine ⟨h.len, h.cap, ?_, ?_, ?_, ⟨cs', ?_, g2⟩, fun i t hi => ?_⟩
  · exact block_set_ne h.m (ne_of_blocks h.m hb (by intro e; injection e with _ e2 _; exact h1 e2.symm)) _ _
  · exact block_set_ne h.c (ne_of_blocks h.c hb (by simp)) _ _
  · exact block_set_ne h.s (ne_of_blocks h.s hb (by intro e; injection e with _ e2 _; exact h2 e2.symm)) _ _
  · exact block_set_ne g1 (ne_of_blocks g1 hb (by intro e; injection e with _ e2 _; exact h3 e2.symm)) _ _
  · exact block_set_ne (h.ts i t hi) (ne_of_blocks (h.ts i t hi) hb (by intro e; injection e with _ e2 _; exact h4 e2.symm)) _ _
theorem PAt.nth {p : PM} {l : Int} {w : World} {cl : Bool} {th : Nat → Option (Int × Int × Int)} (h : PAt p l w cl th) {i : Nat} (hi : i < p.ts.length) :
    ∃ t, p.ts[i]? = some t ∧ w.cell? ⟨p.tb, i, none⟩ = some (.pointer (some ⟨t, 0, none⟩)) ∧ w.heap[t]? = some (.cells (thCells i p.s t (th i)) 103 (0, 0)) := by
  obtain ⟨cs, h1, h2⟩ := h.tb
  have e : p.ts[i]? = some p.ts[i] := List.getElem?_eq_getElem hi
  exact ⟨p.ts[i], e, by rw [cell_of h1]; exact h2 i _ e, h.ts i _ e⟩
end Go.Proofs.Ytmnkphenobfbfaa
namespace Go.Proofs.Ytmnkphenobfbfaa
open Go.RowKit Go.Conc
set_option maxRecDepth 100000 in
theorem isClosed_no (m c s r : Nat) (w : World) (h2 : w.cell? ⟨m, 2, none⟩ = some (.chan (some c))) (hc : w.heap[c]? = some (.chan 0 #[] false s r false)) :
    Calls Try.prog 26 #[.pointer (some ⟨m, 0, none⟩)] w fun e w' => e = .returned (.bool false) ∧ w' = w := by
  refine calls_of_loneTo fun cs => ?_
  have e : Frame.enter Try.prog 26 #[.pointer (some ⟨m, 0, none⟩)] .normal = (base 26).at ⟨#[.pointer (some ⟨m, 0, none⟩), undef, undef, undef, undef, undef, undef, undef, undef, undef], []⟩ [.code (Try.f26.body.getD .skip)] := by
    simp [Frame.enter, Frame.at, Try.func26, base, Try.f26]
  rw [e]
  refine LoneTo.goes (n := 14) ?_
  simp only [Try.f26, Option.getD_some]
  s_c stepG_seq
  s_reg
  s_op
  s_c stepG_region_end
  s_c stepG_seq
  s_reg
  s_op
  s_op
  s_op
  s_op
  s_c stepG_region_end
  s_c stepG_seq
  s_reg
  s_stop
  refine LoneTo.step (step_lone_select_default (c := c) (z := .agg #[]) (cap := 0) (s := s) (r := r) (tm := false)
    (stepG_comm (cases := #[rcase c (.agg #[])]) (blocking := false) (shape := .select) (w' := w) rfl rfl (by decide) (by simp [go_sem, execOp, rcase, Act.eval])) hc) ?_
  rw [Frame.finish_at]
  walk_nrm
  refine LoneTo.goes (n := 11) ?_
  s_op
  s_op
  s_c stepG_region_end
  s_c stepG_block
  s_cond false
  s_c stepG_seq
  s_reg
  s_op
  s_c stepG_region_end
  s_c stepG_ret'
  s_stop
  exact LoneTo.done ⟨.returned (.bool false), _, rfl, ⟨rfl, rfl⟩, rfl, rfl, rfl, rfl, _, Try.func26, by simp [results, Try.f26, Frame.at]⟩
set_option maxRecDepth 100000 in
theorem isClosed_yes (m c s r : Nat) (w : World) (h2 : w.cell? ⟨m, 2, none⟩ = some (.chan (some c))) (hc : w.heap[c]? = some (.chan 0 #[] true s r false)) :
    Calls Try.prog 26 #[.pointer (some ⟨m, 0, none⟩)] w fun e w' => e = .returned (.bool true) ∧ w' = w := by
  refine calls_of_loneTo fun cs => ?_
  have e : Frame.enter Try.prog 26 #[.pointer (some ⟨m, 0, none⟩)] .normal = (base 26).at ⟨#[.pointer (some ⟨m, 0, none⟩), undef, undef, undef, undef, undef, undef, undef, undef, undef], []⟩ [.code (Try.f26.body.getD .skip)] := by
    simp [Frame.enter, Frame.at, Try.func26, base, Try.f26]
  rw [e]
  refine LoneTo.goes (n := 14) ?_
  simp only [Try.f26, Option.getD_some]
  s_c stepG_seq
  s_reg
  s_op
  s_c stepG_region_end
  s_c stepG_seq
  s_reg
  s_op
  s_op
  s_op
  s_op
  s_c stepG_region_end
  s_c stepG_seq
  s_reg
  s_stop
  refine LoneTo.step (step_lone_select_recv_shut (c := c) (z := .agg #[]) (cap := 0) (s := s) (r := r) (tm := false)
    (stepG_comm (cases := #[rcase c (.agg #[])]) (blocking := false) (shape := .select) (w' := w) rfl rfl (by decide) (by simp [go_sem, execOp, rcase, Act.eval])) hc) ?_
  rw [Frame.finish_at]
  walk_nrm
  refine LoneTo.goes (n := 11) ?_
  s_op
  s_op
  s_c stepG_region_end
  s_c stepG_block
  s_cond true
  s_c stepG_seq
  s_reg
  s_op
  s_c stepG_region_end
  s_c stepG_ret'
  s_stop
  exact LoneTo.done ⟨.returned (.bool true), _, rfl, ⟨rfl, rfl⟩, rfl, rfl, rfl, rfl, _, Try.func26, by simp [results, Try.f26, Frame.at]⟩
end Go.Proofs.Ytmnkphenobfbfaa
namespace Go.Proofs.Ytmnkphenobfbfaa
open Go.RowKit Go.MuLone
theorem run_neq_nilf (w : World) : Sem.run Try.prog (binOp BinOp.neq 101 Value.nilFunc Value.nilFunc) w = .ok (.bool false) w := by kernel_rfl
set_option maxRecDepth 100000 in
set_option maxHeartbeats 400000 in
theorem busy_no (t : Nat) (w : World) (h7 : w.cell? ⟨t, 10, none⟩ = some .nilFunc) :
    Calls Try.prog 29 #[.pointer (some ⟨t, 0, none⟩)] w fun e w' => e = .returned (.bool false) ∧ w' = w := by
  have hrun := run_neq_nilf w
  go_enter Try.func29, Try.ntmps29
  go_wp2
  go_ret
  exact ⟨rfl, rfl⟩
set_option maxHeartbeats 400000 in
theorem hasThread_yes (m : Nat) (tb : Option Addr) (n cap : Nat) (i : Int) (w : World) (h4 : w.cell? ⟨m, 4, none⟩ = some (.slice tb n cap)) (h0 : 0 ≤ i) (h1 : i < n) :
    Calls Try.prog 27 #[.pointer (some ⟨m, 0, none⟩), .int .i64 i] w fun e w' => e = .returned (.bool true) ∧ w' = w := by
  go_enter Try.func27, Try.ntmps27
  go_wp2
  go_ret
  exact ⟨rfl, rfl⟩
set_option maxHeartbeats 400000 in
theorem hasThread_no (m : Nat) (tb : Option Addr) (n cap : Nat) (i : Int) (w : World) (h4 : w.cell? ⟨m, 4, none⟩ = some (.slice tb n cap)) (h : i < 0 ∨ (n : Int) ≤ i) :
    Calls Try.prog 27 #[.pointer (some ⟨m, 0, none⟩), .int .i64 i] w fun e w' => e = .returned (.bool false) ∧ w' = w := by
  rcases h with h | h
  · have h0 : ¬ 0 ≤ i := by omega
    go_enter Try.func27, Try.ntmps27
    go_wp2
    go_ret
    exact ⟨rfl, rfl⟩
  · by_cases h0 : 0 ≤ i
    · have h1 : ¬ i < n := by omega
      go_enter Try.func27, Try.ntmps27
      go_wp2
      go_ret
      exact ⟨rfl, rfl⟩
    · go_enter Try.func27, Try.ntmps27
      go_wp2
      go_ret
      exact ⟨rfl, rfl⟩
set_option maxHeartbeats 400000 in
theorem tstep_idle (t : Nat) (w : World) {cs : Array Value} (ht : w.heap[t]? = some (.cells cs 103 (0, 0))) (h7 : cs[10]? = some .nilFunc) :
    Calls Try.prog 32 #[.pointer (some ⟨t, 0, none⟩)] w fun e w' => e = .returned (.tuple #[.agg #[.bool false, .bool false, .int .i64 0], .int .i64 3]) ∧ Kept [] w w' := by
  go_enter Try.func32, Try.ntmps32
  go_wp2_with fail
  refine (busy_no t _ ?_).mono ?_
  · rw [cell_of (block_alloc_lt ht _)]; exact h7
  rintro e w' ⟨rfl, rfl⟩
  go_wp2
  exact bodyPost_ret (v := .tuple #[.agg #[.bool false, .bool false, .int .i64 0], .int .i64 3]) (by simp [results, Try.results32, go_sem]) rfl ⟨rfl, (Kept.refl [] w).alloc _⟩


/-- THE DOOR of a call that has the lock's Unlock deferred. -/
theorem door_unlock {fn : Func} {tmps : Array Value} {R : Ending → World → Prop} {W : World} (m : Nat) (v : Value)
    (hc : W.cell? ⟨m, 0, none⟩ = some (.int .i32 1)) (hz : W.frozen? ⟨m, 0, none⟩ = false)
    (hres : (results fn tmps).run Try.prog (W.setCell ⟨m, 0, none⟩ (.int .i32 0)) = .ok v (W.setCell ⟨m, 0, none⟩ (.int .i32 0)))
    (hR : R (.returned v) (W.setCell ⟨m, 0, none⟩ (.int .i32 0))) :
    bodyPostD Try.prog fn R .ret { tmps := tmps, defers := [{ target := .fn (.func 25) #[], args := #[.pointer (some ⟨m, 0, none⟩)] }] } W := by
  refine leaves_cons (f := 25) (args := #[.pointer (some ⟨m, 0, none⟩)]) (by simp) (by simp [go_sem]) ?_
  refine (unlock_deferred Try.muLib ⟨m, 0, none⟩ .returning _ hc hz).mono ?_
  rintro e u' w'' ⟨rfl, rfl, rfl⟩
  exact ⟨v, hres, hR⟩
theorem res16 {tmps : Array Value} {W : World} (r : Nat) (a b n e : Value) (h4 : tmps.getD 4 undef = .pointer (some ⟨r, 0, none⟩)) (h5 : tmps.getD 5 undef = e)
    (c0 : W.cell? ⟨r, 0, none⟩ = some a) (c1 : W.cell? ⟨r, 1, none⟩ = some b) (c2 : W.cell? ⟨r, 2, none⟩ = some n) :
    (results Try.f15 tmps).run Try.prog W = .ok (.tuple #[.agg #[a, b, n], e]) W := by
  simp only [Array.getD_eq_getD_getElem?] at h4 h5
  simp [results, Try.results15, go_sem, h4, h5, c0, c1, c2]

set_option maxHeartbeats 800000 in
theorem step_closed (p : PM) (i : Int) (w : World) (th : Nat → Option (Int × Int × Int)) (h : PAt p 0 w true th) :
    Calls Try.prog 15 #[.pointer (some ⟨p.m, 0, none⟩), .int .i64 i] w fun e w' => e = .returned (.tuple #[.agg #[.bool false, .bool false, .int .i64 0], .int .i64 5]) ∧ PAt p 0 w' true th ∧ Kept [p.m] w w' := by
  have hs := lt_of_block h.m
  have h1 := (h.alloc (.cells #[.bool false, .bool false, .int .i64 0] 30)).lock 1
  have k1 : Kept [p.m] w ((w.alloc (.cells #[.bool false, .bool false, .int .i64 0] 30)).setCell ⟨p.m, 0, none⟩ (.int .i32 1)) := ((Kept.refl _ w).alloc _).setCell (.inl (by simp)) _
  have hr : ((w.alloc (.cells #[.bool false, .bool false, .int .i64 0] 30)).setCell ⟨p.m, 0, none⟩ (.int .i32 1)).heap[w.heap.size]? = some (.cells #[.bool false, .bool false, .int .i64 0] 30 (0, 0)) :=
    block_set_ne (block_alloc_new _ _) (by omega) _ _
  go_enter_defers Try.func15, Try.ntmps15
  go_wp2_with fail
  refine (lock_free Try.muLib ⟨p.m, 0, none⟩ _ ?_ ?_).mono ?_
  · rw [cell_of (h.alloc _).m]; rfl
  · rw [frozen_of (h.alloc _).m]
  rintro e w' ⟨rfl, rfl⟩
  generalize ((w.alloc (.cells #[.bool false, .bool false, .int .i64 0] 30)).setCell ⟨p.m, 0, none⟩ (.int .i32 1)) = W at *
  go_wp2_with fail
  refine (isClosed_yes p.m p.c 0 0 _ (by rw [cell_of h1.m]; rfl) h1.c).mono ?_
  rintro e w' ⟨rfl, rfl⟩
  have c0 : w'.cell? ⟨w.heap.size, 0, none⟩ = some (.bool false) := cell_of hr 0
  have c1 : w'.cell? ⟨w.heap.size, 1, none⟩ = some (.bool false) := cell_of hr 1
  have c2 : w'.cell? ⟨w.heap.size, 2, none⟩ = some (.int .i64 0) := cell_of hr 2
  have f0 : ∀ o, w'.frozen? ⟨w.heap.size, o, none⟩ = false := frozen_of hr
  go_wp2
  have hr2 := block_set_same (block_set_same (block_set_same hr 0 (.bool false)) 1 (.bool false)) 2 (.int .i64 0)
  have h2 := ((h1.set hr (by decide) (by decide) (by decide) (by decide) 0 (.bool false)).set (block_set_same hr 0 _) (by decide) (by decide) (by decide) (by decide) 1 (.bool false)).set (block_set_same (block_set_same hr 0 _) 1 _) (by decide) (by decide) (by decide) (by decide) 2 (.int .i64 0)
  have k2 := ((k1.setCell (p := ⟨w.heap.size, 0, none⟩) (.inr (Nat.le_refl _)) (.bool false)).setCell (p := ⟨w.heap.size, 1, none⟩) (.inr (Nat.le_refl _)) (.bool false)).setCell (p := ⟨w.heap.size, 2, none⟩) (.inr (Nat.le_refl _)) (.int .i64 0)
  refine door_unlock p.m _ (by rw [cell_of h2.m]; rfl) (by rw [frozen_of h2.m]) (res16 w.heap.size _ _ _ _ rfl rfl ?_ ?_ ?_) ⟨rfl, h2.lock 0, k2.setCell (.inl (by simp)) _⟩
  all_goals (rw [cell_of (block_set_ne hr2 (by omega) _ _)]; rfl)
end Go.Proofs.Ytmnkphenobfbfaa
namespace Go.Proofs.Ytmnkphenobfbfaa
open Go.RowKit
/-- A thread's cells. -/
structure Tc where
  i : Nat
  s : Nat
  kind : Int
  key : Int
  val : Int
  old : Int
  e : Option Addr
  sst : Int
  sv : Int
  cp : Int
  nx : Value
def Tc.cells (t : Tc) : Array Value :=
  #[.int .i64 t.i, .pointer (some ⟨t.s, 0, none⟩), .int .i64 t.kind, .int .i64 t.key, .int .i64 t.val, .int .i64 t.old, .pointer t.e, .int .i64 t.sst, .int .i64 t.sv, .int .i64 t.cp, t.nx]
/-- A thread at nothing. -/
def Tc.idle (t : Tc) : Tc := ⟨t.i, t.s, 0, 0, 0, 0, none, 0, 0, 0, .nilFunc⟩
/-- What threads share. -/
structure Sh where
  R : Nat → Option Addr
  am : Bool
  D : Nat → Option Addr
  hd : Bool
  mis : Int
  hol : Int
def Sh.cells (s : Sh) : Array Value :=
  #[.pointer (s.R 0), .pointer (s.R 1), .pointer (s.R 2), .pointer (s.R 3), .pointer (s.R 4), .pointer (s.R 5), .pointer (s.R 6), .pointer (s.R 7), .bool s.am,
    .pointer (s.D 0), .pointer (s.D 1), .pointer (s.D 2), .pointer (s.D 3), .pointer (s.D 4), .pointer (s.D 5), .pointer (s.D 6), .pointer (s.D 7), .bool s.hd, .int .i64 s.mis, .int .i64 s.hol]
def tabVal (f : Nat → Option Addr) (b : Bool) : Value :=
  .agg #[.pointer (f 0), .pointer (f 1), .pointer (f 2), .pointer (f 3), .pointer (f 4), .pointer (f 5), .pointer (f 6), .pointer (f 7), .bool b]
theorem blk_drew {w : World} {b : Nat} {o : Obj} (h : w.heap[b]? = some o) : w.drew.heap[b]? = some o := h
theorem blk_drewN {w : World} {b : Nat} {o : Obj} (h : w.heap[b]? = some o) (n : Nat) : (w.drewN n).heap[b]? = some o := h
def ans (d f : Bool) (v e : Int) : Value := .tuple #[.agg #[.bool d, .bool f, .int .i64 v], .int .i64 e]
set_option maxRecDepth 100000 in
set_option maxHeartbeats 800000 in
theorem g_done (tc : Tc) (t : Nat) (d f : Bool) (v : Int) (w : World) (h : w.heap[t]? = some (.cells tc.cells 103 (0, 0))) :
    Calls Try.prog 73 #[.pointer (some ⟨t, 0, none⟩), .agg #[.bool d, .bool f, .int .i64 v]] w fun e w' => e = .returned (ans d f v 0) ∧ w'.heap[t]? = some (.cells tc.idle.cells 103 (0, 0)) ∧ Kept [t] w w' := by
  have hs := lt_of_block h
  have hf : ∀ o, w.frozen? ⟨t, o, none⟩ = false := frozen_of h
  have hc : ∀ o, w.cell? ⟨t, o, none⟩ = tc.cells[o]? := cell_of h
  simp only [Tc.cells] at hc
  go_enter Try.func73, Try.ntmps73
  go_wp2_with fail
  go_region
  go_wp2
  refine bodyPost_ret (v := ans d f v 0) (by simp [results, Try.results73, go_sem, ans]) rfl ⟨rfl, ?_, ?_⟩
  · refine blk_drew (block_alloc_lt (block_alloc_lt ((block_set_same (block_set_same (block_set_same (block_set_same (block_set_same (block_set_same (block_set_same (block_set_same (block_set_same (block_set_same (block_set_same h _ _) _ _) _ _) _ _) _ _) _ _) _ _) _ _) _ _) _ _) _ _).trans ?_) _) _)
    simp [Tc.cells, Tc.idle]
  · refine Kept.drew (Kept.alloc (Kept.alloc ?_ _) _)
    repeat (refine Kept.setCell ?_ (.inl (by simp)) _)
    exact Kept.refl _ _
end Go.Proofs.Ytmnkphenobfbfaa
namespace Go.Proofs.Ytmnkphenobfbfaa
open Go.RowKit Go.MuLone
def rdVal : Value := .agg #[.pointer none, .pointer none, .pointer none, .pointer none, .pointer none, .pointer none, .pointer none, .pointer none, .bool false]
set_option maxRecDepth 100000 in
set_option maxHeartbeats 800000 in
theorem lookRead (s : Nat) (w : World) (h : w.heap[s]? = some (.cells shCells 97 (0, 0))) :
    Calls Try.prog 38 #[.pointer (some ⟨s, 0, none⟩)] w fun e w' => e = .returned rdVal ∧ Kept [] w w' := by
  have hs := lt_of_block h
  have hc : ∀ o, w.cell? ⟨s, o, none⟩ = shCells[o]? := cell_of h
  simp only [shCells] at hc
  go_enter Try.func38, Try.ntmps38
  go_wp2
  exact bodyPost_ret (v := rdVal) (by simp [results, Try.results38, go_sem, rdVal]) rfl ⟨rfl, (Kept.refl [] w).alloc _⟩
set_option maxRecDepth 100000 in
set_option maxHeartbeats 800000 in
theorem lookDirty (s : Nat) (w : World) (h : w.heap[s]? = some (.cells shCells 97 (0, 0))) :
    Calls Try.prog 39 #[.pointer (some ⟨s, 9, none⟩)] w fun e w' => e = .returned rdVal ∧ Kept [] w w' := by
  have hs := lt_of_block h
  have hc : ∀ o, w.cell? ⟨s, o, none⟩ = shCells[o]? := cell_of h
  simp only [shCells] at hc
  go_enter Try.func39, Try.ntmps39
  go_wp2
  exact bodyPost_ret (v := rdVal) (by simp [results, Try.results39, go_sem, rdVal]) rfl ⟨rfl, (Kept.refl [] w).alloc _⟩
set_option maxRecDepth 100000 in
set_option maxHeartbeats 800000 in
theorem done_any (i s t : Nat) (x : Option (Int × Int × Int)) (a b n : Value) (w : World) (h : w.heap[t]? = some (.cells (thCells i s t x) 103 (0, 0))) (ha : ∃ q, a = .bool q) (hb : ∃ q, b = .bool q) (hn : ∃ q, n = .int .i64 q) :
    Calls Try.prog 73 #[.pointer (some ⟨t, 0, none⟩), .agg #[a, b, n]] w fun e w' => e = .returned (.tuple #[.agg #[a, b, n], .int .i64 0]) ∧ w'.heap[t]? = some (.cells (thCells i s t none) 103 (0, 0)) ∧ Kept [t] w w' := by
  obtain ⟨a, rfl⟩ := ha
  obtain ⟨b, rfl⟩ := hb
  obtain ⟨n, rfl⟩ := hn
  obtain ⟨tc, hx, hi⟩ : ∃ tc : Tc, thCells i s t x = tc.cells ∧ tc.idle.cells = thCells i s t none := by
    rcases x with _ | ⟨k, v, o⟩
    · exact ⟨⟨i, s, 0, 0, 0, 0, none, 0, 0, 0, .nilFunc⟩, rfl, rfl⟩
    · exact ⟨⟨i, s, 0, k, v, o, none, 0, 0, 0, .func (.func 51) #[.pointer (some ⟨t, 0, none⟩)] #[]⟩, rfl, rfl⟩
  rw [hx] at h
  rw [← hi]
  exact g_done tc t a b n w h
set_option maxRecDepth 100000 in
set_option maxHeartbeats 800000 in
theorem doneNothing (i s t : Nat) (x : Option (Int × Int × Int)) (w : World) (h : w.heap[t]? = some (.cells (thCells i s t x) 103 (0, 0))) :
    Calls Try.prog 65 #[.pointer (some ⟨t, 0, none⟩)] w fun e w' => e = .returned (.tuple #[.agg #[.bool true, .bool false, .int .i64 0], .int .i64 0]) ∧ w'.heap[t]? = some (.cells (thCells i s t none) 103 (0, 0)) ∧ Kept [t] w w' := by
  have hs := lt_of_block h
  go_enter Try.func65, Try.ntmps65
  go_wp2_with fail
  refine (done_any i s t x _ _ _ _ (block_alloc_lt h _) ⟨_, rfl⟩ ⟨_, rfl⟩ ⟨_, rfl⟩).mono ?_
  rintro e w1 ⟨rfl, h1, k1⟩
  have hr : w1.heap[w.heap.size]? = some (.cells #[.bool false, .bool false, .int .i64 0] 30 (0, 0)) := k1.at (block_alloc_new _ _) (by simp; omega)
  have hc : ∀ o, w1.cell? ⟨w.heap.size, o, none⟩ = #[.bool false, .bool false, .int .i64 0][o]? := cell_of hr
  have hf : ∀ o, w1.frozen? ⟨w.heap.size, o, none⟩ = false := frozen_of hr
  go_wp2
  have hr2 := block_set_same (block_set_same (block_set_same hr 0 (.bool true)) 1 (.bool false)) 2 (.int .i64 0)
  refine bodyPost_ret (v := .tuple #[.agg #[.bool true, .bool false, .int .i64 0], .int .i64 0]) (by simp [results, Try.results65, go_sem, cell_of hr2]) rfl ⟨rfl, ?_, ?_⟩
  · exact block_set_ne (block_set_ne (block_set_ne h1 (by omega) _ _) (by omega) _ _) (by omega) _ _
  · exact ((((((Kept.refl _ w).alloc _).drop k1 (by simp))).setCell (.inr (by simp)) _).setCell (.inr (by simp)) _).setCell (.inr (by simp)) _
theorem nth_nil (k : Int) (hk0 : 0 ≤ k) (hk7 : k < 8) : #[Value.pointer none, .pointer none, .pointer none, .pointer none, .pointer none, .pointer none, .pointer none, .pointer none, .bool false][k.toNat]? = some (.pointer none) := by
  obtain ⟨n, rfl⟩ := Int.eq_ofNat_of_zero_le hk0
  have hn : n < 8 := by omega
  simp only [Int.toNat_natCast]
  match n, hn with
  | 0, _ | 1, _ | 2, _ | 3, _ | 4, _ | 5, _ | 6, _ | 7, _ => rfl
set_option maxRecDepth 100000 in
set_option maxHeartbeats 1600000 in
theorem load1 (i s t : Nat) (k v o : Int) (w : World) (h : w.heap[t]? = some (.cells (thCells i s t (some (k, v, o))) 103 (0, 0))) (hs : w.heap[s]? = some (.cells shCells 97 (0, 0))) (hk0 : 0 ≤ k) (hk7 : k < 8) :
    Calls Try.prog 51 #[.pointer (some ⟨t, 0, none⟩)] w fun e w' => e = .returned (.tuple #[.agg #[.bool true, .bool false, .int .i64 0], .int .i64 0]) ∧ w'.heap[t]? = some (.cells (thCells i s t none) 103 (0, 0)) ∧ Kept [t] w w' := by
  have ht := lt_of_block h
  have hc : ∀ o', w.cell? ⟨t, o', none⟩ = (thCells i s t (some (k, v, o)))[o']? := cell_of h
  simp only [thCells] at hc
  go_enter Try.func51, Try.ntmps51
  go_wp2_with fail
  refine (lookRead s _ (block_alloc_lt hs _)).mono ?_
  rintro e w1 ⟨rfl, k1⟩
  have h1 := k1.at (block_alloc_lt h _) (by simp)
  have r1 := k1.at (block_alloc_new w (.cells #[.bool false, .bool false, .int .i64 0] 30)) (by simp)
  have z1 := k1.size
  simp only [World.size_alloc] at z1
  have hc1 : ∀ o', w1.cell? ⟨t, o', none⟩ = (thCells i s t (some (k, v, o)))[o']? := cell_of h1
  have hf1 : ∀ o', w1.frozen? ⟨t, o', none⟩ = false := frozen_of h1
  have ht1 := lt_of_block h1
  simp only [thCells] at hc1
  simp only [rdVal]
  clear hc
  have hn := nth_nil k hk0 hk7
  go_wp2_with fail
  refine (doneNothing i s t (some (k, v, o)) _ (block_alloc_lt ((block_set_same h1 6 _).trans (by simp [thCells])) _)).mono ?_
  rintro e w2 ⟨rfl, h2, k2⟩
  have r2 : w2.heap[w.heap.size]? = some (.cells #[.bool false, .bool false, .int .i64 0] 30 (0, 0)) := k2.at (block_alloc_lt (block_set_ne r1 (by omega) _ _) _) (by simp; omega)
  have hc2 : ∀ o, w2.cell? ⟨w.heap.size, o, none⟩ = #[.bool false, .bool false, .int .i64 0][o]? := cell_of r2
  have hf2 : ∀ o, w2.frozen? ⟨w.heap.size, o, none⟩ = false := frozen_of r2
  clear hc1 hf1 hn
  go_wp2
  have hr3 := block_set_same (block_set_same (block_set_same r2 0 (.bool true)) 1 (.bool false)) 2 (.int .i64 0)
  refine bodyPost_ret (v := .tuple #[.agg #[.bool true, .bool false, .int .i64 0], .int .i64 0]) (by simp [results, Try.results51, go_sem, cell_of hr3]) rfl ⟨rfl, ?_, ?_⟩
  · exact block_set_ne (block_set_ne (block_set_ne h2 (by omega) _ _) (by omega) _ _) (by omega) _ _
  · exact (((((((((Kept.refl _ w).alloc _).drop k1 (by simp))).setCell (.inl (by simp)) _).alloc _).drop k2 (by simp)).setCell (.inr (by simp)) _).setCell (.inr (by simp)) _).setCell (.inr (by simp)) _
theorem run_neq_func (w : World) (fn : Fn) (first captured : Array Value) : Sem.run Try.prog (binOp BinOp.neq 101 (Value.func fn first captured) Value.nilFunc) w = .ok (.bool true) w := by kernel_rfl
set_option maxRecDepth 100000 in
set_option maxHeartbeats 400000 in
theorem busy_yes (t : Nat) (fn : Fn) (a b : Array Value) (w : World) (h7 : w.cell? ⟨t, 10, none⟩ = some (.func fn a b)) :
    Calls Try.prog 29 #[.pointer (some ⟨t, 0, none⟩)] w fun e w' => e = .returned (.bool true) ∧ w' = w := by
  have hrun := run_neq_func w
  go_enter Try.func29, Try.ntmps29
  go_wp2
  go_ret
  exact ⟨rfl, rfl⟩
set_option maxRecDepth 100000 in
set_option maxHeartbeats 800000 in
theorem tstep_load (i s t : Nat) (k v o : Int) (w : World) (h : w.heap[t]? = some (.cells (thCells i s t (some (k, v, o))) 103 (0, 0))) (hs : w.heap[s]? = some (.cells shCells 97 (0, 0))) (hk0 : 0 ≤ k) (hk7 : k < 8) :
    Calls Try.prog 32 #[.pointer (some ⟨t, 0, none⟩)] w fun e w' => e = .returned (.tuple #[.agg #[.bool true, .bool false, .int .i64 0], .int .i64 0]) ∧ w'.heap[t]? = some (.cells (thCells i s t none) 103 (0, 0)) ∧ Kept [t] w w' := by
  have ht := lt_of_block h
  have hc : ∀ o', w.cell? ⟨t, o', none⟩ = (thCells i s t (some (k, v, o)))[o']? := cell_of h
  simp only [thCells] at hc
  go_enter Try.func32, Try.ntmps32
  go_wp2_with fail
  refine (busy_yes t (.func 51) #[.pointer (some ⟨t, 0, none⟩)] #[] _ ?_).mono ?_
  · rw [cell_of (block_alloc_lt h _)]; rfl
  rintro e w' ⟨rfl, rfl⟩
  go_wp2_with fail
  refine (load1 i s t k v o _ (block_alloc_lt h _) (block_alloc_lt hs _) hk0 hk7).mono ?_
  rintro e w2 ⟨rfl, h2, k2⟩
  have r2 : w2.heap[w.heap.size]? = some (.cells #[.bool false, .bool false, .int .i64 0] 30 (0, 0)) := k2.at (block_alloc_new _ _) (by simp; omega)
  have hc2 : ∀ o, w2.cell? ⟨w.heap.size, o, none⟩ = #[.bool false, .bool false, .int .i64 0][o]? := cell_of r2
  have hf2 : ∀ o, w2.frozen? ⟨w.heap.size, o, none⟩ = false := frozen_of r2
  clear hc
  go_wp2
  have hr3 := block_set_same (block_set_same (block_set_same r2 0 (.bool true)) 1 (.bool false)) 2 (.int .i64 0)
  refine bodyPost_ret (v := .tuple #[.agg #[.bool true, .bool false, .int .i64 0], .int .i64 0]) (by simp [results, Try.results32, go_sem, cell_of hr3]) rfl ⟨rfl, ?_, ?_⟩
  · exact block_set_ne (block_set_ne (block_set_ne h2 (by omega) _ _) (by omega) _ _) (by omega) _ _
  · exact ((((((Kept.refl _ w).alloc _).drop k2 (by simp))).setCell (.inr (by simp)) _).setCell (.inr (by simp)) _).setCell (.inr (by simp)) _
end Go.Proofs.Ytmnkphenobfbfaa
