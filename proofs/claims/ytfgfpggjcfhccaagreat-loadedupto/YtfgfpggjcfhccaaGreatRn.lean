import Derived.Test.YtfgfpggjcfhccaaGreatNm
namespace Go.Proofs.YtfgfpggjcfhccaaGreat
open Go.RowKit
set_option maxHeartbeats 800000 in
theorem rnew_no (n : Int) (w : World) (h : n < 1 ∨ 6 < n) : Calls Tryz.prog 11 #[.int .i64 n] w fun e w' => e = .returned (.tuple #[.pointer none, .int .i64 1]) ∧ w' = w := by
  by_cases h1 : n < 1
  · go_enter Tryz.func11, Tryz.ntmps11
    go_wp2
    go_ret2
    exact ⟨rfl, rfl⟩
  · have h2 : 6 < n := by omega
    go_enter Tryz.func11, Tryz.ntmps11
    go_wp2
    go_ret2
    exact ⟨rfl, rfl⟩
theorem info90 : (Tryz.prog.info? 90).map (fun i => (i.zero, i.size, i.bytes)) = some (some (.agg #[.int .i64 0, .int .i64 0, .int .i64 0, .int .i64 0, .int .i64 0, .int .i64 0, .int .i64 0, .int .i64 0, .int .i64 0]), 9, 72) := by kernel_rfl
def zeros (n : Nat) : Array Value := Array.replicate (n * 9) (.int .i64 0)
theorem mk_threads (n : Nat) (h6 : n ≤ 6) (w : World) : Sem.run Tryz.prog (Instr.makeSlice 57 (.int .i64 n) (.int .i64 n)) w = .ok (.slice (some ⟨w.heap.size, 0, none⟩) n n) (w.alloc (.cells (zeros n) 90)) := by
  obtain ⟨i, hi, hz, hs, hb⟩ := info_parts info90
  have := run_make (P := Tryz.prog) w 57 90 i _ Tryz.underlying57 hi hz .i64 .i64 n n (by omega) (by omega) (by rw [hb]; omega) (by omega)
  rw [this]
  have e : madeCells (Value.agg #[.int .i64 0, .int .i64 0, .int .i64 0, .int .i64 0, .int .i64 0, .int .i64 0, .int .i64 0, .int .i64 0, .int .i64 0]).cells (((n : Int)).toNat * i.size) = zeros n := by
    rw [hs, Int.toNat_natCast]
    unfold madeCells zeros
    apply Array.ext
    · simp
    · intro j h1 h2
      simp [Value.cells]
      have hj : j % 9 < 9 := Nat.mod_lt _ (by omega)
      generalize j % 9 = r at hj
      match r, hj with
      | 0, _ | 1, _ | 2, _ | 3, _ | 4, _ | 5, _ | 6, _ | 7, _ | 8, _ => rfl
  rw [e]
  simp
theorem four (w : World) (o0 o1 o2 o3 : Obj) : ((((w.alloc o0).alloc o1).alloc o2).alloc o3).drew.heap[w.heap.size]? = some o0 ∧ ((((w.alloc o0).alloc o1).alloc o2).alloc o3).drew.heap[w.heap.size + 1]? = some o1 ∧
    ((((w.alloc o0).alloc o1).alloc o2).alloc o3).drew.heap[w.heap.size + 1 + 1]? = some o2 ∧ ((((w.alloc o0).alloc o1).alloc o2).alloc o3).drew.heap[w.heap.size + 1 + 1 + 1]? = some o3 := by
  have e0 := block_alloc_new w o0
  have e1 := block_alloc_new (w.alloc o0) o1
  have e2 := block_alloc_new ((w.alloc o0).alloc o1) o2
  have e3 := block_alloc_new (((w.alloc o0).alloc o1).alloc o2) o3
  simp only [World.size_alloc] at e1 e2 e3
  exact ⟨block_alloc_lt (block_alloc_lt (block_alloc_lt e0 _) _) _, block_alloc_lt (block_alloc_lt e1 _) _, block_alloc_lt e2 _, e3⟩
theorem RAt.mk0 {r tb n : Nat} {w : World} (h6 : n ≤ 6) (h1 : w.heap[r]? = some (.cells (rCells ⟨r, tb, n⟩ false) 59 (0, 0))) (h2 : w.heap[tb]? = some (.cells (zeros n) 90 (0, 0))) : RAt ⟨r, tb, n⟩ w false (fun _ => none) := by
  refine ⟨h6, h1, zeros n, h2, by simp [zeros], fun i hi => ?_⟩
  simp only [rThread, zeros]
  simp at hi
  rw [Array.getElem?_replicate, if_pos (by omega)]
set_option maxRecDepth 100000 in
set_option maxHeartbeats 4000000 in
theorem rnew_yes (n : Nat) (w : World) (h1 : 1 ≤ n) (h6 : n ≤ 6) : Calls Tryz.prog 11 #[.int .i64 n] w fun e w' => ∃ q : RM, e = .returned (.tuple #[.pointer (some ⟨q.r, 0, none⟩), .int .i64 0]) ∧
    q.n = n ∧ RAt q w' false (fun _ => none) ∧ w.heap.size ≤ q.tb ∧ w.heap.size ≤ q.r ∧ Kept [] w w' := by
  have h1' : ¬ (n : Int) < 1 := by omega
  have h6' : ¬ 6 < (n : Int) := by omega
  have hmk := mk_threads n h6
  go_enter Tryz.func11, Tryz.ntmps11
  go_wp2_with fail
  go_region_with (first | (go_at_call 24; refine (rnone _).mono ?_; rintro e w' ⟨rfl, rfl⟩; simp only [negTbl]))
  all_goals go_wp2
  all_goals go_ret2
  all_goals (have f4 := four w)
  · exact ⟨⟨_, _, n⟩, rfl, rfl, RAt.mk0 h6 (f4 _ _ _ _).2.2.2 (f4 _ _ _ _).2.2.1, by simp only []; omega, by simp only []; omega, (((((Kept.refl [] w).alloc _).alloc _).alloc _).alloc _).drew⟩
  · exact ⟨⟨_, _, n⟩, rfl, rfl, RAt.mk0 h6 (f4 _ _ _ _).2.2.2 (f4 _ _ _ _).2.1, by simp only []; omega, by simp only []; omega, (((((Kept.refl [] w).alloc _).alloc _).alloc _).alloc _).drew⟩
  · exact ⟨⟨_, _, n⟩, rfl, rfl, RAt.mk0 h6 (f4 _ _ _ _).2.2.2 (f4 _ _ _ _).1, Nat.le_refl _, by simp only []; omega, (((((Kept.refl [] w).alloc _).alloc _).alloc _).alloc _).drew⟩
end Go.Proofs.YtfgfpggjcfhccaaGreat
