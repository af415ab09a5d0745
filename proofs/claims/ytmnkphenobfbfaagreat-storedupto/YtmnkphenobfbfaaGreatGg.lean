import Derived.Test.YtmnkphenobfbfaaGreatGc
import Derived.Test.YtmnkphenobfbfaaGreatGf
namespace Go.Proofs.YtmnkphenobfbfaaGreat
open Go.RowKit
set_option maxRecDepth 100000 in
set_option maxHeartbeats 800000 in
theorem rnone (w : World) : Calls Tryz.prog 25 #[] w fun e w' => e = .returned negTbl ∧ w' = w.alloc (.cells #[.int .i64 (-1), .int .i64 (-1), .int .i64 (-1), .int .i64 (-1), .int .i64 (-1), .int .i64 (-1), .int .i64 (-1), .int .i64 (-1)] 56) := by
  go_enter Tryz.func25, Tryz.ntmps25
  go_wp2
  exact bodyPost_ret (v := negTbl) (by simp [results, Tryz.results25, go_sem, negTbl]) rfl ⟨rfl, rfl⟩
set_option maxHeartbeats 800000 in
theorem rnew_no (n : Int) (w : World) (h : n < 1 ∨ 6 < n) : Calls Tryz.prog 12 #[.int .i64 n] w fun e w' => e = .returned (.tuple #[.pointer none, .int .i64 1]) ∧ w' = w := by
  by_cases h1 : n < 1
  · go_enter Tryz.func12, Tryz.ntmps12
    go_wp2
    go_ret2
    exact ⟨rfl, rfl⟩
  · have h2 : 6 < n := by omega
    go_enter Tryz.func12, Tryz.ntmps12
    go_wp2
    go_ret2
    exact ⟨rfl, rfl⟩
theorem info90 : (Tryz.prog.info? 90).map (fun i => (i.zero, i.size, i.bytes)) = some (some (.agg #[.int .i64 0, .int .i64 0, .int .i64 0, .int .i64 0, .int .i64 0, .int .i64 0, .int .i64 0, .int .i64 0, .int .i64 0]), 9, 72) := by kernel_rfl
def zeros (n : Nat) : Array Value := Array.replicate (n * 9) (.int .i64 0)
theorem mk_threads (n : Nat) (h6 : n ≤ 6) (w : World) : Sem.run Tryz.prog (Instr.makeSlice 57 (.int .i64 n) (.int .i64 n)) w = .ok (.slice (some ⟨w.heap.size, 0, none⟩) n n) (w.alloc (.cells (zeros n) 90)) := by
  obtain ⟨i, hi, hz, hs, hb⟩ := info_parts info90
  have := run_make (P := Tryz.prog) w 57 90 i _ Tryz.underlying57 hi hz .i64 .i64 n n (by omega) (by omega) (by rw [hb]; omega) (by omega)
  rw [this]
  have e : madeCells (Value.agg #[.int .i64 0, .int .i64 0, .int .i64 0, .int .i64 0, .int .i64 0, .int .i64 0, .int .i64 0, .int .i64 0, .int .i64 0]).cells (((n : Int)).toNat * i.size) = zeros n := by
    rw [hs, Int.toNat_natCast]
    unfold madeCells zeros
    apply Array.ext
    · simp
    · intro j h1 h2
      simp [Value.cells]
      have hj : j % 9 < 9 := Nat.mod_lt _ (by omega)
      generalize j % 9 = r at hj
      match r, hj with
      | 0, _ | 1, _ | 2, _ | 3, _ | 4, _ | 5, _ | 6, _ | 7, _ | 8, _ => rfl
  rw [e]
  simp
theorem four (w : World) (o0 o1 o2 o3 : Obj) : ((((w.alloc o0).alloc o1).alloc o2).alloc o3).drew.heap[w.heap.size]? = some o0 ∧ ((((w.alloc o0).alloc o1).alloc o2).alloc o3).drew.heap[w.heap.size + 1]? = some o1 ∧
    ((((w.alloc o0).alloc o1).alloc o2).alloc o3).drew.heap[w.heap.size + 1 + 1]? = some o2 ∧ ((((w.alloc o0).alloc o1).alloc o2).alloc o3).drew.heap[w.heap.size + 1 + 1 + 1]? = some o3 := by
  have e0 := block_alloc_new w o0
  have e1 := block_alloc_new (w.alloc o0) o1
  have e2 := block_alloc_new ((w.alloc o0).alloc o1) o2
  have e3 := block_alloc_new (((w.alloc o0).alloc o1).alloc o2) o3
  simp only [World.size_alloc] at e1 e2 e3
  exact ⟨block_alloc_lt (block_alloc_lt (block_alloc_lt e0 _) _) _, block_alloc_lt (block_alloc_lt e1 _) _, block_alloc_lt e2 _, e3⟩
theorem RAt.mk0 {r tb n : Nat} {w : World} (h6 : n ≤ 6) (h1 : w.heap[r]? = some (.cells (rCells ⟨r, tb, n⟩ false) 59 (0, 0))) (h2 : w.heap[tb]? = some (.cells (zeros n) 90 (0, 0))) : RAt ⟨r, tb, n⟩ w false (fun _ => none) := by
  refine ⟨h6, h1, zeros n, h2, by simp [zeros], fun i hi => ?_⟩
  simp only [rThread, zeros]
  simp at hi
  rw [Array.getElem?_replicate, if_pos (by omega)]
set_option maxRecDepth 100000 in
set_option maxHeartbeats 4000000 in
theorem rnew_yes (n : Nat) (w : World) (h1 : 1 ≤ n) (h6 : n ≤ 6) : Calls Tryz.prog 12 #[.int .i64 n] w fun e w' => ∃ q : RM, e = .returned (.tuple #[.pointer (some ⟨q.r, 0, none⟩), .int .i64 0]) ∧
    q.n = n ∧ RAt q w' false (fun _ => none) ∧ w.heap.size ≤ q.tb ∧ w.heap.size ≤ q.r ∧ Kept [] w w' := by
  have h1' : ¬ (n : Int) < 1 := by omega
  have h6' : ¬ 6 < (n : Int) := by omega
  have hmk := mk_threads n h6
  go_enter Tryz.func12, Tryz.ntmps12
  go_wp2_with fail
  go_region_with (first | (go_at_call 25; refine (rnone _).mono ?_; rintro e w' ⟨rfl, rfl⟩; simp only [negTbl]))
  all_goals go_wp2
  all_goals go_ret2
  all_goals (have f4 := four w)
  · exact ⟨⟨_, _, n⟩, rfl, rfl, RAt.mk0 h6 (f4 _ _ _ _).2.2.2 (f4 _ _ _ _).2.2.1, by simp only []; omega, by simp only []; omega, (((((Kept.refl [] w).alloc _).alloc _).alloc _).alloc _).drew⟩
  · exact ⟨⟨_, _, n⟩, rfl, rfl, RAt.mk0 h6 (f4 _ _ _ _).2.2.2 (f4 _ _ _ _).2.1, by simp only []; omega, by simp only []; omega, (((((Kept.refl [] w).alloc _).alloc _).alloc _).alloc _).drew⟩
  · exact ⟨⟨_, _, n⟩, rfl, rfl, RAt.mk0 h6 (f4 _ _ _ _).2.2.2 (f4 _ _ _ _).1, Nat.le_refl _, by simp only []; omega, (((((Kept.refl [] w).alloc _).alloc _).alloc _).alloc _).drew⟩
end Go.Proofs.YtmnkphenobfbfaaGreat
namespace Go.Proofs.YtmnkphenobfbfaaGreat
open Go.RowKit
set_option maxHeartbeats 800000 in
theorem open_no (n : Int) (w : World) (h : n < 1 ∨ 6 < n) : Calls Tryz.prog 7 #[.int .i64 n] w fun e w' => e = .returned (.tuple #[.pointer none, .bool true]) ∧ w' = w := by
  go_enter Tryz.func7, Tryz.ntmps7
  go_wp2_with fail
  refine (new_no n w h).mono ?_
  rintro e w' ⟨rfl, rfl⟩
  go_wp2_with fail
  refine (rnew_no n w' h).mono ?_
  rintro e w' ⟨rfl, rfl⟩
  clear h
  go_wp2
  go_ret2
  exact ⟨rfl, rfl⟩
set_option maxHeartbeats 800000 in
theorem open_yes (n : Nat) (w : World) (h1 : 1 ≤ n) (h6 : n ≤ 6) : Calls Tryz.prog 7 #[.int .i64 n] w fun e w' => ∃ b p q, e = .returned (.tuple #[.pointer (some ⟨b, 0, none⟩), .bool true]) ∧
    p.ts.length = n ∧ Two b p q w' false (fun _ => none) ∧ Kept [] w w' ∧ w.heap.size ≤ b ∧ (∀ x, x ∈ p.m :: p.c :: q.r :: q.tb :: p.ts → w.heap.size ≤ x) := by
  go_enter Tryz.func7, Tryz.ntmps7
  go_wp2_with fail
  refine (new_yes n w h1 h6).mono ?_
  rintro e w1 ⟨p, rfl, hl, hp, hz, hzc, hnew, k1⟩
  go_wp2_with fail
  refine (rnew_yes n w1 h1 h6).mono ?_
  rintro e w2 ⟨q, rfl, hq, hr, hzq, hzr, k2⟩
  have hp2 := hp.keptNil k2
  have k3 := k1.trans k2
  have hfresh : ∀ x, x ∈ p.m :: p.c :: q.r :: q.tb :: p.ts → w.heap.size ≤ x := by
    intro x hx
    have := k1.size
    simp only [List.mem_cons] at hx
    rcases hx with rfl | rfl | rfl | rfl | hx
    · exact hz
    · exact hzc
    · omega
    · omega
    · exact hnew x hx
  have HH : Hid _ := And.intro hl (And.intro hq hfresh)
  clear hl hq hfresh hnew hz hzq hzc hzr
  go_wp2
  go_ret2
  obtain ⟨hl, hq, hfresh⟩ := HH.out
  exact ⟨_, p, q, rfl, hl, ⟨hq.trans hl.symm, block_alloc_new _ _, hp2.alloc _, hr.alloc _⟩, k3.alloc _, k3.size, hfresh⟩
set_option maxRecDepth 100000 in
set_option maxHeartbeats 2000000 in
theorem opened_no (n : Int) (w : World) (h : n < 1 ∨ 6 < n) : Calls Tryz.prog 3 #[.int .i64 n] w fun e w' => e = .returned (.bool true) ∧ Kept [] w w' := by
  go_enter Tryz.func3, Tryz.ntmps3
  go_wp2_with fail
  refine (open_yes 2 w (by omega) (by omega)).mono ?_
  rintro e w1 ⟨b, p, q, rfl, -, -, k1, -, -⟩
  go_wp2_with fail
  refine (open_no n w1 h).mono ?_
  rintro e w2 ⟨rfl, rfl⟩
  clear h
  go_wp2
  go_ret
  exact ⟨rfl, k1⟩
set_option maxRecDepth 100000 in
set_option maxHeartbeats 2000000 in
theorem opened_yes (n : Nat) (w : World) (h1 : 1 ≤ n) (h6 : n ≤ 6) : Calls Tryz.prog 3 #[.int .i64 n] w fun e w' => e = .returned (.bool true) ∧ Kept [] w w' := by
  go_enter Tryz.func3, Tryz.ntmps3
  go_wp2_with fail
  refine (open_yes 2 w (by omega) (by omega)).mono ?_
  rintro e w1 ⟨b, p, q, rfl, -, -, k1, -, -⟩
  go_wp2_with fail
  refine (open_yes n w1 h1 h6).mono ?_
  rintro e w2 ⟨b, p, q, rfl, -, hT, k2, hzb, hzp⟩
  go_wp2_with fail
  refine (seen_any b p q false w2 _ hT).mono ?_
  rintro e w3 ⟨b1, b2, rfl, -, -, -, -, hT3, k3⟩
  have hf : ∀ x, x ∈ p.m :: q.tb :: p.ts → w.heap.size ≤ x := fun x hx => Nat.le_trans k1.size (hzp x (by simp only [List.mem_cons] at hx ⊢; rcases hx with hx | hx | hx; exact .inl hx; exact .inr (.inr (.inr (.inl hx))); exact .inr (.inr (.inr (.inr hx)))))
  have K0 : Kept [] w w3 := (k1.trans k2).drop k3 (fun x hx hlt => by have := hf p.m (by simp); simp at hx; omega)
  have HF : Hid _ := hf
  clear k1 k2 k3 hT hf hzp hzb
  go_wp2_with fail
  go_loopw [4, 6] (fun ok x W => ∃ k : Nat, k ≤ 9 ∧ x = .int .i64 ((k : Int) - 1) ∧ ok = .bool true ∧ ∃ th, KeysOk th ∧ Two b p q W false th ∧ Kept [] w W) (fun _ x _ => (8 - intOf x).toNat)
  case atStart => exact ⟨0, by omega, rfl, rfl, fun _ => none, (fun i k v o hh => by cases hh), hT3, K0⟩
  case round =>
    obtain ⟨k, hk, rfl, rfl, th, hth, hT, hK⟩ := hrel
    clear hT3 K0
    by_cases hlt : k < 9
    · have hlt' : (k : Int) - 1 < 8 := by omega
      have hlo : -1 ≤ (k : Int) - 1 := by omega
      go_wp2_with fail
      refine (does_step b p q false 0 ((k : Int) - 1) 0 0 0 0 _ th hT hth).mono ?_
      rintro e w4 ⟨rfl, hT4, k4⟩
      have K4 : Kept [] w w4 := hK.drop k4 (fun x hx hlt => by have := HF.out x hx; omega)
      clear hT hK k4
      go_wp2
      go_roundw
      case rel => exact ⟨k + 1, by omega, by go_num, rfl, _, keys_stepT hth, hT4, K4⟩
      case measure => simp [intOf]; omega
    · have hge : ¬ (k : Int) - 1 < 8 := by omega
      go_wp2
      go_ret
      exact ⟨rfl, hK⟩
end Go.Proofs.YtmnkphenobfbfaaGreat
