import Derived.Test.YtfgfpggjcfhccaaGreatSm
import Derived.Deep.DeepCutAuto
namespace Go.Proofs.YtfgfpggjcfhccaaGreat
open Go.RowKit
theorem five (w : World) (o0 o1 o2 o3 o4 : Obj) :
    (((((w.alloc o0).alloc o1).alloc o2).alloc o3).alloc o4).drew.heap[w.heap.size]? = some o0 ∧
    (((((w.alloc o0).alloc o1).alloc o2).alloc o3).alloc o4).drew.heap[w.heap.size + 1]? = some o1 ∧
    (((((w.alloc o0).alloc o1).alloc o2).alloc o3).alloc o4).drew.heap[w.heap.size + 1 + 1]? = some o2 ∧
    (((((w.alloc o0).alloc o1).alloc o2).alloc o3).alloc o4).drew.heap[w.heap.size + 1 + 1 + 1]? = some o3 ∧
    (((((w.alloc o0).alloc o1).alloc o2).alloc o3).alloc o4).drew.heap[w.heap.size + 1 + 1 + 1 + 1]? = some o4 := by
  have e0 := block_alloc_new w o0
  have e1 := block_alloc_new (w.alloc o0) o1
  have e2 := block_alloc_new ((w.alloc o0).alloc o1) o2
  have e3 := block_alloc_new (((w.alloc o0).alloc o1).alloc o2) o3
  have e4 := block_alloc_new ((((w.alloc o0).alloc o1).alloc o2).alloc o3) o4
  simp only [World.size_alloc] at e1 e2 e3 e4
  exact ⟨block_alloc_lt (block_alloc_lt (block_alloc_lt (block_alloc_lt e0 _) _) _) _, block_alloc_lt (block_alloc_lt (block_alloc_lt e1 _) _) _, block_alloc_lt (block_alloc_lt e2 _) _, block_alloc_lt e3 _, e4⟩
theorem lt_of_cell {w : World} {b o : Nat} {v : Value} (h : w.cell? ⟨b, o, none⟩ = some v) : b < w.heap.size := by
  rcases Nat.lt_or_ge b w.heap.size with h' | h'
  · exact h'
  · simp [World.cell?, Array.getElem?_eq_none h'] at h
def tblVal : Value := .agg #[.pointer none, .pointer none, .pointer none, .pointer none, .pointer none, .pointer none, .pointer none, .pointer none]
theorem nth_nil8 (k : Nat) (hk7 : k < 8) : #[Value.pointer none, .pointer none, .pointer none, .pointer none, .pointer none, .pointer none, .pointer none, .pointer none][k]? = some (.pointer none) := by
  match k, hk7 with
  | 0, _ | 1, _ | 2, _ | 3, _ | 4, _ | 5, _ | 6, _ | 7, _ => rfl
theorem idx_nil0 (w : World) : Sem.run Tryz.prog (Instr.index 99 (Value.agg #[Value.pointer none, .pointer none, .pointer none, .pointer none, .pointer none, .pointer none, .pointer none, .pointer none]) (Value.int IntKind.i64 (((0 : Nat) : Int)))) w = .ok (.pointer none) w := by kernel_rfl
theorem idx_nil1 (w : World) : Sem.run Tryz.prog (Instr.index 99 (Value.agg #[Value.pointer none, .pointer none, .pointer none, .pointer none, .pointer none, .pointer none, .pointer none, .pointer none]) (Value.int IntKind.i64 (((1 : Nat) : Int)))) w = .ok (.pointer none) w := by kernel_rfl
theorem idx_nil2 (w : World) : Sem.run Tryz.prog (Instr.index 99 (Value.agg #[Value.pointer none, .pointer none, .pointer none, .pointer none, .pointer none, .pointer none, .pointer none, .pointer none]) (Value.int IntKind.i64 (((2 : Nat) : Int)))) w = .ok (.pointer none) w := by kernel_rfl
theorem idx_nil3 (w : World) : Sem.run Tryz.prog (Instr.index 99 (Value.agg #[Value.pointer none, .pointer none, .pointer none, .pointer none, .pointer none, .pointer none, .pointer none, .pointer none]) (Value.int IntKind.i64 (((3 : Nat) : Int)))) w = .ok (.pointer none) w := by kernel_rfl
theorem idx_nil4 (w : World) : Sem.run Tryz.prog (Instr.index 99 (Value.agg #[Value.pointer none, .pointer none, .pointer none, .pointer none, .pointer none, .pointer none, .pointer none, .pointer none]) (Value.int IntKind.i64 (((4 : Nat) : Int)))) w = .ok (.pointer none) w := by kernel_rfl
theorem idx_nil5 (w : World) : Sem.run Tryz.prog (Instr.index 99 (Value.agg #[Value.pointer none, .pointer none, .pointer none, .pointer none, .pointer none, .pointer none, .pointer none, .pointer none]) (Value.int IntKind.i64 (((5 : Nat) : Int)))) w = .ok (.pointer none) w := by kernel_rfl
theorem idx_nil6 (w : World) : Sem.run Tryz.prog (Instr.index 99 (Value.agg #[Value.pointer none, .pointer none, .pointer none, .pointer none, .pointer none, .pointer none, .pointer none, .pointer none]) (Value.int IntKind.i64 (((6 : Nat) : Int)))) w = .ok (.pointer none) w := by kernel_rfl
theorem idx_nil7 (w : World) : Sem.run Tryz.prog (Instr.index 99 (Value.agg #[Value.pointer none, .pointer none, .pointer none, .pointer none, .pointer none, .pointer none, .pointer none, .pointer none]) (Value.int IntKind.i64 (((7 : Nat) : Int)))) w = .ok (.pointer none) w := by kernel_rfl
theorem idx_nil (k : Nat) (hk : k < 8) (w : World) : Sem.run Tryz.prog (Instr.index 99 (Value.agg #[Value.pointer none, .pointer none, .pointer none, .pointer none, .pointer none, .pointer none, .pointer none, .pointer none]) (Value.int IntKind.i64 k)) w = .ok (.pointer none) w := by
  have h : k = 0 ∨ k = 1 ∨ k = 2 ∨ k = 3 ∨ k = 4 ∨ k = 5 ∨ k = 6 ∨ k = 7 := by omega
  rcases h with rfl | rfl | rfl | rfl | rfl | rfl | rfl | rfl
  · exact idx_nil0 w
  · exact idx_nil1 w
  · exact idx_nil2 w
  · exact idx_nil3 w
  · exact idx_nil4 w
  · exact idx_nil5 w
  · exact idx_nil6 w
  · exact idx_nil7 w
set_option maxRecDepth 100000 in
set_option maxHeartbeats 800000 in
theorem count0 (w : World) : Calls Tryz.prog 66 #[tblVal] w fun e w' => e = .returned (.int .i64 0) ∧ w' = w.alloc (.cells #[.pointer none, .pointer none, .pointer none, .pointer none, .pointer none, .pointer none, .pointer none, .pointer none] 99) := by
  simp only [tblVal]
  go_enter Tryz.func66, Tryz.ntmps66
  go_wp2
  go_loop [3, 7] (fun n i => ∃ k : Nat, k ≤ 8 ∧ i = .int .i64 k ∧ n = .int .i64 0) (fun _ i => 8 - (intOf i).toNat)
  case atStart => exact ⟨0, by omega, rfl, rfl⟩
  case round =>
    obtain ⟨k, hk, rfl, rfl⟩ := hrel
    by_cases hlt : k < 8
    · have hn := idx_nil k hlt
      go_wp2
      go_round
      case rel => exact ⟨k + 1, by omega, by go_num, rfl⟩
      case measure => simp [intOf]; omega
    · go_wp2
      go_ret
      exact ⟨rfl, rfl⟩
theorem info84 : ∃ i, Tryz.prog.info? 84 = some i ∧ i.bytes = 24 ∧ i.size = 3 ∧ i.zero = some (.agg #[.int .i64 0, .int .i64 0, .int .i64 0]) := by
  have h : (Tryz.prog.info? 84).map (fun i => (i.bytes, i.size, i.zero)) = some (24, 3, some (.agg #[.int .i64 0, .int .i64 0, .int .i64 0])) := by kernel_rfl
  obtain ⟨i, hi, hb⟩ := Option.map_eq_some_iff.1 h
  simp only [Prod.mk.injEq] at hb
  exact ⟨i, hi, hb.1, hb.2.1, hb.2.2⟩
theorem mk_entries (w : World) : Sem.run Tryz.prog (Instr.makeSlice 25 (.int .i64 0) (.int .i64 0)) w = .ok (.slice (some ⟨w.heap.size, 0, none⟩) 0 0) (w.alloc (.cells #[] 84)) := by
  obtain ⟨i, hi, hb, hs, hz⟩ := info84
  have := run_make (P := Tryz.prog) w 25 84 i _ Tryz.underlying25 hi hz .i64 .i64 0 0 (by omega) (by omega) (by rw [hb]; omega) (by omega)
  rw [this]
  have e : ∀ f : Nat → Value, Array.map f (Array.range 0) = #[] := fun f => Array.eq_empty_of_size_eq_zero (by simp)
  simp only [Int.toNat_zero, Nat.zero_mul, madeCells, e]
set_option maxRecDepth 100000 in
set_option maxHeartbeats 800000 in
theorem list0 (w : World) : Calls Tryz.prog 47 #[tblVal] w fun e w' => e = .returned (.slice (some ⟨w.heap.size + 2, 0, none⟩) 0 0) ∧ w' = ((w.alloc (.cells #[.pointer none, .pointer none, .pointer none, .pointer none, .pointer none, .pointer none, .pointer none, .pointer none] 99)).alloc (.cells #[.pointer none, .pointer none, .pointer none, .pointer none, .pointer none, .pointer none, .pointer none, .pointer none] 99)).alloc (.cells #[] 84) := by
  simp only [tblVal]
  go_enter Tryz.func47, Tryz.ntmps47
  go_wp2_with fail
  refine (count0 _).mono ?_
  rintro e w1 ⟨rfl, rfl⟩
  have hmk := mk_entries ((w.alloc (.cells #[.pointer none, .pointer none, .pointer none, .pointer none, .pointer none, .pointer none, .pointer none, .pointer none] 99)).alloc (.cells #[.pointer none, .pointer none, .pointer none, .pointer none, .pointer none, .pointer none, .pointer none, .pointer none] 99))
  simp only [World.size_alloc, Nat.reduceAdd, Nat.add_assoc] at hmk
  go_wp2
  go_loop [3, 11] (fun x i => ∃ k : Nat, k ≤ 8 ∧ i = .int .i64 k ∧ x = .slice (some ⟨w.heap.size + 2, 0, none⟩) 0 0) (fun _ i => 8 - (intOf i).toNat)
  case atStart => exact ⟨0, by omega, rfl, rfl⟩
  case round =>
    obtain ⟨k, hk, rfl, rfl⟩ := hrel
    by_cases hlt : k < 8
    · have hn := idx_nil k hlt
      go_wp2
      go_round
      case rel => exact ⟨k + 1, by omega, by go_num, rfl⟩
      case measure => simp [intOf]; omega
    · go_wp2
      go_ret
      exact ⟨rfl, rfl⟩
set_option maxHeartbeats 400000 in
theorem lookInt (b o : Nat) (n : Int) (w : World) (h : w.cell? ⟨b, o, none⟩ = some (.int .i64 n)) :
    Calls Tryz.prog 48 #[.pointer (some ⟨b, o, none⟩)] w fun e w' => e = .returned (.int .i64 n) ∧ w' = w := by
  go_enter Tryz.func48, Tryz.ntmps48
  go_wp2
  go_ret
  exact ⟨rfl, rfl⟩
/-- A list of nothing, in memory of its own. -/
def nilList (w : World) (B : Nat) (x : Value) : Prop := ∃ b, x = .slice (some ⟨b, 0, none⟩) 0 0 ∧ w.heap[b]? = some (.cells #[] 84 (0, 0)) ∧ B ≤ b
theorem nilList.kept {w w' : World} {B : Nat} {x : Value} (h : nilList w B x) (k : Kept [] w w') : nilList w' B x := by
  obtain ⟨b, h1, h2, h3⟩ := h
  exact ⟨b, h1, k.at h2 (by simp), h3⟩
theorem nilList.mono {w : World} {B B' : Nat} {x : Value} (h : nilList w B x) (hB : B' ≤ B) : nilList w B' x := by
  obtain ⟨b, h1, h2, h3⟩ := h
  exact ⟨b, h1, h2, by omega⟩
set_option maxRecDepth 100000 in
set_option maxHeartbeats 800000 in
theorem lookReadX (s : Nat) (w : World) (hc : ∀ o, w.cell? ⟨s, o, none⟩ = shCells[o]?) :
    Calls Tryz.prog 45 #[.pointer (some ⟨s, 0, none⟩)] w fun e w' => e = .returned (.agg #[.pointer none, .pointer none, .pointer none, .pointer none, .pointer none, .pointer none, .pointer none, .pointer none, .bool false]) ∧ w' = w.alloc (.cells #[.pointer none, .pointer none, .pointer none, .pointer none, .pointer none, .pointer none, .pointer none, .pointer none, .bool false] 101) := by
  have hs : s < w.heap.size := lt_of_cell (hc 0)
  simp only [shCells] at hc
  go_enter Tryz.func45, Tryz.ntmps45
  go_wp2
  exact bodyPost_ret (v := .agg #[.pointer none, .pointer none, .pointer none, .pointer none, .pointer none, .pointer none, .pointer none, .pointer none, .bool false]) (by simp [results, Tryz.results45, go_sem]) rfl ⟨rfl, rfl⟩
set_option maxRecDepth 100000 in
set_option maxHeartbeats 800000 in
theorem lookDirtyX (s : Nat) (w : World) (hc : ∀ o, w.cell? ⟨s, o, none⟩ = shCells[o]?) :
    Calls Tryz.prog 46 #[.pointer (some ⟨s, 9, none⟩)] w fun e w' => e = .returned (.agg #[.pointer none, .pointer none, .pointer none, .pointer none, .pointer none, .pointer none, .pointer none, .pointer none, .bool false]) ∧ w' = w.alloc (.cells #[.pointer none, .pointer none, .pointer none, .pointer none, .pointer none, .pointer none, .pointer none, .pointer none, .bool false] 105) := by
  have hs : s < w.heap.size := lt_of_cell (hc 0)
  simp only [shCells] at hc
  go_enter Tryz.func46, Tryz.ntmps46
  go_wp2
  exact bodyPost_ret (v := .agg #[.pointer none, .pointer none, .pointer none, .pointer none, .pointer none, .pointer none, .pointer none, .pointer none, .bool false]) (by simp [results, Tryz.results46, go_sem]) rfl ⟨rfl, rfl⟩
end Go.Proofs.YtfgfpggjcfhccaaGreat
