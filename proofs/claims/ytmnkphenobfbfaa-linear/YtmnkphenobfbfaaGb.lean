import Derived.Deep.RegionHeld3
import Derived.RegionTactic
import Derived.Test.YtmnkphenobfbfaaGa
import Derived.Deep.DeepCutAuto
namespace Go.Proofs.Ytmnkphenobfbfaa
open Go.RowKit
theorem five (w : World) (o0 o1 o2 o3 o4 : Obj) :
    (((((w.alloc o0).alloc o1).alloc o2).alloc o3).alloc o4).drew.heap[w.heap.size]? = some o0 ∧
    (((((w.alloc o0).alloc o1).alloc o2).alloc o3).alloc o4).drew.heap[w.heap.size + 1]? = some o1 ∧
    (((((w.alloc o0).alloc o1).alloc o2).alloc o3).alloc o4).drew.heap[w.heap.size + 1 + 1]? = some o2 ∧
    (((((w.alloc o0).alloc o1).alloc o2).alloc o3).alloc o4).drew.heap[w.heap.size + 1 + 1 + 1]? = some o3 ∧
    (((((w.alloc o0).alloc o1).alloc o2).alloc o3).alloc o4).drew.heap[w.heap.size + 1 + 1 + 1 + 1]? = some o4 := by
  have e0 := block_alloc_new w o0
  have e1 := block_alloc_new (w.alloc o0) o1
  have e2 := block_alloc_new ((w.alloc o0).alloc o1) o2
  have e3 := block_alloc_new (((w.alloc o0).alloc o1).alloc o2) o3
  have e4 := block_alloc_new ((((w.alloc o0).alloc o1).alloc o2).alloc o3) o4
  simp only [World.size_alloc] at e1 e2 e3 e4
  exact ⟨block_alloc_lt (block_alloc_lt (block_alloc_lt (block_alloc_lt e0 _) _) _) _, block_alloc_lt (block_alloc_lt (block_alloc_lt e1 _) _) _, block_alloc_lt (block_alloc_lt e2 _) _, block_alloc_lt e3 _, e4⟩
theorem lt_of_cell {w : World} {b o : Nat} {v : Value} (h : w.cell? ⟨b, o, none⟩ = some v) : b < w.heap.size := by
  rcases Nat.lt_or_ge b w.heap.size with h' | h'
  · exact h'
  · simp [World.cell?, Array.getElem?_eq_none h'] at h
def tblVal : Value := .agg #[.pointer none, .pointer none, .pointer none, .pointer none, .pointer none, .pointer none, .pointer none, .pointer none]
theorem nth_nil8 (k : Nat) (hk7 : k < 8) : #[Value.pointer none, .pointer none, .pointer none, .pointer none, .pointer none, .pointer none, .pointer none, .pointer none][k]? = some (.pointer none) := by
  match k, hk7 with
  | 0, _ | 1, _ | 2, _ | 3, _ | 4, _ | 5, _ | 6, _ | 7, _ => rfl
theorem idx_nil0 (w : World) : Sem.run Try.prog (Instr.index 85 (Value.agg #[Value.pointer none, .pointer none, .pointer none, .pointer none, .pointer none, .pointer none, .pointer none, .pointer none]) (Value.int IntKind.i64 (((0 : Nat) : Int)))) w = .ok (.pointer none) w := by kernel_rfl
theorem idx_nil1 (w : World) : Sem.run Try.prog (Instr.index 85 (Value.agg #[Value.pointer none, .pointer none, .pointer none, .pointer none, .pointer none, .pointer none, .pointer none, .pointer none]) (Value.int IntKind.i64 (((1 : Nat) : Int)))) w = .ok (.pointer none) w := by kernel_rfl
theorem idx_nil2 (w : World) : Sem.run Try.prog (Instr.index 85 (Value.agg #[Value.pointer none, .pointer none, .pointer none, .pointer none, .pointer none, .pointer none, .pointer none, .pointer none]) (Value.int IntKind.i64 (((2 : Nat) : Int)))) w = .ok (.pointer none) w := by kernel_rfl
theorem idx_nil3 (w : World) : Sem.run Try.prog (Instr.index 85 (Value.agg #[Value.pointer none, .pointer none, .pointer none, .pointer none, .pointer none, .pointer none, .pointer none, .pointer none]) (Value.int IntKind.i64 (((3 : Nat) : Int)))) w = .ok (.pointer none) w := by kernel_rfl
theorem idx_nil4 (w : World) : Sem.run Try.prog (Instr.index 85 (Value.agg #[Value.pointer none, .pointer none, .pointer none, .pointer none, .pointer none, .pointer none, .pointer none, .pointer none]) (Value.int IntKind.i64 (((4 : Nat) : Int)))) w = .ok (.pointer none) w := by kernel_rfl
theorem idx_nil5 (w : World) : Sem.run Try.prog (Instr.index 85 (Value.agg #[Value.pointer none, .pointer none, .pointer none, .pointer none, .pointer none, .pointer none, .pointer none, .pointer none]) (Value.int IntKind.i64 (((5 : Nat) : Int)))) w = .ok (.pointer none) w := by kernel_rfl
theorem idx_nil6 (w : World) : Sem.run Try.prog (Instr.index 85 (Value.agg #[Value.pointer none, .pointer none, .pointer none, .pointer none, .pointer none, .pointer none, .pointer none, .pointer none]) (Value.int IntKind.i64 (((6 : Nat) : Int)))) w = .ok (.pointer none) w := by kernel_rfl
theorem idx_nil7 (w : World) : Sem.run Try.prog (Instr.index 85 (Value.agg #[Value.pointer none, .pointer none, .pointer none, .pointer none, .pointer none, .pointer none, .pointer none, .pointer none]) (Value.int IntKind.i64 (((7 : Nat) : Int)))) w = .ok (.pointer none) w := by kernel_rfl
theorem idx_nil (k : Nat) (hk : k < 8) (w : World) : Sem.run Try.prog (Instr.index 85 (Value.agg #[Value.pointer none, .pointer none, .pointer none, .pointer none, .pointer none, .pointer none, .pointer none, .pointer none]) (Value.int IntKind.i64 k)) w = .ok (.pointer none) w := by
  have h : k = 0 ∨ k = 1 ∨ k = 2 ∨ k = 3 ∨ k = 4 ∨ k = 5 ∨ k = 6 ∨ k = 7 := by omega
  rcases h with rfl | rfl | rfl | rfl | rfl | rfl | rfl | rfl
  · exact idx_nil0 w
  · exact idx_nil1 w
  · exact idx_nil2 w
  · exact idx_nil3 w
  · exact idx_nil4 w
  · exact idx_nil5 w
  · exact idx_nil6 w
  · exact idx_nil7 w
set_option maxRecDepth 100000 in
set_option maxHeartbeats 800000 in
theorem count0 (w : World) : Calls Try.prog 52 #[tblVal] w fun e w' => e = .returned (.int .i64 0) ∧ w' = w.alloc (.cells #[.pointer none, .pointer none, .pointer none, .pointer none, .pointer none, .pointer none, .pointer none, .pointer none] 85) := by
  simp only [tblVal]
  go_enter Try.func52, Try.ntmps52
  go_wp2
  go_loop [3, 7] (fun n i => ∃ k : Nat, k ≤ 8 ∧ i = .int .i64 k ∧ n = .int .i64 0) (fun _ i => 8 - (intOf i).toNat)
  case atStart => exact ⟨0, by omega, rfl, rfl⟩
  case round =>
    obtain ⟨k, hk, rfl, rfl⟩ := hrel
    by_cases hlt : k < 8
    · have hn := idx_nil k hlt
      go_wp2
      go_round
      case rel => exact ⟨k + 1, by omega, by go_num, rfl⟩
      case measure => simp [intOf]; omega
    · go_wp2
      go_ret
      exact ⟨rfl, rfl⟩
theorem info84 : ∃ i, Try.prog.info? 38 = some i ∧ i.bytes = 24 ∧ i.size = 3 ∧ i.zero = some (.agg #[.int .i64 0, .int .i64 0, .int .i64 0]) := by
  have h : (Try.prog.info? 38).map (fun i => (i.bytes, i.size, i.zero)) = some (24, 3, some (.agg #[.int .i64 0, .int .i64 0, .int .i64 0])) := by kernel_rfl
  obtain ⟨i, hi, hb⟩ := Option.map_eq_some_iff.1 h
  simp only [Prod.mk.injEq] at hb
  exact ⟨i, hi, hb.1, hb.2.1, hb.2.2⟩
theorem mk_entries (w : World) : Sem.run Try.prog (Instr.makeSlice 33 (.int .i64 0) (.int .i64 0)) w = .ok (.slice (some ⟨w.heap.size, 0, none⟩) 0 0) (w.alloc (.cells #[] 38)) := by
  obtain ⟨i, hi, hb, hs, hz⟩ := info84
  have := run_make (P := Try.prog) w 33 38 i _ Try.underlying33 hi hz .i64 .i64 0 0 (by omega) (by omega) (by rw [hb]; omega) (by omega)
  rw [this]
  have e : ∀ f : Nat → Value, Array.map f (Array.range 0) = #[] := fun f => Array.eq_empty_of_size_eq_zero (by simp)
  simp only [Int.toNat_zero, Nat.zero_mul, madeCells, e]
set_option maxRecDepth 100000 in
set_option maxHeartbeats 800000 in
theorem list0 (w : World) : Calls Try.prog 40 #[tblVal] w fun e w' => e = .returned (.slice (some ⟨w.heap.size + 2, 0, none⟩) 0 0) ∧ w' = ((w.alloc (.cells #[.pointer none, .pointer none, .pointer none, .pointer none, .pointer none, .pointer none, .pointer none, .pointer none] 85)).alloc (.cells #[.pointer none, .pointer none, .pointer none, .pointer none, .pointer none, .pointer none, .pointer none, .pointer none] 85)).alloc (.cells #[] 38) := by
  simp only [tblVal]
  go_enter Try.func40, Try.ntmps40
  go_wp2_with fail
  refine (count0 _).mono ?_
  rintro e w1 ⟨rfl, rfl⟩
  have hmk := mk_entries ((w.alloc (.cells #[.pointer none, .pointer none, .pointer none, .pointer none, .pointer none, .pointer none, .pointer none, .pointer none] 85)).alloc (.cells #[.pointer none, .pointer none, .pointer none, .pointer none, .pointer none, .pointer none, .pointer none, .pointer none] 85))
  simp only [World.size_alloc, Nat.reduceAdd, Nat.add_assoc] at hmk
  go_wp2
  go_loop [3, 11] (fun x i => ∃ k : Nat, k ≤ 8 ∧ i = .int .i64 k ∧ x = .slice (some ⟨w.heap.size + 2, 0, none⟩) 0 0) (fun _ i => 8 - (intOf i).toNat)
  case atStart => exact ⟨0, by omega, rfl, rfl⟩
  case round =>
    obtain ⟨k, hk, rfl, rfl⟩ := hrel
    by_cases hlt : k < 8
    · have hn := idx_nil k hlt
      go_wp2
      go_round
      case rel => exact ⟨k + 1, by omega, by go_num, rfl⟩
      case measure => simp [intOf]; omega
    · go_wp2
      go_ret
      exact ⟨rfl, rfl⟩
set_option maxHeartbeats 400000 in
theorem lookInt (b o : Nat) (n : Int) (w : World) (h : w.cell? ⟨b, o, none⟩ = some (.int .i64 n)) :
    Calls Try.prog 41 #[.pointer (some ⟨b, o, none⟩)] w fun e w' => e = .returned (.int .i64 n) ∧ w' = w := by
  go_enter Try.func41, Try.ntmps41
  go_wp2
  go_ret
  exact ⟨rfl, rfl⟩
/-- A list of nothing, in memory of its own. -/
def nilList (w : World) (B : Nat) (x : Value) : Prop := ∃ b, x = .slice (some ⟨b, 0, none⟩) 0 0 ∧ w.heap[b]? = some (.cells #[] 38 (0, 0)) ∧ B ≤ b
theorem nilList.kept {w w' : World} {B : Nat} {x : Value} (h : nilList w B x) (k : Kept [] w w') : nilList w' B x := by
  obtain ⟨b, h1, h2, h3⟩ := h
  exact ⟨b, h1, k.at h2 (by simp), h3⟩
theorem nilList.mono {w : World} {B B' : Nat} {x : Value} (h : nilList w B x) (hB : B' ≤ B) : nilList w B' x := by
  obtain ⟨b, h1, h2, h3⟩ := h
  exact ⟨b, h1, h2, by omega⟩
set_option maxRecDepth 100000 in
set_option maxHeartbeats 800000 in
theorem lookReadX (s : Nat) (w : World) (hc : ∀ o, w.cell? ⟨s, o, none⟩ = shCells[o]?) :
    Calls Try.prog 38 #[.pointer (some ⟨s, 0, none⟩)] w fun e w' => e = .returned (.agg #[.pointer none, .pointer none, .pointer none, .pointer none, .pointer none, .pointer none, .pointer none, .pointer none, .bool false]) ∧ w' = w.alloc (.cells #[.pointer none, .pointer none, .pointer none, .pointer none, .pointer none, .pointer none, .pointer none, .pointer none, .bool false] 87) := by
  have hs : s < w.heap.size := lt_of_cell (hc 0)
  simp only [shCells] at hc
  go_enter Try.func38, Try.ntmps38
  go_wp2
  exact bodyPost_ret (v := .agg #[.pointer none, .pointer none, .pointer none, .pointer none, .pointer none, .pointer none, .pointer none, .pointer none, .bool false]) (by simp [results, Try.results38, go_sem]) rfl ⟨rfl, rfl⟩
set_option maxRecDepth 100000 in
set_option maxHeartbeats 800000 in
theorem lookDirtyX (s : Nat) (w : World) (hc : ∀ o, w.cell? ⟨s, o, none⟩ = shCells[o]?) :
    Calls Try.prog 39 #[.pointer (some ⟨s, 9, none⟩)] w fun e w' => e = .returned (.agg #[.pointer none, .pointer none, .pointer none, .pointer none, .pointer none, .pointer none, .pointer none, .pointer none, .bool false]) ∧ w' = w.alloc (.cells #[.pointer none, .pointer none, .pointer none, .pointer none, .pointer none, .pointer none, .pointer none, .pointer none, .bool false] 91) := by
  have hs : s < w.heap.size := lt_of_cell (hc 0)
  simp only [shCells] at hc
  go_enter Try.func39, Try.ntmps39
  go_wp2
  exact bodyPost_ret (v := .agg #[.pointer none, .pointer none, .pointer none, .pointer none, .pointer none, .pointer none, .pointer none, .pointer none, .bool false]) (by simp [results, Try.results39, go_sem]) rfl ⟨rfl, rfl⟩
end Go.Proofs.Ytmnkphenobfbfaa
namespace Go.Proofs.Ytmnkphenobfbfaa
open Go.RowKit
theorem cell_set6 {r b : Nat} (hne : r ≠ b) (W : World) (o : Nat) (v0 v1 v2 v3 v4 v5 : Value) :
    ((((((W.setCell ⟨r, 0, none⟩ v0).setCell ⟨r, 1, none⟩ v1).setCell ⟨r, 2, none⟩ v2).setCell ⟨r, 3, none⟩ v3).setCell ⟨r, 4, none⟩ v4).setCell ⟨r, 5, none⟩ v5).cell? ⟨b, o, none⟩ = W.cell? ⟨b, o, none⟩ := by
  have h : ∀ k, (⟨r, k, none⟩ : Addr) ≠ ⟨b, o, none⟩ := fun k e => hne (by injection e)
  rw [World.cell?_setCell_other _ _ _ _ (h _), World.cell?_setCell_other _ _ _ _ (h _), World.cell?_setCell_other _ _ _ _ (h _), World.cell?_setCell_other _ _ _ _ (h _), World.cell?_setCell_other _ _ _ _ (h _), World.cell?_setCell_other _ _ _ _ (h _)]
theorem block_set6 {W : World} {r b : Nat} {x : Obj} (h : W.heap[b]? = some x) (hne : b ≠ r) (v0 v1 v2 v3 v4 v5 : Value) :
    ((((((W.setCell ⟨r, 0, none⟩ v0).setCell ⟨r, 1, none⟩ v1).setCell ⟨r, 2, none⟩ v2).setCell ⟨r, 3, none⟩ v3).setCell ⟨r, 4, none⟩ v4).setCell ⟨r, 5, none⟩ v5).heap[b]? = some x :=
  block_set_ne (block_set_ne (block_set_ne (block_set_ne (block_set_ne (block_set_ne h hne _ _) hne _ _) hne _ _) hne _ _) hne _ _) hne _ _
theorem res26 {tmps : Array Value} {W : World} (r : Nat) (v0 v1 v2 v3 v4 v5 : Value) (h2 : tmps.getD 2 undef = .pointer (some ⟨r, 0, none⟩))
    (hc : ∀ o, W.cell? ⟨r, o, none⟩ = #[Value.slice none 0 0, .bool false, .bool false, .slice none 0 0, .int .i64 0, .int .i64 0][o]?) :
    (results Try.f31 tmps).run Try.prog ((((((W.setCell ⟨r, 0, none⟩ v0).setCell ⟨r, 1, none⟩ v1).setCell ⟨r, 2, none⟩ v2).setCell ⟨r, 3, none⟩ v3).setCell ⟨r, 4, none⟩ v4).setCell ⟨r, 5, none⟩ v5) =
      .ok (.agg #[v0, v1, v2, v3, v4, v5]) ((((((W.setCell ⟨r, 0, none⟩ v0).setCell ⟨r, 1, none⟩ v1).setCell ⟨r, 2, none⟩ v2).setCell ⟨r, 3, none⟩ v3).setCell ⟨r, 4, none⟩ v4).setCell ⟨r, 5, none⟩ v5) := by
  simp only [Array.getD_eq_getD_getElem?] at h2
  simp [results, Try.results31, go_sem, h2, hc]
theorem list0K (w : World) : Calls Try.prog 40 #[.agg #[.pointer none, .pointer none, .pointer none, .pointer none, .pointer none, .pointer none, .pointer none, .pointer none]] w fun e w' => ∃ b, e = .returned (.slice (some ⟨b, 0, none⟩) 0 0) ∧ w'.heap[b]? = some (.cells #[] 38 (0, 0)) ∧ w.heap.size ≤ b ∧ Kept [] w w' := by
  refine (list0 w).mono ?_
  rintro e w' ⟨rfl, rfl⟩
  refine ⟨_, rfl, ?_, by omega, (((Kept.refl [] w).alloc _).alloc _).alloc _⟩
  have := block_alloc_new ((w.alloc (.cells #[.pointer none, .pointer none, .pointer none, .pointer none, .pointer none, .pointer none, .pointer none, .pointer none] 85)).alloc (.cells #[.pointer none, .pointer none, .pointer none, .pointer none, .pointer none, .pointer none, .pointer none, .pointer none] 85)) (.cells #[] 38)
  simpa using this
set_option maxRecDepth 100000 in
set_option maxHeartbeats 4000000 in
theorem view0 (s : Nat) (w : World) (h : w.heap[s]? = some (.cells shCells 97 (0, 0))) :
    Calls Try.prog 31 #[.pointer (some ⟨s, 0, none⟩)] w fun e w' => ∃ l1 l2, e = .returned (.agg #[l1, .bool false, .bool false, l2, .int .i64 0, .int .i64 (-1)]) ∧
      nilList w' w.heap.size l1 ∧ nilList w' w.heap.size l2 ∧ Kept [] w w' := by
  have hs := lt_of_block h
  have hc : ∀ o, w.cell? ⟨s, o, none⟩ = shCells[o]? := cell_of h
  have hs1 : s < w.heap.size + 1 := by omega
  have hs2 : s < w.heap.size + 2 := by omega
  have hs3 : s < w.heap.size + 3 := by omega
  have hs4 : s < w.heap.size + 4 := by omega
  go_enter Try.func31, Try.ntmps31
  go_wp2_with fail
  go_cut [3, 4] (fun x y w' => ∃ b3 b4 : Nat, x = .pointer (some ⟨b3, 0, none⟩) ∧ y = .pointer (some ⟨b4, 0, none⟩) ∧ w'.heap[b3]? = some (.cells #[.pointer none, .pointer none, .pointer none, .pointer none, .pointer none, .pointer none, .pointer none, .pointer none, .bool false] 87 (0, 0)) ∧ w'.heap[b4]? = some (.cells #[.pointer none, .pointer none, .pointer none, .pointer none, .pointer none, .pointer none, .pointer none, .pointer none, .bool false] 91 (0, 0)) ∧
    w'.heap[w.heap.size]? = some (.cells #[.slice none 0 0, .bool false, .bool false, .slice none 0 0, .int .i64 0, .int .i64 0] 35 (0, 0)) ∧ Kept [] w w')
  case first =>
    go_region_held3 (fun w' => ∀ o, w'.cell? ⟨s, o, none⟩ = shCells[o]?) ((intro o; go_simp))
      (first | (go_at_call 38; refine (lookReadX s _ (by assumption)).mono ?_; rintro e w' ⟨rfl, rfl⟩) | (go_at_call 39; refine (lookDirtyX s _ (by assumption)).mono ?_; rintro e w' ⟨rfl, rfl⟩))
    all_goals go_wp2_with fail
    all_goals go_meet
    all_goals refine ⟨_, _, rfl, rfl, ?_, ?_, (five w _ _ _ _ _).1, (((((Kept.refl [] w).alloc _).alloc _).alloc _).alloc _).alloc _ |>.drew⟩
    all_goals first | exact (five w _ _ _ _ _).2.1 | exact (five w _ _ _ _ _).2.2.1 | exact (five w _ _ _ _ _).2.2.2.1 | exact (five w _ _ _ _ _).2.2.2.2
  case rest =>
    obtain ⟨b3, b4, rfl, rfl, h3, h4, hr, hK⟩ := hcut
    have hS := hK.at h (by simp)
    clear hc hs hs1 hs2 hs3 hs4 h
    have hs := lt_of_block hS
    have z3 := lt_of_block h3
    have z4 := lt_of_block h4
    have zr := lt_of_block hr
    have c3 : ∀ o, wc.cell? ⟨b3, o, none⟩ = #[.pointer none, .pointer none, .pointer none, .pointer none, .pointer none, .pointer none, .pointer none, .pointer none, .bool false][o]? := cell_of h3
    have c4 : ∀ o, wc.cell? ⟨b4, o, none⟩ = #[.pointer none, .pointer none, .pointer none, .pointer none, .pointer none, .pointer none, .pointer none, .pointer none, .bool false][o]? := cell_of h4
    have c5 : ∀ o, wc.cell? ⟨w.heap.size, o, none⟩ = #[Value.slice none 0 0, .bool false, .bool false, .slice none 0 0, .int .i64 0, .int .i64 0][o]? := cell_of hr
    have f5 : ∀ o, wc.frozen? ⟨w.heap.size, o, none⟩ = false := frozen_of hr
    have n3 : b3 ≠ w.heap.size := ne_of_blocks h3 hr (by simp)
    have n4 : b4 ≠ w.heap.size := ne_of_blocks h4 hr (by simp)
    have n3' : w.heap.size ≠ b3 := Ne.symm n3
    have n4' : w.heap.size ≠ b4 := Ne.symm n4
    have L : ∀ W, Kept [] wc W → Calls Try.prog 40 #[.agg #[.pointer none, .pointer none, .pointer none, .pointer none, .pointer none, .pointer none, .pointer none, .pointer none]] W fun e w' => ∃ b, e = .returned (.slice (some ⟨b, 0, none⟩) 0 0) ∧ (w'.heap[b]? = some (.cells #[] 38 (0, 0)) ∧ wc.heap.size ≤ b) ∧ Kept [] wc w' ∧
        (∀ o, w'.cell? ⟨b3, o, none⟩ = #[Value.pointer none, .pointer none, .pointer none, .pointer none, .pointer none, .pointer none, .pointer none, .pointer none, .bool false][o]?) ∧ (∀ o, w'.cell? ⟨b4, o, none⟩ = #[Value.pointer none, .pointer none, .pointer none, .pointer none, .pointer none, .pointer none, .pointer none, .pointer none, .bool false][o]?) ∧ (∀ o, w'.cell? ⟨w.heap.size, o, none⟩ = #[Value.slice none 0 0, .bool false, .bool false, .slice none 0 0, .int .i64 0, .int .i64 0][o]?) ∧ (∀ o, w'.frozen? ⟨w.heap.size, o, none⟩ = false) ∧ Kept [] W w' := by
      intro W hW
      refine (list0K W).mono ?_
      rintro e w' ⟨b, rfl, hb, hbz, hk⟩
      have hk' := hW.trans hk
      exact ⟨b, rfl, ⟨hb, Nat.le_trans hW.size hbz⟩, hk', cell_of (hk'.at h3 (by simp)), cell_of (hk'.at h4 (by simp)), cell_of (hk'.at hr (by simp)), frozen_of (hk'.at hr (by simp)), hk⟩
    have HL : Hid _ := L
    clear L c5 f5
    go_wp2_with fail
    go_region_held3 (fun w' => (∀ o, w'.cell? ⟨b3, o, none⟩ = #[Value.pointer none, .pointer none, .pointer none, .pointer none, .pointer none, .pointer none, .pointer none, .pointer none, .bool false][o]?) ∧ (∀ o, w'.cell? ⟨b4, o, none⟩ = #[Value.pointer none, .pointer none, .pointer none, .pointer none, .pointer none, .pointer none, .pointer none, .pointer none, .bool false][o]?))
      (first | (refine ⟨?_, ?_⟩ <;> intro o <;> first | (rw [cell_set6 n3']; exact g3 o) | (rw [cell_set6 n4']; exact g4 o)) | exact ⟨g3, g4⟩ | exact ⟨c3, c4⟩)
      (first | (go_at_call 40; refine (HL.out _ (by first | exact (Kept.refl _ _).drew | exact kk)).mono ?_; rintro e w' ⟨l, rfl, hl, kk, g3, g4, g5, g6, hk⟩) | (go_at_call_of 41 (Value.pointer (some (Addr.mk s 18 none))); refine (lookInt s 18 0 _ (cell_of (kk.at hS (by simp)) 18)).mono ?_; rintro e w' ⟨rfl, rfl⟩) | (go_at_call_of 41 (Value.pointer (some (Addr.mk s 19 none))); refine (lookInt s 19 (-1) _ (cell_of (kk.at hS (by simp)) 19)).mono ?_; rintro e w' ⟨rfl, rfl⟩))
    go_wp2
    refine bodyPost_ret (v := .agg #[_, .bool false, .bool false, _, .int .i64 0, .int .i64 (-1)]) (res26 w.heap.size _ _ _ _ _ _ rfl g5) rfl ⟨_, _, rfl, ⟨_, rfl, ?_, ?_⟩, ⟨_, rfl, ?_, ?_⟩, ?_⟩
    · exact block_set6 (Kept.at hk (And.left (by assumption)) (by simp)) (by have := And.right (by assumption); omega) _ _ _ _ _ _
    · have := hK.size; have := And.right (by assumption); omega
    · exact block_set6 hl.1 (by have := hl.2; omega) _ _ _ _ _ _
    · have := hK.size; have := hl.2; omega
    · exact (((((((hK.trans kk).setCell (.inr (Nat.le_refl _)) _).setCell (.inr (Nat.le_refl _)) _).setCell (.inr (Nat.le_refl _)) _).setCell (.inr (Nat.le_refl _)) _).setCell (.inr (Nat.le_refl _)) _).setCell (.inr (Nat.le_refl _)) _)
end Go.Proofs.Ytmnkphenobfbfaa
namespace Go.Proofs.Ytmnkphenobfbfaa
open Go.RowKit Go.MuLone
theorem PAt.set6 {p : PM} {l : Int} {w : World} {cl : Bool} {th : Nat → Option (Int × Int × Int)} (h : PAt p l w cl th) {b : Nat} {cs : Array Value} {T : TypeId} {z : Nat × Nat}
    (hb : w.heap[b]? = some (.cells cs T z)) (h1 : T ≠ 74) (h2 : T ≠ 97) (h3 : T ≠ 75) (h4 : T ≠ 103) (v0 v1 v2 v3 v4 v5 : Value) :
    PAt p l ((((((w.setCell ⟨b, 0, none⟩ v0).setCell ⟨b, 1, none⟩ v1).setCell ⟨b, 2, none⟩ v2).setCell ⟨b, 3, none⟩ v3).setCell ⟨b, 4, none⟩ v4).setCell ⟨b, 5, none⟩ v5) cl th := by
  have b0 := block_set_same hb 0 v0
  have b1 := block_set_same b0 1 v1
  have b2 := block_set_same b1 2 v2
  have b3 := block_set_same b2 3 v3
  have b4 := block_set_same b3 4 v4
  exact (((((h.set hb h1 h2 h3 h4 0 v0).set b0 h1 h2 h3 h4 1 v1).set b1 h1 h2 h3 h4 2 v2).set b2 h1 h2 h3 h4 3 v3).set b3 h1 h2 h3 h4 4 v4).set b4 h1 h2 h3 h4 5 v5
theorem res11 {tmps : Array Value} {W : World} (r : Nat) (v0 v1 v2 v3 v4 v5 : Value) (h2 : tmps.getD 2 undef = .pointer (some ⟨r, 0, none⟩))
    (h : W.heap[r]? = some (.cells #[v0, v1, v2, v3, v4, v5] 35 (0, 0))) :
    (results Try.f11 tmps).run Try.prog W = .ok (.agg #[v0, v1, v2, v3, v4, v5]) W := by
  have hc : ∀ o, W.cell? ⟨r, o, none⟩ = #[v0, v1, v2, v3, v4, v5][o]? := cell_of h
  simp only [Array.getD_eq_getD_getElem?] at h2
  simp [results, Try.results11, go_sem, h2, hc]
set_option maxRecDepth 100000 in
set_option maxHeartbeats 800000 in
theorem look_any (p : PM) (cl : Bool) (w : World) (th : Nat → Option (Int × Int × Int)) (h : PAt p 0 w cl th) :
    Calls Try.prog 11 #[.pointer (some ⟨p.m, 0, none⟩)] w fun e w' => ∃ b1 b2, e = .returned (.agg #[.slice (some ⟨b1, 0, none⟩) 0 0, .bool false, .bool false, .slice (some ⟨b2, 0, none⟩) 0 0, .int .i64 0, .int .i64 (-1)]) ∧
      w'.heap[b1]? = some (.cells #[] 38 (0, 0)) ∧ w.heap.size ≤ b1 ∧ w'.heap[b2]? = some (.cells #[] 38 (0, 0)) ∧ w.heap.size ≤ b2 ∧ PAt p 0 w' cl th ∧ Kept [p.m] w w' := by
  have hs := lt_of_block h.m
  have h1 := (h.alloc (.cells #[.slice none 0 0, .bool false, .bool false, .slice none 0 0, .int .i64 0, .int .i64 0] 35)).lock 1
  have k1 : Kept [p.m] w ((w.alloc (.cells #[.slice none 0 0, .bool false, .bool false, .slice none 0 0, .int .i64 0, .int .i64 0] 35)).setCell ⟨p.m, 0, none⟩ (.int .i32 1)) := ((Kept.refl _ w).alloc _).setCell (.inl (by simp)) _
  have hr : ((w.alloc (.cells #[.slice none 0 0, .bool false, .bool false, .slice none 0 0, .int .i64 0, .int .i64 0] 35)).setCell ⟨p.m, 0, none⟩ (.int .i32 1)).heap[w.heap.size]? = some (.cells #[.slice none 0 0, .bool false, .bool false, .slice none 0 0, .int .i64 0, .int .i64 0] 35 (0, 0)) :=
    block_set_ne (block_alloc_new _ _) (by omega) _ _
  go_enter_defers Try.func11, Try.ntmps11
  go_wp2_with fail
  refine (lock_free Try.muLib ⟨p.m, 0, none⟩ _ ?_ ?_).mono ?_
  · rw [cell_of (h.alloc _).m]; rfl
  · rw [frozen_of (h.alloc _).m]
  rintro e w' ⟨rfl, rfl⟩
  generalize ((w.alloc (.cells #[.slice none 0 0, .bool false, .bool false, .slice none 0 0, .int .i64 0, .int .i64 0] 35)).setCell ⟨p.m, 0, none⟩ (.int .i32 1)) = W at *
  have c3 : W.cell? ⟨p.m, 3, none⟩ = some (.pointer (some ⟨p.s, 0, none⟩)) := cell_of h1.m 3
  go_wp2_with fail
  refine (view0 p.s _ h1.s).mono ?_
  rintro e w2 ⟨l1, l2, rfl, ⟨b1, rfl, hb1, hz1⟩, ⟨b2, rfl, hb2, hz2⟩, k2⟩
  have zr0 := lt_of_block hr
  replace hr := k2.at hr (by simp)
  replace h1 := h1.keptNil k2
  have ksz := k1.size
  replace k1 := k1.trans (k2.mono (by simp))
  have zr := lt_of_block hr
  have hc2 : ∀ o, w2.cell? ⟨w.heap.size, o, none⟩ = #[Value.slice none 0 0, .bool false, .bool false, .slice none 0 0, .int .i64 0, .int .i64 0][o]? := cell_of hr
  have hf2 : ∀ o, w2.frozen? ⟨w.heap.size, o, none⟩ = false := frozen_of hr
  clear c3
  go_wp2
  have hr2 := block_set_same (block_set_same (block_set_same (block_set_same (block_set_same (block_set_same hr 0 (.slice (some ⟨b1, 0, none⟩) 0 0)) 1 (.bool false)) 2 (.bool false)) 3 (.slice (some ⟨b2, 0, none⟩) 0 0)) 4 (.int .i64 0)) 5 (.int .i64 (-1))
  have h2 := h1.set6 hr (by decide) (by decide) (by decide) (by decide) (.slice (some ⟨b1, 0, none⟩) 0 0) (.bool false) (.bool false) (.slice (some ⟨b2, 0, none⟩) 0 0) (.int .i64 0) (.int .i64 (-1))
  have k3 := (((((k1.setCell (p := ⟨w.heap.size, 0, none⟩) (.inr (Nat.le_refl _)) (.slice (some ⟨b1, 0, none⟩) 0 0)).setCell (p := ⟨w.heap.size, 1, none⟩) (.inr (Nat.le_refl _)) (.bool false)).setCell (p := ⟨w.heap.size, 2, none⟩) (.inr (Nat.le_refl _)) (.bool false)).setCell (p := ⟨w.heap.size, 3, none⟩) (.inr (Nat.le_refl _)) (.slice (some ⟨b2, 0, none⟩) 0 0)).setCell (p := ⟨w.heap.size, 4, none⟩) (.inr (Nat.le_refl _)) (.int .i64 0)).setCell (p := ⟨w.heap.size, 5, none⟩) (.inr (Nat.le_refl _)) (.int .i64 (-1))
  refine door_unlock p.m _ (by rw [cell_of h2.m]; rfl) (by rw [frozen_of h2.m]) (res11 w.heap.size _ _ _ _ _ _ rfl (block_set_ne hr2 (by omega) _ _)) ⟨b1, b2, rfl, ?_, by omega, ?_, by omega, h2.lock 0, k3.setCell (.inl (by simp)) _⟩
  · exact block_set_ne (block_set6 hb1 (by omega) _ _ _ _ _ _) (by omega) _ _
  · exact block_set_ne (block_set6 hb2 (by omega) _ _ _ _ _ _) (by omega) _ _
end Go.Proofs.Ytmnkphenobfbfaa
