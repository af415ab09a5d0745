import Derived.Test.YtfgfpggjcfhccaaGreatPa
namespace Go.Proofs.YtfgfpggjcfhccaaGreat
open Go.RowKit Go.MuLone
def rdVal : Value := .agg #[.pointer none, .pointer none, .pointer none, .pointer none, .pointer none, .pointer none, .pointer none, .pointer none, .bool false]
set_option maxRecDepth 100000 in
set_option maxHeartbeats 800000 in
theorem lookRead (s : Nat) (w : World) (h : w.heap[s]? = some (.cells shCells 111 (0, 0))) :
    Calls Tryz.prog 45 #[.pointer (some ⟨s, 0, none⟩)] w fun e w' => e = .returned rdVal ∧ Kept [] w w' := by
  have hs := lt_of_block h
  have hc : ∀ o, w.cell? ⟨s, o, none⟩ = shCells[o]? := cell_of h
  simp only [shCells] at hc
  go_enter Tryz.func45, Tryz.ntmps45
  go_wp2
  exact bodyPost_ret (v := rdVal) (by simp [results, Tryz.results45, go_sem, rdVal]) rfl ⟨rfl, (Kept.refl [] w).alloc _⟩
set_option maxRecDepth 100000 in
set_option maxHeartbeats 800000 in
theorem lookDirty (s : Nat) (w : World) (h : w.heap[s]? = some (.cells shCells 111 (0, 0))) :
    Calls Tryz.prog 46 #[.pointer (some ⟨s, 9, none⟩)] w fun e w' => e = .returned rdVal ∧ Kept [] w w' := by
  have hs := lt_of_block h
  have hc : ∀ o, w.cell? ⟨s, o, none⟩ = shCells[o]? := cell_of h
  simp only [shCells] at hc
  go_enter Tryz.func46, Tryz.ntmps46
  go_wp2
  exact bodyPost_ret (v := rdVal) (by simp [results, Tryz.results46, go_sem, rdVal]) rfl ⟨rfl, (Kept.refl [] w).alloc _⟩
set_option maxRecDepth 100000 in
set_option maxHeartbeats 800000 in
theorem done_any (i s t : Nat) (x : Option (Int × Int × Int)) (a b n : Value) (w : World) (h : w.heap[t]? = some (.cells (thCells i s t x) 116 (0, 0))) (ha : ∃ q, a = .bool q) (hb : ∃ q, b = .bool q) (hn : ∃ q, n = .int .i64 q) :
    Calls Tryz.prog 86 #[.pointer (some ⟨t, 0, none⟩), .agg #[a, b, n]] w fun e w' => e = .returned (.tuple #[.agg #[a, b, n], .int .i64 0]) ∧ w'.heap[t]? = some (.cells (thCells i s t none) 116 (0, 0)) ∧ Kept [t] w w' := by
  obtain ⟨a, rfl⟩ := ha
  obtain ⟨b, rfl⟩ := hb
  obtain ⟨n, rfl⟩ := hn
  obtain ⟨tc, hx, hi⟩ : ∃ tc : Tc, thCells i s t x = tc.cells ∧ tc.idle.cells = thCells i s t none := by
    rcases x with _ | ⟨k, v, o⟩
    · exact ⟨⟨i, s, 0, 0, 0, 0, none, 0, 0, 0, .nilFunc⟩, rfl, rfl⟩
    · exact ⟨⟨i, s, 0, k, v, o, none, 0, 0, 0, .func (.func 68) #[.pointer (some ⟨t, 0, none⟩)] #[]⟩, rfl, rfl⟩
  rw [hx] at h
  rw [← hi]
  exact g_done tc t a b n w h
set_option maxRecDepth 100000 in
set_option maxHeartbeats 800000 in
theorem doneNothing (i s t : Nat) (x : Option (Int × Int × Int)) (w : World) (h : w.heap[t]? = some (.cells (thCells i s t x) 116 (0, 0))) :
    Calls Tryz.prog 81 #[.pointer (some ⟨t, 0, none⟩)] w fun e w' => e = .returned (.tuple #[.agg #[.bool true, .bool false, .int .i64 0], .int .i64 0]) ∧ w'.heap[t]? = some (.cells (thCells i s t none) 116 (0, 0)) ∧ Kept [t] w w' := by
  have hs := lt_of_block h
  go_enter Tryz.func81, Tryz.ntmps81
  go_wp2_with fail
  refine (done_any i s t x _ _ _ _ (block_alloc_lt h _) ⟨_, rfl⟩ ⟨_, rfl⟩ ⟨_, rfl⟩).mono ?_
  rintro e w1 ⟨rfl, h1, k1⟩
  have hr : w1.heap[w.heap.size]? = some (.cells #[.bool false, .bool false, .int .i64 0] 52 (0, 0)) := k1.at (block_alloc_new _ _) (by simp; omega)
  have hc : ∀ o, w1.cell? ⟨w.heap.size, o, none⟩ = #[.bool false, .bool false, .int .i64 0][o]? := cell_of hr
  have hf : ∀ o, w1.frozen? ⟨w.heap.size, o, none⟩ = false := frozen_of hr
  go_wp2
  have hr2 := block_set_same (block_set_same (block_set_same hr 0 (.bool true)) 1 (.bool false)) 2 (.int .i64 0)
  refine bodyPost_ret (v := .tuple #[.agg #[.bool true, .bool false, .int .i64 0], .int .i64 0]) (by simp [results, Tryz.results81, go_sem, cell_of hr2]) rfl ⟨rfl, ?_, ?_⟩
  · exact block_set_ne (block_set_ne (block_set_ne h1 (by omega) _ _) (by omega) _ _) (by omega) _ _
  · exact ((((((Kept.refl _ w).alloc _).drop k1 (by simp))).setCell (.inr (by simp)) _).setCell (.inr (by simp)) _).setCell (.inr (by simp)) _
theorem nth_nil (k : Int) (hk0 : 0 ≤ k) (hk7 : k < 8) : #[Value.pointer none, .pointer none, .pointer none, .pointer none, .pointer none, .pointer none, .pointer none, .pointer none, .bool false][k.toNat]? = some (.pointer none) := by
  obtain ⟨n, rfl⟩ := Int.eq_ofNat_of_zero_le hk0
  have hn : n < 8 := by omega
  simp only [Int.toNat_natCast]
  match n, hn with
  | 0, _ | 1, _ | 2, _ | 3, _ | 4, _ | 5, _ | 6, _ | 7, _ => rfl
set_option maxRecDepth 100000 in
set_option maxHeartbeats 1600000 in
theorem load1 (i s t : Nat) (k v o : Int) (w : World) (h : w.heap[t]? = some (.cells (thCells i s t (some (k, v, o))) 116 (0, 0))) (hs : w.heap[s]? = some (.cells shCells 111 (0, 0))) (hk0 : 0 ≤ k) (hk7 : k < 8) :
    Calls Tryz.prog 68 #[.pointer (some ⟨t, 0, none⟩)] w fun e w' => e = .returned (.tuple #[.agg #[.bool true, .bool false, .int .i64 0], .int .i64 0]) ∧ w'.heap[t]? = some (.cells (thCells i s t none) 116 (0, 0)) ∧ Kept [t] w w' := by
  have ht := lt_of_block h
  have hc : ∀ o', w.cell? ⟨t, o', none⟩ = (thCells i s t (some (k, v, o)))[o']? := cell_of h
  simp only [thCells] at hc
  go_enter Tryz.func68, Tryz.ntmps68
  go_wp2_with fail
  refine (lookRead s _ (block_alloc_lt hs _)).mono ?_
  rintro e w1 ⟨rfl, k1⟩
  have h1 := k1.at (block_alloc_lt h _) (by simp)
  have r1 := k1.at (block_alloc_new w (.cells #[.bool false, .bool false, .int .i64 0] 52)) (by simp)
  have z1 := k1.size
  simp only [World.size_alloc] at z1
  have hc1 : ∀ o', w1.cell? ⟨t, o', none⟩ = (thCells i s t (some (k, v, o)))[o']? := cell_of h1
  have hf1 : ∀ o', w1.frozen? ⟨t, o', none⟩ = false := frozen_of h1
  have ht1 := lt_of_block h1
  simp only [thCells] at hc1
  simp only [rdVal]
  clear hc
  have hn := nth_nil k hk0 hk7
  go_wp2_with fail
  refine (doneNothing i s t (some (k, v, o)) _ (block_alloc_lt ((block_set_same h1 6 _).trans (by simp [thCells])) _)).mono ?_
  rintro e w2 ⟨rfl, h2, k2⟩
  have r2 : w2.heap[w.heap.size]? = some (.cells #[.bool false, .bool false, .int .i64 0] 52 (0, 0)) := k2.at (block_alloc_lt (block_set_ne r1 (by omega) _ _) _) (by simp; omega)
  have hc2 : ∀ o, w2.cell? ⟨w.heap.size, o, none⟩ = #[.bool false, .bool false, .int .i64 0][o]? := cell_of r2
  have hf2 : ∀ o, w2.frozen? ⟨w.heap.size, o, none⟩ = false := frozen_of r2
  clear hc1 hf1 hn
  go_wp2
  have hr3 := block_set_same (block_set_same (block_set_same r2 0 (.bool true)) 1 (.bool false)) 2 (.int .i64 0)
  refine bodyPost_ret (v := .tuple #[.agg #[.bool true, .bool false, .int .i64 0], .int .i64 0]) (by simp [results, Tryz.results68, go_sem, cell_of hr3]) rfl ⟨rfl, ?_, ?_⟩
  · exact block_set_ne (block_set_ne (block_set_ne h2 (by omega) _ _) (by omega) _ _) (by omega) _ _
  · exact (((((((((Kept.refl _ w).alloc _).drop k1 (by simp))).setCell (.inl (by simp)) _).alloc _).drop k2 (by simp)).setCell (.inr (by simp)) _).setCell (.inr (by simp)) _).setCell (.inr (by simp)) _
theorem run_neq_func (w : World) (fn : Fn) (first captured : Array Value) : Sem.run Tryz.prog (binOp BinOp.neq 114 (Value.func fn first captured) Value.nilFunc) w = .ok (.bool true) w := by kernel_rfl
set_option maxRecDepth 100000 in
set_option maxHeartbeats 400000 in
theorem busy_yes (t : Nat) (fn : Fn) (a b : Array Value) (w : World) (h7 : w.cell? ⟨t, 10, none⟩ = some (.func fn a b)) :
    Calls Tryz.prog 32 #[.pointer (some ⟨t, 0, none⟩)] w fun e w' => e = .returned (.bool true) ∧ w' = w := by
  have hrun := run_neq_func w
  go_enter Tryz.func32, Tryz.ntmps32
  go_wp2
  go_ret
  exact ⟨rfl, rfl⟩
set_option maxRecDepth 100000 in
set_option maxHeartbeats 800000 in
theorem tstep_load (i s t : Nat) (k v o : Int) (w : World) (h : w.heap[t]? = some (.cells (thCells i s t (some (k, v, o))) 116 (0, 0))) (hs : w.heap[s]? = some (.cells shCells 111 (0, 0))) (hk0 : 0 ≤ k) (hk7 : k < 8) :
    Calls Tryz.prog 34 #[.pointer (some ⟨t, 0, none⟩)] w fun e w' => e = .returned (.tuple #[.agg #[.bool true, .bool false, .int .i64 0], .int .i64 0]) ∧ w'.heap[t]? = some (.cells (thCells i s t none) 116 (0, 0)) ∧ Kept [t] w w' := by
  have ht := lt_of_block h
  have hc : ∀ o', w.cell? ⟨t, o', none⟩ = (thCells i s t (some (k, v, o)))[o']? := cell_of h
  simp only [thCells] at hc
  go_enter Tryz.func34, Tryz.ntmps34
  go_wp2_with fail
  refine (busy_yes t (.func 68) #[.pointer (some ⟨t, 0, none⟩)] #[] _ ?_).mono ?_
  · rw [cell_of (block_alloc_lt h _)]; rfl
  rintro e w' ⟨rfl, rfl⟩
  go_wp2_with fail
  refine (load1 i s t k v o _ (block_alloc_lt h _) (block_alloc_lt hs _) hk0 hk7).mono ?_
  rintro e w2 ⟨rfl, h2, k2⟩
  have r2 : w2.heap[w.heap.size]? = some (.cells #[.bool false, .bool false, .int .i64 0] 52 (0, 0)) := k2.at (block_alloc_new _ _) (by simp; omega)
  have hc2 : ∀ o, w2.cell? ⟨w.heap.size, o, none⟩ = #[.bool false, .bool false, .int .i64 0][o]? := cell_of r2
  have hf2 : ∀ o, w2.frozen? ⟨w.heap.size, o, none⟩ = false := frozen_of r2
  clear hc
  go_wp2
  have hr3 := block_set_same (block_set_same (block_set_same r2 0 (.bool true)) 1 (.bool false)) 2 (.int .i64 0)
  refine bodyPost_ret (v := .tuple #[.agg #[.bool true, .bool false, .int .i64 0], .int .i64 0]) (by simp [results, Tryz.results34, go_sem, cell_of hr3]) rfl ⟨rfl, ?_, ?_⟩
  · exact block_set_ne (block_set_ne (block_set_ne h2 (by omega) _ _) (by omega) _ _) (by omega) _ _
  · exact ((((((Kept.refl _ w).alloc _).drop k2 (by simp))).setCell (.inr (by simp)) _).setCell (.inr (by simp)) _).setCell (.inr (by simp)) _
end Go.Proofs.YtfgfpggjcfhccaaGreat
