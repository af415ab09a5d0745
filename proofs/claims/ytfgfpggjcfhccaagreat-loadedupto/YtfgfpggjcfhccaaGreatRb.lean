import Derived.Test.YtfgfpggjcfhccaaGreatBo
namespace Go.Proofs.YtfgfpggjcfhccaaGreat
open Go.RowKit
set_option maxRecDepth 100000 in
set_option maxHeartbeats 1600000 in
theorem rbegin_closed (q : RM) (i kind key v o : Int) (w : World) (th : Nat → Option (Int × Int × Int)) (h : RAt q w true th)  :
    Calls Tryz.prog 16 #[.pointer (some ⟨q.r, 0, none⟩), .int .i64 i, .agg #[.int .i64 kind, .int .i64 key, .int .i64 v, .int .i64 o]] w fun e w' => e = .returned (.int .i64 5) ∧ Kept [] w w' := by
  have hs := lt_of_block h.r
  have hc : w.cell? ⟨q.r, 21, none⟩ = some (.bool true) := cell_of h.r 21
  have hc2 : w.cell? ⟨q.r, 22, none⟩ = some (.slice (some ⟨q.tb, 0, none⟩) q.n q.n) := cell_of h.r 22
  go_enter Tryz.func16, Tryz.ntmps16
  go_wp2
  go_ret
  exact ⟨rfl, (Kept.refl [] w).alloc _⟩
set_option maxRecDepth 100000 in
set_option maxHeartbeats 1600000 in
theorem rbegin_arg (q : RM) (i kind key v o : Int) (w : World) (th : Nat → Option (Int × Int × Int)) (h : RAt q w false th) (hk : kind ≤ 0) (hi : i < 0 ∨ (q.n : Int) ≤ i ∨ kind < 0 ∨ key < 0 ∨ 8 ≤ key) :
    Calls Tryz.prog 16 #[.pointer (some ⟨q.r, 0, none⟩), .int .i64 i, .agg #[.int .i64 kind, .int .i64 key, .int .i64 v, .int .i64 o]] w fun e w' => e = .returned (.int .i64 1) ∧ Kept [] w w' := by
  have hs := lt_of_block h.r
  have hc : w.cell? ⟨q.r, 21, none⟩ = some (.bool false) := cell_of h.r 21
  have hc2 : w.cell? ⟨q.r, 22, none⟩ = some (.slice (some ⟨q.tb, 0, none⟩) q.n q.n) := cell_of h.r 22
  by_cases h1 : i < 0
  · clear hi
    go_enter Tryz.func16, Tryz.ntmps16
    go_wp2
    go_ret
    exact ⟨rfl, (Kept.refl [] w).alloc _⟩
  · by_cases h2 : (q.n : Int) ≤ i
    · clear hi
      go_enter Tryz.func16, Tryz.ntmps16
      go_wp2
      go_ret
      exact ⟨rfl, (Kept.refl [] w).alloc _⟩
    · by_cases h3 : kind < 0
      · clear hi
        go_enter Tryz.func16, Tryz.ntmps16
        go_wp2
        go_ret
        exact ⟨rfl, (Kept.refl [] w).alloc _⟩
      · have h3' : ¬ 3 < kind := by omega
        by_cases h4 : key < 0
        · clear hi
          go_enter Tryz.func16, Tryz.ntmps16
          go_wp2
          go_ret
          exact ⟨rfl, (Kept.refl [] w).alloc _⟩
        · have h5 : 7 < key := by omega
          clear hi
          go_enter Tryz.func16, Tryz.ntmps16
          go_wp2
          go_ret
          exact ⟨rfl, (Kept.refl [] w).alloc _⟩
set_option maxRecDepth 100000 in
set_option maxHeartbeats 1600000 in
theorem rbegin_busy (q : RM) (i key v o : Int) (w : World) (th : Nat → Option (Int × Int × Int)) (h : RAt q w false th) (h0 : 0 ≤ i) (hi : i < q.n) (hk0 : 0 ≤ key) (hk7 : key < 8) {x : Int × Int × Int} (hth : th i.toNat = some x) :
    Calls Tryz.prog 16 #[.pointer (some ⟨q.r, 0, none⟩), .int .i64 i, .agg #[.int .i64 0, .int .i64 key, .int .i64 v, .int .i64 o]] w fun e w' => e = .returned (.int .i64 2) ∧ Kept [] w w' := by
  have hs := lt_of_block h.r
  have hc : w.cell? ⟨q.r, 21, none⟩ = some (.bool false) := cell_of h.r 21
  have hc2 : w.cell? ⟨q.r, 22, none⟩ = some (.slice (some ⟨q.tb, 0, none⟩) q.n q.n) := cell_of h.r 22
  obtain ⟨cs, g1, g2, g3⟩ := h.tb
  have g4 := g3 i.toNat (by omega)
  obtain ⟨xk, xv, xo⟩ := x
  rw [hth] at g4
  simp only [rThread] at g4
  have c4 : w.cell? ⟨q.tb, i.toNat * 9 + 4, none⟩ = some (.int .i64 1) := by rw [cell_of g1]; exact g4.2.2.2.2
  have ht := lt_of_block g1
  have a1 : ¬ i < 0 := by omega
  have a2 : ¬ (q.n : Int) ≤ i := by omega
  have a3 : ¬ key < 0 := by omega
  have a4 : ¬ 7 < key := by omega
  clear g3 g4 g2 hth
  go_enter Tryz.func16, Tryz.ntmps16
  go_wp2
  go_ret
  exact ⟨rfl, (Kept.refl [] w).alloc _⟩
theorem rThread_nine {cs : Array Value} {i : Nat} (hsz : i * 9 + 8 < cs.size) (key v o : Int) : rThread (((((((((cs.setIfInBounds (i * 9) (.int .i64 0)).setIfInBounds (i * 9 + 1) (.int .i64 key)).setIfInBounds (i * 9 + 2) (.int .i64 v)).setIfInBounds (i * 9 + 3) (.int .i64 o)).setIfInBounds (i * 9 + 4) (.int .i64 1)).setIfInBounds (i * 9 + 5) (.int .i64 (-1))).setIfInBounds (i * 9 + 6) (.int .i64 0)).setIfInBounds (i * 9 + 7) (.int .i64 0)).setIfInBounds (i * 9 + 8) (.int .i64 0)) i (some (key, v, o)) := by
  have ne : ∀ (A : Array Value) (a b : Nat) (x : Value), a ≠ b → (A.setIfInBounds a x)[b]? = A[b]? := fun A a b x h => Array.getElem?_setIfInBounds_ne h
  have eq : ∀ (A : Array Value) (a : Nat) (x : Value), a < A.size → (A.setIfInBounds a x)[a]? = some x := fun A a x h => Array.getElem?_setIfInBounds_self_of_lt h
  simp only [rThread]
  refine ⟨?_, ?_, ?_, ?_, ?_⟩
  · rw [ne _ _ _ _ (by omega), ne _ _ _ _ (by omega), ne _ _ _ _ (by omega), ne _ _ _ _ (by omega), ne _ _ _ _ (by omega), ne _ _ _ _ (by omega), ne _ _ _ _ (by omega), ne _ _ _ _ (by omega), eq _ _ _ (by omega)]
  · rw [ne _ _ _ _ (by omega), ne _ _ _ _ (by omega), ne _ _ _ _ (by omega), ne _ _ _ _ (by omega), ne _ _ _ _ (by omega), ne _ _ _ _ (by omega), ne _ _ _ _ (by omega), eq _ _ _ (by simp; omega)]
  · rw [ne _ _ _ _ (by omega), ne _ _ _ _ (by omega), ne _ _ _ _ (by omega), ne _ _ _ _ (by omega), ne _ _ _ _ (by omega), ne _ _ _ _ (by omega), eq _ _ _ (by simp; omega)]
  · rw [ne _ _ _ _ (by omega), ne _ _ _ _ (by omega), ne _ _ _ _ (by omega), ne _ _ _ _ (by omega), ne _ _ _ _ (by omega), eq _ _ _ (by simp; omega)]
  · rw [ne _ _ _ _ (by omega), ne _ _ _ _ (by omega), ne _ _ _ _ (by omega), ne _ _ _ _ (by omega), eq _ _ _ (by simp; omega)]
set_option maxRecDepth 100000 in
set_option maxHeartbeats 1600000 in
theorem rbegin_ok (q : RM) (i key v o : Int) (w : World) (th : Nat → Option (Int × Int × Int)) (h : RAt q w false th) (h0 : 0 ≤ i) (hi : i < q.n) (hk0 : 0 ≤ key) (hk7 : key < 8) (hth : th i.toNat = none) :
    Calls Tryz.prog 16 #[.pointer (some ⟨q.r, 0, none⟩), .int .i64 i, .agg #[.int .i64 0, .int .i64 key, .int .i64 v, .int .i64 o]] w fun e w' => e = .returned (.int .i64 0) ∧ RAt q w' false (upd th i.toNat (some (key, v, o))) ∧ Kept [q.tb] w w' := by
  have hs := lt_of_block h.r
  have hc : w.cell? ⟨q.r, 21, none⟩ = some (.bool false) := cell_of h.r 21
  have hc2 : w.cell? ⟨q.r, 22, none⟩ = some (.slice (some ⟨q.tb, 0, none⟩) q.n q.n) := cell_of h.r 22
  obtain ⟨cs, g1, g2, g3⟩ := h.tb
  have g4 := g3 i.toNat (by omega)
  rw [hth] at g4
  simp only [rThread] at g4
  have hsz : i.toNat * 9 + 8 < cs.size := by omega
  have cx : ∀ j, j < 9 → ∃ y, w.cell? ⟨q.tb, i.toNat * 9 + j, none⟩ = some y := fun j hj => ⟨_, by rw [cell_of g1]; exact Array.getElem?_eq_getElem (by omega)⟩
  obtain ⟨y0, c0⟩ := cx 0 (by omega)
  obtain ⟨y1, c1⟩ := cx 1 (by omega)
  obtain ⟨y2, c2⟩ := cx 2 (by omega)
  obtain ⟨y3, c3⟩ := cx 3 (by omega)
  have c4 : w.cell? ⟨q.tb, i.toNat * 9 + 4, none⟩ = some (.int .i64 0) := by rw [cell_of g1]; exact g4
  obtain ⟨y5, c5⟩ := cx 5 (by omega)
  obtain ⟨y6, c6⟩ := cx 6 (by omega)
  obtain ⟨y7, c7⟩ := cx 7 (by omega)
  obtain ⟨y8, c8⟩ := cx 8 (by omega)
  simp only [Nat.add_zero] at c0
  have ht := lt_of_block g1
  have hfz : ∀ o, w.frozen? ⟨q.tb, o, none⟩ = false := frozen_of g1
  have a1 : ¬ i < 0 := by omega
  have a2 : ¬ (q.n : Int) ≤ i := by omega
  have a3 : ¬ key < 0 := by omega
  have a4 : ¬ 7 < key := by omega
  have HH : Hid _ := h
  have G2 : Hid _ := g2
  have G3 : Hid _ := g3
  clear g3 g4 g2 hth cx hsz h
  go_enter Tryz.func16, Tryz.ntmps16
  go_wp2_with fail
  go_region
  go_wp2
  go_ret
  have hsz : i.toNat * 9 + 8 < cs.size := by have := G2.out; omega
  have b9 := block_set_same (block_set_same (block_set_same (block_set_same (block_set_same (block_set_same (block_set_same (block_set_same (block_set_same g1 (i.toNat * 9) (.int .i64 0)) (i.toNat * 9 + 1) (.int .i64 key)) (i.toNat * 9 + 2) (.int .i64 v)) (i.toNat * 9 + 3) (.int .i64 o)) (i.toNat * 9 + 4) (.int .i64 1)) (i.toNat * 9 + 5) (.int .i64 (-1))) (i.toNat * 9 + 6) (.int .i64 0)) (i.toNat * 9 + 7) (.int .i64 0)) (i.toNat * 9 + 8) (.int .i64 0)
  have hne := ne_of_blocks HH.out.r g1 (by simp)
  have r9 := block_set_ne (block_set_ne (block_set_ne (block_set_ne (block_set_ne (block_set_ne (block_set_ne (block_set_ne (block_set_ne HH.out.r hne (i.toNat * 9) (.int .i64 0)) hne (i.toNat * 9 + 1) (.int .i64 key)) hne (i.toNat * 9 + 2) (.int .i64 v)) hne (i.toNat * 9 + 3) (.int .i64 o)) hne (i.toNat * 9 + 4) (.int .i64 1)) hne (i.toNat * 9 + 5) (.int .i64 (-1))) hne (i.toNat * 9 + 6) (.int .i64 0)) hne (i.toNat * 9 + 7) (.int .i64 0)) hne (i.toNat * 9 + 8) (.int .i64 0)
  have k9 : Kept [q.tb] w _ := ((((((((((Kept.refl _ w).setCell (p := ⟨q.tb, i.toNat * 9, none⟩) (.inl (by simp)) (.int .i64 0)).setCell (p := ⟨q.tb, i.toNat * 9 + 1, none⟩) (.inl (by simp)) (.int .i64 key)).setCell (p := ⟨q.tb, i.toNat * 9 + 2, none⟩) (.inl (by simp)) (.int .i64 v)).setCell (p := ⟨q.tb, i.toNat * 9 + 3, none⟩) (.inl (by simp)) (.int .i64 o)).setCell (p := ⟨q.tb, i.toNat * 9 + 4, none⟩) (.inl (by simp)) (.int .i64 1)).setCell (p := ⟨q.tb, i.toNat * 9 + 5, none⟩) (.inl (by simp)) (.int .i64 (-1))).setCell (p := ⟨q.tb, i.toNat * 9 + 6, none⟩) (.inl (by simp)) (.int .i64 0)).setCell (p := ⟨q.tb, i.toNat * 9 + 7, none⟩) (.inl (by simp)) (.int .i64 0)).setCell (p := ⟨q.tb, i.toNat * 9 + 8, none⟩) (.inl (by simp)) (.int .i64 0))
  have b10 := block_alloc_lt b9 (.cells #[.int .i64 0, .int .i64 key, .int .i64 v, .int .i64 o] 32)
  rw [← heap_drew] at b10
  refine ⟨rfl, ⟨HH.out.len, ?_, _, b10, ?_, fun j hj => ?_⟩, (k9.alloc _).drew⟩
  · rw [heap_drew]; exact block_alloc_lt r9 _
  · have := G2.out
    simp only [Array.size_setIfInBounds]
    exact this
  · by_cases hji : j = i.toNat
    · subst hji
      simp only [upd, if_true]
      exact rThread_nine hsz key v o
    · simp only [upd, hji, if_false]
      have hk : rThread (cs.setIfInBounds (i.toNat * 9) (.int .i64 0)) j (th j) := rThread_keep (a := 0) _ (G3.out j hj) hji (by omega)
      exact rThread_keep _ (rThread_keep _ (rThread_keep _ (rThread_keep _ (rThread_keep _ (rThread_keep _ (rThread_keep _ (rThread_keep _ hk hji (by omega)) hji (by omega)) hji (by omega)) hji (by omega)) hji (by omega)) hji (by omega)) hji (by omega)) hji (by omega)
end Go.Proofs.YtfgfpggjcfhccaaGreat
