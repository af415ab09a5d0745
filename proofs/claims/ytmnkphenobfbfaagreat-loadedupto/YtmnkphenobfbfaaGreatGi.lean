import Derived.Test.YtmnkphenobfbfaaGreatGh
import Derived.Test.YtmnkphenobfbfaaGreatGf
namespace Go.Proofs.YtmnkphenobfbfaaGreat
open Go.RowKit Go.MuLone
set_option maxRecDepth 100000 in
set_option maxHeartbeats 1600000 in
theorem begin_busy (p : PM) (i key v o : Int) (w : World) (th : Nat → Option (Int × Int × Int)) (h : PAt p 0 w false th) (h0 : 0 ≤ i) (hi : i < p.ts.length) (hk0 : 0 ≤ key) (hk7 : key < 8) {x : Int × Int × Int} (hth : th i.toNat = some x) :
    Calls Tryz.prog 16 #[.pointer (some ⟨p.m, 0, none⟩), .int .i64 i, .agg #[.int .i64 0, .int .i64 key, .int .i64 v, .int .i64 o]] w fun e w' => e = .returned (.int .i64 2) ∧ PAt p 0 w' false th ∧ Kept [p.m] w w' := by
  have hcap := h.cap
  have hs := lt_of_block h.m
  have h1 := (h.alloc (.cells #[Value.int .i64 0, .int .i64 key, .int .i64 v, .int .i64 o] 32)).lock 1
  have k1 : Kept [p.m] w ((w.alloc (.cells #[Value.int .i64 0, .int .i64 key, .int .i64 v, .int .i64 o] 32)).setCell ⟨p.m, 0, none⟩ (.int .i32 1)) := ((Kept.refl _ w).alloc _).setCell (.inl (by simp)) _
  have hr : ((w.alloc (.cells #[Value.int .i64 0, .int .i64 key, .int .i64 v, .int .i64 o] 32)).setCell ⟨p.m, 0, none⟩ (.int .i32 1)).heap[w.heap.size]? = some (.cells #[Value.int .i64 0, .int .i64 key, .int .i64 v, .int .i64 o] 32 (0, 0)) :=
    block_set_ne (block_alloc_new _ _) (by omega) _ _
  go_enter_defers Tryz.func16, Tryz.ntmps16
  go_wp2_with fail
  refine (lock_free Tryz.muLib ⟨p.m, 0, none⟩ _ ?_ ?_).mono ?_
  · rw [cell_of (h.alloc _).m]; rfl
  · rw [frozen_of (h.alloc _).m]
  rintro e w' ⟨rfl, rfl⟩
  generalize ((w.alloc (.cells #[Value.int .i64 0, .int .i64 key, .int .i64 v, .int .i64 o] 32)).setCell ⟨p.m, 0, none⟩ (.int .i32 1)) = W at *
  go_wp2_with fail
  refine (isClosed_no p.m p.c 0 0 _ (by rw [cell_of h1.m]; rfl) h1.c).mono ?_
  rintro e w' ⟨rfl, rfl⟩
  go_wp2_with fail
  refine (hasThread_yes p.m (some ⟨p.tb, 0, none⟩) p.ts.length p.cap i _ (by rw [cell_of h1.m]; rfl) h0 hi).mono ?_
  rintro e w' ⟨rfl, rfl⟩
  have hco : ∀ x, w'.cell? ⟨w.heap.size, x, none⟩ = #[Value.int .i64 0, .int .i64 key, .int .i64 v, .int .i64 o][x]? := cell_of hr
  go_wp2_with fail
  refine (mayBe_yes key v o _ hk0 hk7).mono ?_
  rintro e w2 ⟨rfl, k2⟩
  replace h1 := h1.keptNil k2
  replace k1 := k1.trans (k2.mono (by simp))
  obtain ⟨t, ht, hct, hbt⟩ := h1.nth (i := i.toNat) (by omega)
  have c4 : w2.cell? ⟨p.m, 4, none⟩ = some (.slice (some ⟨p.tb, 0, none⟩) p.ts.length p.cap) := cell_of h1.m 4
  obtain ⟨xk, xv, xo⟩ := x
  rw [hth] at hbt
  clear hco k2 hr hk0 hk7 hth ht
  go_wp2_with fail
  refine (busy_yes t (.func 70) #[.pointer (some ⟨t, 0, none⟩)] #[] _ (by rw [cell_of hbt]; rfl)).mono ?_
  rintro e w3 ⟨rfl, rfl⟩
  clear c4 hct
  go_wp2
  refine door_unlock p.m _ (by rw [cell_of h1.m]; rfl) (by rw [frozen_of h1.m]) (res14 rfl) ⟨rfl, h1.lock 0, k1.setCell (.inl (by simp)) _⟩
set_option maxRecDepth 100000 in
set_option maxHeartbeats 1600000 in
theorem begin_ok (p : PM) (i key v o : Int) (w : World) (th : Nat → Option (Int × Int × Int)) (h : PAt p 0 w false th) (h0 : 0 ≤ i) (hi : i < p.ts.length) (hk0 : 0 ≤ key) (hk7 : key < 8) (hth : th i.toNat = none) :
    Calls Tryz.prog 16 #[.pointer (some ⟨p.m, 0, none⟩), .int .i64 i, .agg #[.int .i64 0, .int .i64 key, .int .i64 v, .int .i64 o]] w fun e w' => e = .returned (.int .i64 0) ∧ PAt p 0 w' false (upd th i.toNat (some (key, v, o))) ∧ Kept (p.m :: p.ts) w w' := by
  have hcap := h.cap
  have hs := lt_of_block h.m
  have h1 := (h.alloc (.cells #[Value.int .i64 0, .int .i64 key, .int .i64 v, .int .i64 o] 32)).lock 1
  have k1 : Kept [p.m] w ((w.alloc (.cells #[Value.int .i64 0, .int .i64 key, .int .i64 v, .int .i64 o] 32)).setCell ⟨p.m, 0, none⟩ (.int .i32 1)) := ((Kept.refl _ w).alloc _).setCell (.inl (by simp)) _
  have hr : ((w.alloc (.cells #[Value.int .i64 0, .int .i64 key, .int .i64 v, .int .i64 o] 32)).setCell ⟨p.m, 0, none⟩ (.int .i32 1)).heap[w.heap.size]? = some (.cells #[Value.int .i64 0, .int .i64 key, .int .i64 v, .int .i64 o] 32 (0, 0)) :=
    block_set_ne (block_alloc_new _ _) (by omega) _ _
  go_enter_defers Tryz.func16, Tryz.ntmps16
  go_wp2_with fail
  refine (lock_free Tryz.muLib ⟨p.m, 0, none⟩ _ ?_ ?_).mono ?_
  · rw [cell_of (h.alloc _).m]; rfl
  · rw [frozen_of (h.alloc _).m]
  rintro e w' ⟨rfl, rfl⟩
  generalize ((w.alloc (.cells #[Value.int .i64 0, .int .i64 key, .int .i64 v, .int .i64 o] 32)).setCell ⟨p.m, 0, none⟩ (.int .i32 1)) = W at *
  go_wp2_with fail
  refine (isClosed_no p.m p.c 0 0 _ (by rw [cell_of h1.m]; rfl) h1.c).mono ?_
  rintro e w' ⟨rfl, rfl⟩
  go_wp2_with fail
  refine (hasThread_yes p.m (some ⟨p.tb, 0, none⟩) p.ts.length p.cap i _ (by rw [cell_of h1.m]; rfl) h0 hi).mono ?_
  rintro e w' ⟨rfl, rfl⟩
  have hco : ∀ x, w'.cell? ⟨w.heap.size, x, none⟩ = #[Value.int .i64 0, .int .i64 key, .int .i64 v, .int .i64 o][x]? := cell_of hr
  go_wp2_with fail
  refine (mayBe_yes key v o _ hk0 hk7).mono ?_
  rintro e w2 ⟨rfl, k2⟩
  replace h1 := h1.keptNil k2
  replace k1 := k1.trans (k2.mono (by simp))
  replace hr := k2.at hr (by simp)
  obtain ⟨t, ht, hct, hbt⟩ := h1.nth (i := i.toNat) (by omega)
  have c4 : w2.cell? ⟨p.m, 4, none⟩ = some (.slice (some ⟨p.tb, 0, none⟩) p.ts.length p.cap) := cell_of h1.m 4
  rw [hth] at hbt
  have HP : Hid _ := ht
  clear hco k2 hk0 hk7 hth ht
  go_wp2_with fail
  refine (busy_no t _ (by rw [cell_of hbt]; rfl)).mono ?_
  rintro e w3 ⟨rfl, rfl⟩
  have hco : ∀ x, w3.cell? ⟨w.heap.size, x, none⟩ = #[Value.int .i64 0, .int .i64 key, .int .i64 v, .int .i64 o][x]? := cell_of hr
  go_wp2_with fail
  go_region_held3 (fun w' => w'.cell? ⟨p.m, 4, none⟩ = some (.slice (some ⟨p.tb, 0, none⟩) p.ts.length p.cap) ∧ w'.cell? ⟨p.tb, i.toNat, none⟩ = some (.pointer (some ⟨t, 0, none⟩)) ∧ (∀ x, w'.cell? ⟨w.heap.size, x, none⟩ = #[Value.int .i64 0, .int .i64 key, .int .i64 v, .int .i64 o][x]?))
    (first | exact ⟨g1, g2, g3⟩ | exact ⟨c4, hct, hco⟩)
    (first | (go_at_call 34; refine (tbegin i.toNat p.s t key v o _ (by exact hbt)).mono ?_; rintro e w4 ⟨rfl, hb4, k4⟩; have hn4 := h1.drew.thread HP.out (some (key, v, o)) hb4 k4; have g1 := cell_of hn4.m 4; obtain ⟨t4, ht4, g2, _⟩ := hn4.nth (i := i.toNat) (by omega); obtain rfl : t4 = t := Option.some.inj (ht4.symm.trans HP.out); have hr4 := k4.at hr (by simpa using ne_of_blocks hr hbt (by simp)); have g3 := cell_of hr4))
  have k5 : Kept (p.m :: p.ts) w w4 := (k1.mono (by simp)).trans ((Kept.refl _ w3).drew.trans (k4.mono (fun x hx => by cases List.mem_singleton.1 hx; exact List.mem_cons_of_mem _ (List.mem_of_getElem? HP.out))))
  clear g1 g2 g3 hco c4 hct
  go_wp2
  refine door_unlock p.m _ (by rw [cell_of hn4.m]; rfl) (by rw [frozen_of hn4.m]) (res14 rfl) ⟨rfl, hn4.lock 0, k5.setCell (.inl (by simp)) _⟩
end Go.Proofs.YtmnkphenobfbfaaGreat
namespace Go.Proofs.YtmnkphenobfbfaaGreat
open Go.RowKit
set_option maxRecDepth 100000 in
set_option maxHeartbeats 1600000 in
theorem rbegin_closed (q : RM) (i kind key v o : Int) (w : World) (th : Nat → Option (Int × Int × Int)) (h : RAt q w true th)  :
    Calls Tryz.prog 17 #[.pointer (some ⟨q.r, 0, none⟩), .int .i64 i, .agg #[.int .i64 kind, .int .i64 key, .int .i64 v, .int .i64 o]] w fun e w' => e = .returned (.int .i64 5) ∧ Kept [] w w' := by
  have hs := lt_of_block h.r
  have hc : w.cell? ⟨q.r, 21, none⟩ = some (.bool true) := cell_of h.r 21
  have hc2 : w.cell? ⟨q.r, 22, none⟩ = some (.slice (some ⟨q.tb, 0, none⟩) q.n q.n) := cell_of h.r 22
  go_enter Tryz.func17, Tryz.ntmps17
  go_wp2
  go_ret
  exact ⟨rfl, (Kept.refl [] w).alloc _⟩
set_option maxRecDepth 100000 in
set_option maxHeartbeats 1600000 in
theorem rbegin_arg (q : RM) (i kind key v o : Int) (w : World) (th : Nat → Option (Int × Int × Int)) (h : RAt q w false th) (hk : kind ≤ 0) (hi : i < 0 ∨ (q.n : Int) ≤ i ∨ kind < 0 ∨ key < 0 ∨ 8 ≤ key) :
    Calls Tryz.prog 17 #[.pointer (some ⟨q.r, 0, none⟩), .int .i64 i, .agg #[.int .i64 kind, .int .i64 key, .int .i64 v, .int .i64 o]] w fun e w' => e = .returned (.int .i64 1) ∧ Kept [] w w' := by
  have hs := lt_of_block h.r
  have hc : w.cell? ⟨q.r, 21, none⟩ = some (.bool false) := cell_of h.r 21
  have hc2 : w.cell? ⟨q.r, 22, none⟩ = some (.slice (some ⟨q.tb, 0, none⟩) q.n q.n) := cell_of h.r 22
  by_cases h1 : i < 0
  · clear hi
    go_enter Tryz.func17, Tryz.ntmps17
    go_wp2
    go_ret
    exact ⟨rfl, (Kept.refl [] w).alloc _⟩
  · by_cases h2 : (q.n : Int) ≤ i
    · clear hi
      go_enter Tryz.func17, Tryz.ntmps17
      go_wp2
      go_ret
      exact ⟨rfl, (Kept.refl [] w).alloc _⟩
    · by_cases h3 : kind < 0
      · clear hi
        go_enter Tryz.func17, Tryz.ntmps17
        go_wp2
        go_ret
        exact ⟨rfl, (Kept.refl [] w).alloc _⟩
      · have h3' : ¬ 3 < kind := by omega
        by_cases h4 : key < 0
        · clear hi
          go_enter Tryz.func17, Tryz.ntmps17
          go_wp2
          go_ret
          exact ⟨rfl, (Kept.refl [] w).alloc _⟩
        · have h5 : 7 < key := by omega
          clear hi
          go_enter Tryz.func17, Tryz.ntmps17
          go_wp2
          go_ret
          exact ⟨rfl, (Kept.refl [] w).alloc _⟩
set_option maxRecDepth 100000 in
set_option maxHeartbeats 1600000 in
theorem rbegin_busy (q : RM) (i key v o : Int) (w : World) (th : Nat → Option (Int × Int × Int)) (h : RAt q w false th) (h0 : 0 ≤ i) (hi : i < q.n) (hk0 : 0 ≤ key) (hk7 : key < 8) {x : Int × Int × Int} (hth : th i.toNat = some x) :
    Calls Tryz.prog 17 #[.pointer (some ⟨q.r, 0, none⟩), .int .i64 i, .agg #[.int .i64 0, .int .i64 key, .int .i64 v, .int .i64 o]] w fun e w' => e = .returned (.int .i64 2) ∧ Kept [] w w' := by
  have hs := lt_of_block h.r
  have hc : w.cell? ⟨q.r, 21, none⟩ = some (.bool false) := cell_of h.r 21
  have hc2 : w.cell? ⟨q.r, 22, none⟩ = some (.slice (some ⟨q.tb, 0, none⟩) q.n q.n) := cell_of h.r 22
  obtain ⟨cs, g1, g2, g3⟩ := h.tb
  have g4 := g3 i.toNat (by omega)
  obtain ⟨xk, xv, xo⟩ := x
  rw [hth] at g4
  simp only [rThread] at g4
  have c4 : w.cell? ⟨q.tb, i.toNat * 9 + 4, none⟩ = some (.int .i64 1) := by rw [cell_of g1]; exact g4.2.2.2.2
  have ht := lt_of_block g1
  have a1 : ¬ i < 0 := by omega
  have a2 : ¬ (q.n : Int) ≤ i := by omega
  have a3 : ¬ key < 0 := by omega
  have a4 : ¬ 7 < key := by omega
  clear g3 g4 g2 hth
  go_enter Tryz.func17, Tryz.ntmps17
  go_wp2
  go_ret
  exact ⟨rfl, (Kept.refl [] w).alloc _⟩
theorem rThread_nine {cs : Array Value} {i : Nat} (hsz : i * 9 + 8 < cs.size) (key v o : Int) : rThread (((((((((cs.setIfInBounds (i * 9) (.int .i64 0)).setIfInBounds (i * 9 + 1) (.int .i64 key)).setIfInBounds (i * 9 + 2) (.int .i64 v)).setIfInBounds (i * 9 + 3) (.int .i64 o)).setIfInBounds (i * 9 + 4) (.int .i64 1)).setIfInBounds (i * 9 + 5) (.int .i64 (-1))).setIfInBounds (i * 9 + 6) (.int .i64 0)).setIfInBounds (i * 9 + 7) (.int .i64 0)).setIfInBounds (i * 9 + 8) (.int .i64 0)) i (some (key, v, o)) := by
  have ne : ∀ (A : Array Value) (a b : Nat) (x : Value), a ≠ b → (A.setIfInBounds a x)[b]? = A[b]? := fun A a b x h => Array.getElem?_setIfInBounds_ne h
  have eq : ∀ (A : Array Value) (a : Nat) (x : Value), a < A.size → (A.setIfInBounds a x)[a]? = some x := fun A a x h => Array.getElem?_setIfInBounds_self_of_lt h
  simp only [rThread]
  refine ⟨?_, ?_, ?_, ?_, ?_⟩
  · rw [ne _ _ _ _ (by omega), ne _ _ _ _ (by omega), ne _ _ _ _ (by omega), ne _ _ _ _ (by omega), ne _ _ _ _ (by omega), ne _ _ _ _ (by omega), ne _ _ _ _ (by omega), ne _ _ _ _ (by omega), eq _ _ _ (by omega)]
  · rw [ne _ _ _ _ (by omega), ne _ _ _ _ (by omega), ne _ _ _ _ (by omega), ne _ _ _ _ (by omega), ne _ _ _ _ (by omega), ne _ _ _ _ (by omega), ne _ _ _ _ (by omega), eq _ _ _ (by simp; omega)]
  · rw [ne _ _ _ _ (by omega), ne _ _ _ _ (by omega), ne _ _ _ _ (by omega), ne _ _ _ _ (by omega), ne _ _ _ _ (by omega), ne _ _ _ _ (by omega), eq _ _ _ (by simp; omega)]
  · rw [ne _ _ _ _ (by omega), ne _ _ _ _ (by omega), ne _ _ _ _ (by omega), ne _ _ _ _ (by omega), ne _ _ _ _ (by omega), eq _ _ _ (by simp; omega)]
  · rw [ne _ _ _ _ (by omega), ne _ _ _ _ (by omega), ne _ _ _ _ (by omega), ne _ _ _ _ (by omega), eq _ _ _ (by simp; omega)]
set_option maxRecDepth 100000 in
set_option maxHeartbeats 1600000 in
theorem rbegin_ok (q : RM) (i key v o : Int) (w : World) (th : Nat → Option (Int × Int × Int)) (h : RAt q w false th) (h0 : 0 ≤ i) (hi : i < q.n) (hk0 : 0 ≤ key) (hk7 : key < 8) (hth : th i.toNat = none) :
    Calls Tryz.prog 17 #[.pointer (some ⟨q.r, 0, none⟩), .int .i64 i, .agg #[.int .i64 0, .int .i64 key, .int .i64 v, .int .i64 o]] w fun e w' => e = .returned (.int .i64 0) ∧ RAt q w' false (upd th i.toNat (some (key, v, o))) ∧ Kept [q.tb] w w' := by
  have hs := lt_of_block h.r
  have hc : w.cell? ⟨q.r, 21, none⟩ = some (.bool false) := cell_of h.r 21
  have hc2 : w.cell? ⟨q.r, 22, none⟩ = some (.slice (some ⟨q.tb, 0, none⟩) q.n q.n) := cell_of h.r 22
  obtain ⟨cs, g1, g2, g3⟩ := h.tb
  have g4 := g3 i.toNat (by omega)
  rw [hth] at g4
  simp only [rThread] at g4
  have hsz : i.toNat * 9 + 8 < cs.size := by omega
  have cx : ∀ j, j < 9 → ∃ y, w.cell? ⟨q.tb, i.toNat * 9 + j, none⟩ = some y := fun j hj => ⟨_, by rw [cell_of g1]; exact Array.getElem?_eq_getElem (by omega)⟩
  obtain ⟨y0, c0⟩ := cx 0 (by omega)
  obtain ⟨y1, c1⟩ := cx 1 (by omega)
  obtain ⟨y2, c2⟩ := cx 2 (by omega)
  obtain ⟨y3, c3⟩ := cx 3 (by omega)
  have c4 : w.cell? ⟨q.tb, i.toNat * 9 + 4, none⟩ = some (.int .i64 0) := by rw [cell_of g1]; exact g4
  obtain ⟨y5, c5⟩ := cx 5 (by omega)
  obtain ⟨y6, c6⟩ := cx 6 (by omega)
  obtain ⟨y7, c7⟩ := cx 7 (by omega)
  obtain ⟨y8, c8⟩ := cx 8 (by omega)
  simp only [Nat.add_zero] at c0
  have ht := lt_of_block g1
  have hfz : ∀ o, w.frozen? ⟨q.tb, o, none⟩ = false := frozen_of g1
  have a1 : ¬ i < 0 := by omega
  have a2 : ¬ (q.n : Int) ≤ i := by omega
  have a3 : ¬ key < 0 := by omega
  have a4 : ¬ 7 < key := by omega
  have HH : Hid _ := h
  have G2 : Hid _ := g2
  have G3 : Hid _ := g3
  clear g3 g4 g2 hth cx hsz h
  go_enter Tryz.func17, Tryz.ntmps17
  go_wp2_with fail
  go_region
  go_wp2
  go_ret
  have hsz : i.toNat * 9 + 8 < cs.size := by have := G2.out; omega
  have b9 := block_set_same (block_set_same (block_set_same (block_set_same (block_set_same (block_set_same (block_set_same (block_set_same (block_set_same g1 (i.toNat * 9) (.int .i64 0)) (i.toNat * 9 + 1) (.int .i64 key)) (i.toNat * 9 + 2) (.int .i64 v)) (i.toNat * 9 + 3) (.int .i64 o)) (i.toNat * 9 + 4) (.int .i64 1)) (i.toNat * 9 + 5) (.int .i64 (-1))) (i.toNat * 9 + 6) (.int .i64 0)) (i.toNat * 9 + 7) (.int .i64 0)) (i.toNat * 9 + 8) (.int .i64 0)
  have hne := ne_of_blocks HH.out.r g1 (by simp)
  have r9 := block_set_ne (block_set_ne (block_set_ne (block_set_ne (block_set_ne (block_set_ne (block_set_ne (block_set_ne (block_set_ne HH.out.r hne (i.toNat * 9) (.int .i64 0)) hne (i.toNat * 9 + 1) (.int .i64 key)) hne (i.toNat * 9 + 2) (.int .i64 v)) hne (i.toNat * 9 + 3) (.int .i64 o)) hne (i.toNat * 9 + 4) (.int .i64 1)) hne (i.toNat * 9 + 5) (.int .i64 (-1))) hne (i.toNat * 9 + 6) (.int .i64 0)) hne (i.toNat * 9 + 7) (.int .i64 0)) hne (i.toNat * 9 + 8) (.int .i64 0)
  have k9 : Kept [q.tb] w _ := ((((((((((Kept.refl _ w).setCell (p := ⟨q.tb, i.toNat * 9, none⟩) (.inl (by simp)) (.int .i64 0)).setCell (p := ⟨q.tb, i.toNat * 9 + 1, none⟩) (.inl (by simp)) (.int .i64 key)).setCell (p := ⟨q.tb, i.toNat * 9 + 2, none⟩) (.inl (by simp)) (.int .i64 v)).setCell (p := ⟨q.tb, i.toNat * 9 + 3, none⟩) (.inl (by simp)) (.int .i64 o)).setCell (p := ⟨q.tb, i.toNat * 9 + 4, none⟩) (.inl (by simp)) (.int .i64 1)).setCell (p := ⟨q.tb, i.toNat * 9 + 5, none⟩) (.inl (by simp)) (.int .i64 (-1))).setCell (p := ⟨q.tb, i.toNat * 9 + 6, none⟩) (.inl (by simp)) (.int .i64 0)).setCell (p := ⟨q.tb, i.toNat * 9 + 7, none⟩) (.inl (by simp)) (.int .i64 0)).setCell (p := ⟨q.tb, i.toNat * 9 + 8, none⟩) (.inl (by simp)) (.int .i64 0))
  have b10 := block_alloc_lt b9 (.cells #[.int .i64 0, .int .i64 key, .int .i64 v, .int .i64 o] 32)
  rw [← heap_drew] at b10
  refine ⟨rfl, ⟨HH.out.len, ?_, _, b10, ?_, fun j hj => ?_⟩, (k9.alloc _).drew⟩
  · rw [heap_drew]; exact block_alloc_lt r9 _
  · have := G2.out
    simp only [Array.size_setIfInBounds]
    exact this
  · by_cases hji : j = i.toNat
    · subst hji
      simp only [upd, if_true]
      exact rThread_nine hsz key v o
    · simp only [upd, hji, if_false]
      have hk : rThread (cs.setIfInBounds (i.toNat * 9) (.int .i64 0)) j (th j) := rThread_keep (a := 0) _ (G3.out j hj) hji (by omega)
      exact rThread_keep _ (rThread_keep _ (rThread_keep _ (rThread_keep _ (rThread_keep _ (rThread_keep _ (rThread_keep _ (rThread_keep _ hk hji (by omega)) hji (by omega)) hji (by omega)) hji (by omega)) hji (by omega)) hji (by omega)) hji (by omega)) hji (by omega)
end Go.Proofs.YtmnkphenobfbfaaGreat
namespace Go.Proofs.YtmnkphenobfbfaaGreat
open Go.RowKit Go.MuLone Go.Conc
def beginE (cl : Bool) (n : Nat) (th : Nat → Option (Int × Int × Int)) (i kind key : Int) : Int :=
  if cl = true then 5 else if (i < 0 ∨ (n : Int) ≤ i) ∨ kind < 0 ∨ key < 0 ∨ 8 ≤ key then 1 else if (th i.toNat).isSome then 2 else 0
def beginT (cl : Bool) (n : Nat) (th : Nat → Option (Int × Int × Int)) (i kind key v o : Int) : Nat → Option (Int × Int × Int) :=
  if beginE cl n th i kind key = 0 then upd th i.toNat (some (key, v, o)) else th
theorem beginE_ok {n : Nat} {th : Nat → Option (Int × Int × Int)} {i key : Int} (h : ¬ ((i < 0 ∨ (n : Int) ≤ i) ∨ (0 : Int) < 0 ∨ key < 0 ∨ 8 ≤ key)) (ht : th i.toNat = none) : beginE false n th i 0 key = 0 := by
  unfold beginE
  rw [if_neg (by simp), if_neg h, ht]
  rfl
theorem beginE_busy {n : Nat} {th : Nat → Option (Int × Int × Int)} {i key : Int} {x : Int × Int × Int} (h : ¬ ((i < 0 ∨ (n : Int) ≤ i) ∨ (0 : Int) < 0 ∨ key < 0 ∨ 8 ≤ key)) (ht : th i.toNat = some x) : beginE false n th i 0 key = 2 := by
  unfold beginE
  rw [if_neg (by simp), if_neg h, ht]
  rfl
theorem pbegin (p : PM) (i kind key v o : Int) (cl : Bool) (w : World) (th : Nat → Option (Int × Int × Int)) (h : PAt p 0 w cl th) (hk : kind ≤ 0) :
    Calls Tryz.prog 16 #[.pointer (some ⟨p.m, 0, none⟩), .int .i64 i, .agg #[.int .i64 kind, .int .i64 key, .int .i64 v, .int .i64 o]] w fun e w' => e = .returned (.int .i64 (beginE cl p.ts.length th i kind key)) ∧
      PAt p 0 w' cl (beginT cl p.ts.length th i kind key v o) ∧ Kept (p.m :: p.ts) w w' := by
  cases cl with
  | true =>
    refine (begin_closed p i kind key v o w th h).mono ?_
    rintro e w' ⟨rfl, h', k'⟩
    exact ⟨by simp [beginE], by simpa [beginT, beginE] using h', k'.mono (by simp)⟩
  | false =>
    by_cases hi : i < 0 ∨ (p.ts.length : Int) ≤ i
    · refine (begin_noThread p i kind key v o w th h hi).mono ?_
      rintro e w' ⟨rfl, h', k'⟩
      exact ⟨by simp [beginE, hi], by simpa [beginT, beginE, hi] using h', k'.mono (by simp)⟩
    · by_cases hm : kind < 0 ∨ key < 0 ∨ 8 ≤ key
      · refine (begin_arg p i kind key v o w th h (by omega) (by omega) hk hm).mono ?_
        rintro e w' ⟨rfl, h', k'⟩
        exact ⟨by simp [beginE, hi, hm], by simpa [beginT, beginE, hi, hm] using h', k'.mono (by simp)⟩
      · obtain rfl : kind = 0 := by omega
        rcases ht : th i.toNat with _ | x
        · refine (begin_ok p i key v o w th h (by omega) (by omega) (by omega) (by omega) ht).mono ?_
          rintro e w' ⟨rfl, h', k'⟩
          have he := beginE_ok (n := p.ts.length) (th := th) (i := i) (key := key) (by omega) ht
          exact ⟨by rw [he], by unfold beginT; rw [if_pos he]; exact h', k'⟩
        · refine (begin_busy p i key v o w th h (by omega) (by omega) (by omega) (by omega) ht).mono ?_
          rintro e w' ⟨rfl, h', k'⟩
          have he := beginE_busy (n := p.ts.length) (th := th) (i := i) (key := key) (by omega) ht
          exact ⟨by rw [he], by unfold beginT; rw [if_neg (by rw [he]; omega)]; exact h', k'.mono (by simp)⟩
theorem rbegin (q : RM) (i kind key v o : Int) (cl : Bool) (w : World) (th : Nat → Option (Int × Int × Int)) (h : RAt q w cl th) (hk : kind ≤ 0) :
    Calls Tryz.prog 17 #[.pointer (some ⟨q.r, 0, none⟩), .int .i64 i, .agg #[.int .i64 kind, .int .i64 key, .int .i64 v, .int .i64 o]] w fun e w' => e = .returned (.int .i64 (beginE cl q.n th i kind key)) ∧
      RAt q w' cl (beginT cl q.n th i kind key v o) ∧ Kept [q.tb] w w' := by
  cases cl with
  | true =>
    refine (rbegin_closed q i kind key v o w th h).mono ?_
    rintro e w' ⟨rfl, k'⟩
    exact ⟨by simp [beginE], by simpa [beginT, beginE] using h.keptNil k', k'.mono (by simp)⟩
  | false =>
    by_cases hi : (i < 0 ∨ (q.n : Int) ≤ i) ∨ kind < 0 ∨ key < 0 ∨ 8 ≤ key
    · refine (rbegin_arg q i kind key v o w th h hk (by omega)).mono ?_
      rintro e w' ⟨rfl, k'⟩
      exact ⟨by simp [beginE, hi], by simpa [beginT, beginE, hi] using h.keptNil k', k'.mono (by simp)⟩
    · obtain rfl : kind = 0 := by omega
      rcases ht : th i.toNat with _ | x
      · refine (rbegin_ok q i key v o w th h (by omega) (by omega) (by omega) (by omega) ht).mono ?_
        rintro e w' ⟨rfl, h', k'⟩
        have he := beginE_ok (n := q.n) (th := th) (i := i) (key := key) hi ht
        exact ⟨by rw [he], by unfold beginT; rw [if_pos he]; exact h', k'⟩
      · refine (rbegin_busy q i key v o w th h (by omega) (by omega) (by omega) (by omega) ht).mono ?_
        rintro e w' ⟨rfl, k'⟩
        have he := beginE_busy (n := q.n) (th := th) (i := i) (key := key) hi ht
        exact ⟨by rw [he], by unfold beginT; rw [if_neg (by rw [he]; omega)]; exact h.keptNil k', k'.mono (by simp)⟩
theorem keys_beginT {cl : Bool} {n : Nat} {th : Nat → Option (Int × Int × Int)} {i kind key v o : Int} (h : KeysOk th) : KeysOk (beginT cl n th i kind key v o) := by
  intro j k v' o' hj
  unfold beginT at hj
  split at hj
  · rename_i he
    unfold upd at hj
    split at hj
    · simp only [Option.some.injEq, Prod.mk.injEq] at hj
      obtain ⟨rfl, _, _⟩ := hj
      unfold beginE at he
      split at he
      · omega
      · split at he
        · omega
        · omega
    · exact h j k v' o' hj
  · exact h j k v' o' hj
end Go.Proofs.YtmnkphenobfbfaaGreat
namespace Go.Proofs.YtmnkphenobfbfaaGreat
open Go.RowKit
set_option maxRecDepth 100000 in
set_option maxHeartbeats 4000000 in
theorem does_begin (b : Nat) (p : PM) (q : RM) (cl : Bool) (x0 i kind key v o : Int) (w : World) (th : Nat → Option (Int × Int × Int)) (h : Two b p q w cl th) (hk : kind ≤ 0) :
    Calls Tryz.prog 9 #[.pointer (some ⟨b, 0, none⟩), .agg #[.int .i64 2, .int .i64 x0, .int .i64 i, .int .i64 kind, .int .i64 key, .int .i64 v, .int .i64 o]] w fun e w' =>
      e = .returned (.bool true) ∧ Two b p q w' cl (beginT cl p.ts.length th i kind key v o) ∧ Kept (p.m :: q.tb :: p.ts) w w' := by
  have hs := lt_of_block h.b
  have h0 := h.keptNil ((Kept.refl [] w).alloc (.cells #[Value.int .i64 2, .int .i64 x0, .int .i64 i, .int .i64 kind, .int .i64 key, .int .i64 v, .int .i64 o] 34))
  have ho : (w.alloc (.cells #[Value.int .i64 2, .int .i64 x0, .int .i64 i, .int .i64 kind, .int .i64 key, .int .i64 v, .int .i64 o] 34)).heap[w.heap.size]? = some (.cells #[Value.int .i64 2, .int .i64 x0, .int .i64 i, .int .i64 kind, .int .i64 key, .int .i64 v, .int .i64 o] 34 (0, 0)) := block_alloc_new _ _
  have hK : Kept (p.m :: q.tb :: p.ts) w (w.alloc (.cells #[Value.int .i64 2, .int .i64 x0, .int .i64 i, .int .i64 kind, .int .i64 key, .int .i64 v, .int .i64 o] 34)) := (Kept.refl _ w).alloc _
  go_enter Tryz.func9, Tryz.ntmps9
  go_wp2_with fail
  generalize (w.alloc (.cells #[Value.int .i64 2, .int .i64 x0, .int .i64 i, .int .i64 kind, .int .i64 key, .int .i64 v, .int .i64 o] 34)) = W0 at *
  have d0 : W0.cell? ⟨b, 0, none⟩ = some (.pointer (some ⟨p.m, 0, none⟩)) := cell_of h0.b 0
  have d2 : ∀ x, W0.cell? ⟨w.heap.size, x, none⟩ = #[Value.int .i64 2, .int .i64 x0, .int .i64 i, .int .i64 kind, .int .i64 key, .int .i64 v, .int .i64 o][x]? := cell_of ho
  go_region_held3 (fun w' => w'.cell? ⟨b, 0, none⟩ = some (.pointer (some ⟨p.m, 0, none⟩)) ∧ (∀ x, w'.cell? ⟨w.heap.size, x, none⟩ = #[Value.int .i64 2, .int .i64 x0, .int .i64 i, .int .i64 kind, .int .i64 key, .int .i64 v, .int .i64 o][x]?))
    (first | exact ⟨g0, g2⟩ | exact ⟨d0, d2⟩)
    (first | (go_at_call 16; refine (pbegin p i kind key v o cl _ th (by exact h0.p.drew) hk).mono ?_; rintro e w1 ⟨rfl, hp, k1⟩; have hM := h0.drew.mid hp k1; have hob := k1.at ho (h0.p.offTs ho (by simp) (by simp)); have g0 := cell_of hM.b 0; have g2 := cell_of hob))
  clear g0 g2 d0 d2
  have K1 : Kept (p.m :: q.tb :: p.ts) w w1 := hK.trans ((Kept.refl _ W0).drew.trans (k1.mono (by simp only [List.mem_cons]; intro x hx; rcases hx with hx | hx; exact .inl hx; exact .inr (.inr hx))))
  have d0 : w1.cell? ⟨b, 1, none⟩ = some (.pointer (some ⟨q.r, 0, none⟩)) := cell_of hM.b 1
  have d2 : ∀ x, w1.cell? ⟨w.heap.size, x, none⟩ = #[Value.int .i64 2, .int .i64 x0, .int .i64 i, .int .i64 kind, .int .i64 key, .int .i64 v, .int .i64 o][x]? := cell_of hob
  obtain ⟨tcs, htb, _⟩ := hM.q.tb
  have hn := hM.n
  have HN : Hid _ := hn
  clear hn
  go_wp2_with fail
  go_region_held3 (fun w' => w'.cell? ⟨b, 1, none⟩ = some (.pointer (some ⟨q.r, 0, none⟩)) ∧ (∀ x, w'.cell? ⟨w.heap.size, x, none⟩ = #[Value.int .i64 2, .int .i64 x0, .int .i64 i, .int .i64 kind, .int .i64 key, .int .i64 v, .int .i64 o][x]?))
    (first | exact ⟨g0, g2⟩ | exact ⟨d0, d2⟩)
    (first | (go_at_call 17; refine (rbegin q i kind key v o cl _ th (by exact hM.q.drew) hk).mono ?_; rintro e w2 ⟨rfl, hq, k2⟩; rw [HN.out] at hq ⊢; have hT := (hM.keptNil (Kept.refl [] w1).drew).two hq k2; have hob2 := k2.at hob (by simpa using ne_of_blocks hob htb (by simp)); have g0 := cell_of hT.b 1; have g2 := cell_of hob2))
  have K2 : Kept (p.m :: q.tb :: p.ts) w w2 := K1.trans ((Kept.refl _ w1).drew.trans (k2.mono (by simp)))
  clear g0 g2 d0 d2
  go_wp2
  go_ret
  exact ⟨by simp, hT, K2⟩
theorem RAt.shut {q : RM} {w : World} {cl : Bool} {th : Nat → Option (Int × Int × Int)} (h : RAt q w cl th) : RAt q (w.setCell ⟨q.r, 21, none⟩ (.bool true)) true th := by
  obtain ⟨cs, g1, g2⟩ := h.tb
  refine ⟨h.len, ?_, cs, block_set_ne g1 (ne_of_blocks g1 h.r (by simp)) _ _, g2⟩
  rw [block_set_same h.r]
  simp [rCells]
set_option maxRecDepth 100000 in
set_option maxHeartbeats 4000000 in
theorem does_close (b : Nat) (p : PM) (q : RM) (cl : Bool) (x0 i y0 y1 y2 y3 : Int) (w : World) (th : Nat → Option (Int × Int × Int)) (h : Two b p q w cl th) :
    Calls Tryz.prog 9 #[.pointer (some ⟨b, 0, none⟩), .agg #[.int .i64 5, .int .i64 x0, .int .i64 i, .int .i64 y0, .int .i64 y1, .int .i64 y2, .int .i64 y3]] w fun e w' =>
      e = .returned (.bool true) ∧ Two b p q w' true th ∧ Kept [p.m, p.c, q.r] w w' := by
  have hs := lt_of_block h.b
  have h0 := h.keptNil ((Kept.refl [] w).alloc (.cells #[.int .i64 5, .int .i64 x0, .int .i64 i, .int .i64 y0, .int .i64 y1, .int .i64 y2, .int .i64 y3] 34))
  have hK : Kept [p.m, p.c, q.r] w (w.alloc (.cells #[.int .i64 5, .int .i64 x0, .int .i64 i, .int .i64 y0, .int .i64 y1, .int .i64 y2, .int .i64 y3] 34)) := (Kept.refl _ w).alloc _
  have d0 : w.cell? ⟨b, 0, none⟩ = some (.pointer (some ⟨p.m, 0, none⟩)) := cell_of h.b 0
  go_enter Tryz.func9, Tryz.ntmps9
  go_wp2_with fail
  generalize (w.alloc (.cells #[.int .i64 5, .int .i64 x0, .int .i64 i, .int .i64 y0, .int .i64 y1, .int .i64 y2, .int .i64 y3] 34)) = W0 at *
  refine (close_any p cl W0 th h0.p).mono ?_
  rintro e w1 ⟨rfl, hp, k1⟩
  obtain ⟨tcs, htb, htb2⟩ := h0.q.tb
  have off : ∀ (x : Nat) (ob : Obj), W0.heap[x]? = some ob → (∀ cs, ob ≠ Obj.cells cs 78 (0, 0)) → (∀ y, ob ≠ Obj.chan 0 #[] y 0 0 false) → x ∉ [p.m, p.c] := by
    intro x ob hx h1 h2 hm
    simp at hm
    rcases hm with rfl | rfl
    · exact h1 _ (Option.some.inj (hx.symm.trans h0.p.m))
    · exact h2 _ (Option.some.inj (hx.symm.trans h0.p.c))
  have hb1 := k1.at h0.b (off _ _ h0.b (by simp) (by simp))
  have hq1 : RAt q w1 cl th := h0.q.kept k1 (off _ _ h0.q.r (by simp) (by simp)) (off _ _ htb (by simp) (by simp))
  have K1 : Kept [p.m, p.c, q.r] w w1 := hK.trans (k1.mono (by simp only [List.mem_cons]; intro x hx; rcases hx with hx | hx | hx; exact .inl hx; exact .inr (.inl hx); cases hx))
  have d1 : w1.cell? ⟨b, 1, none⟩ = some (.pointer (some ⟨q.r, 0, none⟩)) := cell_of hb1 1
  have d21 : w1.cell? ⟨q.r, 21, none⟩ = some (.bool cl) := cell_of hq1.r 21
  have f21 : w1.frozen? ⟨q.r, 21, none⟩ = false := frozen_of hq1.r 21
  have hn := h0.n
  have HN : Hid _ := hn
  clear hn d0
  go_wp2
  go_ret
  obtain ⟨ptc, hptb, _⟩ := hp.tb
  refine ⟨rfl, ⟨HN.out, block_set_ne hb1 (ne_of_blocks hb1 hq1.r (by simp)) _ _, hp.set hq1.r (by decide) (by decide) (by decide) (by decide) _ _, hq1.shut⟩, K1.setCell (.inl (by simp)) _⟩
end Go.Proofs.YtmnkphenobfbfaaGreat
