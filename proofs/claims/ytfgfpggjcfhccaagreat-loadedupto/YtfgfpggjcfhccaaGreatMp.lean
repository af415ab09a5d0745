import Derived.Test.YtfgfpggjcfhccaaGreatLd
namespace Go.Proofs.YtfgfpggjcfhccaaGreat
open Go.RowKit Go.MuLone
def upd (th : Nat → Option (Int × Int × Int)) (i : Nat) (x : Option (Int × Int × Int)) : Nat → Option (Int × Int × Int) := fun j => if j = i then x else th j
theorem thCells_head {i j s t t' : Nat} {x y : Option (Int × Int × Int)} (h : thCells i s t x = thCells j s t' y) : i = j := by
  have e : (thCells i s t x)[0]? = (thCells j s t' y)[0]? := by rw [h]
  rcases x with _ | ⟨a, b, c⟩ <;> rcases y with _ | ⟨a', b', c'⟩ <;> simp [thCells] at e <;> omega
theorem PAt.thread {p : PM} {l : Int} {w w' : World} {cl : Bool} {th : Nat → Option (Int × Int × Int)} (h : PAt p l w cl th) {i t : Nat} (ht : p.ts[i]? = some t) (x : Option (Int × Int × Int))
    (hb : w'.heap[t]? = some (.cells (thCells i p.s t x) 116 (0, 0))) (k : Kept [t] w w') : PAt p l w' cl (upd th i x) := by
  obtain ⟨cs', g1, g2⟩ := h.tb
  have hb0 := h.ts i t ht
  refine ⟨h.len, h.cap, ?_, ?_, ?_, ⟨cs', ?_, g2⟩, fun j t' hj => ?_⟩
  · exact k.at h.m (by simpa using ne_of_blocks h.m hb0 (by simp))
  · exact k.at h.c (by simpa using ne_of_blocks h.c hb0 (by simp))
  · exact k.at h.s (by simpa using ne_of_blocks h.s hb0 (by simp))
  · exact k.at g1 (by simpa using ne_of_blocks g1 hb0 (by simp))
  · by_cases hji : j = i
    · subst hji
      have : t' = t := Option.some.inj (hj.symm.trans ht)
      subst this
      simpa [upd] using hb
    · have hne : t' ≠ t := by
        rintro rfl
        have e := (h.ts j t' hj).symm.trans hb0
        simp only [Option.some.injEq, Obj.cells.injEq, and_true] at e
        exact hji (thCells_head e)
      simp only [upd, hji, if_false]
      exact k.at (h.ts j t' hj) (by simpa using hne)
set_option maxHeartbeats 800000 in
theorem step_arg (p : PM) (i : Int) (w : World) (th : Nat → Option (Int × Int × Int)) (h : PAt p 0 w false th) (hi : i < 0 ∨ (p.ts.length : Int) ≤ i) :
    Calls Tryz.prog 17 #[.pointer (some ⟨p.m, 0, none⟩), .int .i64 i] w fun e w' => e = .returned (.tuple #[.agg #[.bool false, .bool false, .int .i64 0], .int .i64 1]) ∧ PAt p 0 w' false th ∧ Kept [p.m] w w' := by
  have hs := lt_of_block h.m
  have h1 := (h.alloc (.cells #[.bool false, .bool false, .int .i64 0] 52)).lock 1
  have k1 : Kept [p.m] w ((w.alloc (.cells #[.bool false, .bool false, .int .i64 0] 52)).setCell ⟨p.m, 0, none⟩ (.int .i32 1)) := ((Kept.refl _ w).alloc _).setCell (.inl (by simp)) _
  have hr : ((w.alloc (.cells #[.bool false, .bool false, .int .i64 0] 52)).setCell ⟨p.m, 0, none⟩ (.int .i32 1)).heap[w.heap.size]? = some (.cells #[.bool false, .bool false, .int .i64 0] 52 (0, 0)) :=
    block_set_ne (block_alloc_new _ _) (by omega) _ _
  go_enter_defers Tryz.func17, Tryz.ntmps17
  go_wp2_with fail
  refine (lock_free Tryz.muLib ⟨p.m, 0, none⟩ _ ?_ ?_).mono ?_
  · rw [cell_of (h.alloc _).m]; rfl
  · rw [frozen_of (h.alloc _).m]
  rintro e w' ⟨rfl, rfl⟩
  generalize ((w.alloc (.cells #[.bool false, .bool false, .int .i64 0] 52)).setCell ⟨p.m, 0, none⟩ (.int .i32 1)) = W at *
  go_wp2_with fail
  refine (isClosed_no p.m p.c 0 0 _ (by rw [cell_of h1.m]; rfl) h1.c).mono ?_
  rintro e w' ⟨rfl, rfl⟩
  go_wp2_with fail
  refine (hasThread_no p.m (some ⟨p.tb, 0, none⟩) p.ts.length p.cap i _ (by rw [cell_of h1.m]; rfl) hi).mono ?_
  rintro e w' ⟨rfl, rfl⟩
  have c0 : w'.cell? ⟨w.heap.size, 0, none⟩ = some (.bool false) := cell_of hr 0
  have c1 : w'.cell? ⟨w.heap.size, 1, none⟩ = some (.bool false) := cell_of hr 1
  have c2 : w'.cell? ⟨w.heap.size, 2, none⟩ = some (.int .i64 0) := cell_of hr 2
  have f0 : ∀ o, w'.frozen? ⟨w.heap.size, o, none⟩ = false := frozen_of hr
  go_wp2
  have hr2 := block_set_same (block_set_same (block_set_same hr 0 (.bool false)) 1 (.bool false)) 2 (.int .i64 0)
  have h2 := ((h1.set hr (by decide) (by decide) (by decide) (by decide) 0 (.bool false)).set (block_set_same hr 0 _) (by decide) (by decide) (by decide) (by decide) 1 (.bool false)).set (block_set_same (block_set_same hr 0 _) 1 _) (by decide) (by decide) (by decide) (by decide) 2 (.int .i64 0)
  have k2 := ((k1.setCell (p := ⟨w.heap.size, 0, none⟩) (.inr (Nat.le_refl _)) (.bool false)).setCell (p := ⟨w.heap.size, 1, none⟩) (.inr (Nat.le_refl _)) (.bool false)).setCell (p := ⟨w.heap.size, 2, none⟩) (.inr (Nat.le_refl _)) (.int .i64 0)
  refine door_unlock p.m _ (by rw [cell_of h2.m]; rfl) (by rw [frozen_of h2.m]) (res16 w.heap.size _ _ _ _ rfl rfl ?_ ?_ ?_) ⟨rfl, h2.lock 0, k2.setCell (.inl (by simp)) _⟩
  all_goals (rw [cell_of (block_set_ne hr2 (by omega) _ _)]; rfl)
set_option maxHeartbeats 800000 in
theorem step_idle (p : PM) (i : Int) (w : World) (th : Nat → Option (Int × Int × Int)) (h : PAt p 0 w false th) (h0 : 0 ≤ i) (hi : i < p.ts.length) (hth : th i.toNat = none) :
    Calls Tryz.prog 17 #[.pointer (some ⟨p.m, 0, none⟩), .int .i64 i] w fun e w' => e = .returned (.tuple #[.agg #[.bool false, .bool false, .int .i64 0], .int .i64 3]) ∧ PAt p 0 w' false th ∧ Kept [p.m] w w' := by
  have hcap := h.cap
  have hs := lt_of_block h.m
  have h1 := (h.alloc (.cells #[.bool false, .bool false, .int .i64 0] 52)).lock 1
  have k1 : Kept [p.m] w ((w.alloc (.cells #[.bool false, .bool false, .int .i64 0] 52)).setCell ⟨p.m, 0, none⟩ (.int .i32 1)) := ((Kept.refl _ w).alloc _).setCell (.inl (by simp)) _
  have hr : ((w.alloc (.cells #[.bool false, .bool false, .int .i64 0] 52)).setCell ⟨p.m, 0, none⟩ (.int .i32 1)).heap[w.heap.size]? = some (.cells #[.bool false, .bool false, .int .i64 0] 52 (0, 0)) :=
    block_set_ne (block_alloc_new _ _) (by omega) _ _
  go_enter_defers Tryz.func17, Tryz.ntmps17
  go_wp2_with fail
  refine (lock_free Tryz.muLib ⟨p.m, 0, none⟩ _ ?_ ?_).mono ?_
  · rw [cell_of (h.alloc _).m]; rfl
  · rw [frozen_of (h.alloc _).m]
  rintro e w' ⟨rfl, rfl⟩
  generalize ((w.alloc (.cells #[.bool false, .bool false, .int .i64 0] 52)).setCell ⟨p.m, 0, none⟩ (.int .i32 1)) = W at *
  go_wp2_with fail
  refine (isClosed_no p.m p.c 0 0 _ (by rw [cell_of h1.m]; rfl) h1.c).mono ?_
  rintro e w' ⟨rfl, rfl⟩
  go_wp2_with fail
  refine (hasThread_yes p.m (some ⟨p.tb, 0, none⟩) p.ts.length p.cap i _ (by rw [cell_of h1.m]; rfl) h0 hi).mono ?_
  rintro e w' ⟨rfl, rfl⟩
  obtain ⟨t, ht, hct, hbt⟩ := h1.nth (i := i.toNat) (by omega)
  have c4 : w'.cell? ⟨p.m, 4, none⟩ = some (.slice (some ⟨p.tb, 0, none⟩) p.ts.length p.cap) := cell_of h1.m 4
  have HT : Hid _ := hth
  have HP : Hid _ := ht
  clear hth ht
  go_wp2_with fail
  refine (tstep_idle t _ hbt (by rw [HT.out]; rfl)).mono ?_
  rintro e w2 ⟨rfl, k2⟩
  replace hr := k2.at hr (by simp)
  replace h1 := h1.keptNil k2
  replace k1 := k1.trans (k2.mono (by simp))
  have hc2 : ∀ o, w2.cell? ⟨w.heap.size, o, none⟩ = #[.bool false, .bool false, .int .i64 0][o]? := cell_of hr
  have hf2 : ∀ o, w2.frozen? ⟨w.heap.size, o, none⟩ = false := frozen_of hr
  clear c4 hct
  go_wp2
  have hr2 := block_set_same (block_set_same (block_set_same hr 0 (.bool false)) 1 (.bool false)) 2 (.int .i64 0)
  have h2 := ((h1.set hr (by decide) (by decide) (by decide) (by decide) 0 (.bool false)).set (block_set_same hr 0 _) (by decide) (by decide) (by decide) (by decide) 1 (.bool false)).set (block_set_same (block_set_same hr 0 _) 1 _) (by decide) (by decide) (by decide) (by decide) 2 (.int .i64 0)
  have k2 := ((k1.setCell (p := ⟨w.heap.size, 0, none⟩) (.inr (Nat.le_refl _)) (.bool false)).setCell (p := ⟨w.heap.size, 1, none⟩) (.inr (Nat.le_refl _)) (.bool false)).setCell (p := ⟨w.heap.size, 2, none⟩) (.inr (Nat.le_refl _)) (.int .i64 0)
  refine door_unlock p.m _ (by rw [cell_of h2.m]; rfl) (by rw [frozen_of h2.m]) (res16 w.heap.size _ _ _ _ rfl rfl ?_ ?_ ?_) ⟨rfl, h2.lock 0, k2.setCell (.inl (by simp)) _⟩
  all_goals (rw [cell_of (block_set_ne hr2 (by omega) _ _)]; rfl)
set_option maxHeartbeats 800000 in
theorem step_load (p : PM) (i : Int) (w : World) (th : Nat → Option (Int × Int × Int)) (h : PAt p 0 w false th) (h0 : 0 ≤ i) (hi : i < p.ts.length) {k v o : Int} (hth : th i.toNat = some (k, v, o)) (hk0 : 0 ≤ k) (hk7 : k < 8) :
    Calls Tryz.prog 17 #[.pointer (some ⟨p.m, 0, none⟩), .int .i64 i] w fun e w' => e = .returned (.tuple #[.agg #[.bool true, .bool false, .int .i64 0], .int .i64 0]) ∧ PAt p 0 w' false (upd th i.toNat none) ∧ Kept (p.m :: p.ts) w w' := by
  have hcap := h.cap
  have hs := lt_of_block h.m
  have h1 := (h.alloc (.cells #[.bool false, .bool false, .int .i64 0] 52)).lock 1
  have k1 : Kept [p.m] w ((w.alloc (.cells #[.bool false, .bool false, .int .i64 0] 52)).setCell ⟨p.m, 0, none⟩ (.int .i32 1)) := ((Kept.refl _ w).alloc _).setCell (.inl (by simp)) _
  have hr : ((w.alloc (.cells #[.bool false, .bool false, .int .i64 0] 52)).setCell ⟨p.m, 0, none⟩ (.int .i32 1)).heap[w.heap.size]? = some (.cells #[.bool false, .bool false, .int .i64 0] 52 (0, 0)) :=
    block_set_ne (block_alloc_new _ _) (by omega) _ _
  go_enter_defers Tryz.func17, Tryz.ntmps17
  go_wp2_with fail
  refine (lock_free Tryz.muLib ⟨p.m, 0, none⟩ _ ?_ ?_).mono ?_
  · rw [cell_of (h.alloc _).m]; rfl
  · rw [frozen_of (h.alloc _).m]
  rintro e w' ⟨rfl, rfl⟩
  generalize ((w.alloc (.cells #[.bool false, .bool false, .int .i64 0] 52)).setCell ⟨p.m, 0, none⟩ (.int .i32 1)) = W at *
  go_wp2_with fail
  refine (isClosed_no p.m p.c 0 0 _ (by rw [cell_of h1.m]; rfl) h1.c).mono ?_
  rintro e w' ⟨rfl, rfl⟩
  go_wp2_with fail
  refine (hasThread_yes p.m (some ⟨p.tb, 0, none⟩) p.ts.length p.cap i _ (by rw [cell_of h1.m]; rfl) h0 hi).mono ?_
  rintro e w' ⟨rfl, rfl⟩
  obtain ⟨t, ht, hct, hbt⟩ := h1.nth (i := i.toNat) (by omega)
  have c4 : w'.cell? ⟨p.m, 4, none⟩ = some (.slice (some ⟨p.tb, 0, none⟩) p.ts.length p.cap) := cell_of h1.m 4
  have HT : Hid _ := hth
  have HP : Hid _ := ht
  clear hth ht
  go_wp2_with fail
  refine (tstep_load i.toNat p.s t k v o _ (by rw [← HT.out]; exact hbt) h1.s hk0 hk7).mono ?_
  rintro e w2 ⟨rfl, hb2, k2⟩
  have hne := ne_of_blocks hr hbt (by simp)
  replace hr := k2.at hr (by simpa using hne)
  replace h1 := h1.thread HP.out none hb2 k2
  replace k1 : Kept (p.m :: p.ts) w w2 := (k1.mono (by simp)).trans (k2.mono (fun x hx => by cases List.mem_singleton.1 hx; exact List.mem_cons_of_mem _ (List.mem_of_getElem? HP.out)))
  have hc2 : ∀ o, w2.cell? ⟨w.heap.size, o, none⟩ = #[.bool false, .bool false, .int .i64 0][o]? := cell_of hr
  have hf2 : ∀ o, w2.frozen? ⟨w.heap.size, o, none⟩ = false := frozen_of hr
  clear c4 hct
  go_wp2
  have hr2 := block_set_same (block_set_same (block_set_same hr 0 (.bool true)) 1 (.bool false)) 2 (.int .i64 0)
  have h2 := ((h1.set hr (by decide) (by decide) (by decide) (by decide) 0 (.bool true)).set (block_set_same hr 0 _) (by decide) (by decide) (by decide) (by decide) 1 (.bool false)).set (block_set_same (block_set_same hr 0 _) 1 _) (by decide) (by decide) (by decide) (by decide) 2 (.int .i64 0)
  have k2 := ((k1.setCell (p := ⟨w.heap.size, 0, none⟩) (.inr (Nat.le_refl _)) (.bool true)).setCell (p := ⟨w.heap.size, 1, none⟩) (.inr (Nat.le_refl _)) (.bool false)).setCell (p := ⟨w.heap.size, 2, none⟩) (.inr (Nat.le_refl _)) (.int .i64 0)
  refine door_unlock p.m _ (by rw [cell_of h2.m]; rfl) (by rw [frozen_of h2.m]) (res16 w.heap.size _ _ _ _ rfl rfl ?_ ?_ ?_) ⟨rfl, h2.lock 0, k2.setCell (.inl (by simp)) _⟩
  all_goals (rw [cell_of (block_set_ne hr2 (by omega) _ _)]; rfl)
end Go.Proofs.YtfgfpggjcfhccaaGreat
