import Derived.Test.YtfgfpggjcfhccaaGreatBm
namespace Go.Proofs.YtfgfpggjcfhccaaGreat
open Go.RowKit Go.MuLone
set_option maxRecDepth 100000 in
set_option maxHeartbeats 1600000 in
theorem begin_busy (p : PM) (i key v o : Int) (w : World) (th : Nat → Option (Int × Int × Int)) (h : PAt p 0 w false th) (h0 : 0 ≤ i) (hi : i < p.ts.length) (hk0 : 0 ≤ key) (hk7 : key < 8) {x : Int × Int × Int} (hth : th i.toNat = some x) :
    Calls Tryz.prog 15 #[.pointer (some ⟨p.m, 0, none⟩), .int .i64 i, .agg #[.int .i64 0, .int .i64 key, .int .i64 v, .int .i64 o]] w fun e w' => e = .returned (.int .i64 2) ∧ PAt p 0 w' false th ∧ Kept [p.m] w w' := by
  have hcap := h.cap
  have hs := lt_of_block h.m
  have h1 := (h.alloc (.cells #[Value.int .i64 0, .int .i64 key, .int .i64 v, .int .i64 o] 32)).lock 1
  have k1 : Kept [p.m] w ((w.alloc (.cells #[Value.int .i64 0, .int .i64 key, .int .i64 v, .int .i64 o] 32)).setCell ⟨p.m, 0, none⟩ (.int .i32 1)) := ((Kept.refl _ w).alloc _).setCell (.inl (by simp)) _
  have hr : ((w.alloc (.cells #[Value.int .i64 0, .int .i64 key, .int .i64 v, .int .i64 o] 32)).setCell ⟨p.m, 0, none⟩ (.int .i32 1)).heap[w.heap.size]? = some (.cells #[Value.int .i64 0, .int .i64 key, .int .i64 v, .int .i64 o] 32 (0, 0)) :=
    block_set_ne (block_alloc_new _ _) (by omega) _ _
  go_enter_defers Tryz.func15, Tryz.ntmps15
  go_wp2_with fail
  refine (lock_free Tryz.muLib ⟨p.m, 0, none⟩ _ ?_ ?_).mono ?_
  · rw [cell_of (h.alloc _).m]; rfl
  · rw [frozen_of (h.alloc _).m]
  rintro e w' ⟨rfl, rfl⟩
  generalize ((w.alloc (.cells #[Value.int .i64 0, .int .i64 key, .int .i64 v, .int .i64 o] 32)).setCell ⟨p.m, 0, none⟩ (.int .i32 1)) = W at *
  go_wp2_with fail
  refine (isClosed_no p.m p.c 0 0 _ (by rw [cell_of h1.m]; rfl) h1.c).mono ?_
  rintro e w' ⟨rfl, rfl⟩
  go_wp2_with fail
  refine (hasThread_yes p.m (some ⟨p.tb, 0, none⟩) p.ts.length p.cap i _ (by rw [cell_of h1.m]; rfl) h0 hi).mono ?_
  rintro e w' ⟨rfl, rfl⟩
  have hco : ∀ x, w'.cell? ⟨w.heap.size, x, none⟩ = #[Value.int .i64 0, .int .i64 key, .int .i64 v, .int .i64 o][x]? := cell_of hr
  go_wp2_with fail
  refine (mayBe_yes key v o _ hk0 hk7).mono ?_
  rintro e w2 ⟨rfl, k2⟩
  replace h1 := h1.keptNil k2
  replace k1 := k1.trans (k2.mono (by simp))
  obtain ⟨t, ht, hct, hbt⟩ := h1.nth (i := i.toNat) (by omega)
  have c4 : w2.cell? ⟨p.m, 4, none⟩ = some (.slice (some ⟨p.tb, 0, none⟩) p.ts.length p.cap) := cell_of h1.m 4
  obtain ⟨xk, xv, xo⟩ := x
  rw [hth] at hbt
  clear hco k2 hr hk0 hk7 hth ht
  go_wp2_with fail
  refine (busy_yes t (.func 68) #[.pointer (some ⟨t, 0, none⟩)] #[] _ (by rw [cell_of hbt]; rfl)).mono ?_
  rintro e w3 ⟨rfl, rfl⟩
  clear c4 hct
  go_wp2
  refine door_unlock p.m _ (by rw [cell_of h1.m]; rfl) (by rw [frozen_of h1.m]) (res14 rfl) ⟨rfl, h1.lock 0, k1.setCell (.inl (by simp)) _⟩
set_option maxRecDepth 100000 in
set_option maxHeartbeats 1600000 in
theorem begin_ok (p : PM) (i key v o : Int) (w : World) (th : Nat → Option (Int × Int × Int)) (h : PAt p 0 w false th) (h0 : 0 ≤ i) (hi : i < p.ts.length) (hk0 : 0 ≤ key) (hk7 : key < 8) (hth : th i.toNat = none) :
    Calls Tryz.prog 15 #[.pointer (some ⟨p.m, 0, none⟩), .int .i64 i, .agg #[.int .i64 0, .int .i64 key, .int .i64 v, .int .i64 o]] w fun e w' => e = .returned (.int .i64 0) ∧ PAt p 0 w' false (upd th i.toNat (some (key, v, o))) ∧ Kept (p.m :: p.ts) w w' := by
  have hcap := h.cap
  have hs := lt_of_block h.m
  have h1 := (h.alloc (.cells #[Value.int .i64 0, .int .i64 key, .int .i64 v, .int .i64 o] 32)).lock 1
  have k1 : Kept [p.m] w ((w.alloc (.cells #[Value.int .i64 0, .int .i64 key, .int .i64 v, .int .i64 o] 32)).setCell ⟨p.m, 0, none⟩ (.int .i32 1)) := ((Kept.refl _ w).alloc _).setCell (.inl (by simp)) _
  have hr : ((w.alloc (.cells #[Value.int .i64 0, .int .i64 key, .int .i64 v, .int .i64 o] 32)).setCell ⟨p.m, 0, none⟩ (.int .i32 1)).heap[w.heap.size]? = some (.cells #[Value.int .i64 0, .int .i64 key, .int .i64 v, .int .i64 o] 32 (0, 0)) :=
    block_set_ne (block_alloc_new _ _) (by omega) _ _
  go_enter_defers Tryz.func15, Tryz.ntmps15
  go_wp2_with fail
  refine (lock_free Tryz.muLib ⟨p.m, 0, none⟩ _ ?_ ?_).mono ?_
  · rw [cell_of (h.alloc _).m]; rfl
  · rw [frozen_of (h.alloc _).m]
  rintro e w' ⟨rfl, rfl⟩
  generalize ((w.alloc (.cells #[Value.int .i64 0, .int .i64 key, .int .i64 v, .int .i64 o] 32)).setCell ⟨p.m, 0, none⟩ (.int .i32 1)) = W at *
  go_wp2_with fail
  refine (isClosed_no p.m p.c 0 0 _ (by rw [cell_of h1.m]; rfl) h1.c).mono ?_
  rintro e w' ⟨rfl, rfl⟩
  go_wp2_with fail
  refine (hasThread_yes p.m (some ⟨p.tb, 0, none⟩) p.ts.length p.cap i _ (by rw [cell_of h1.m]; rfl) h0 hi).mono ?_
  rintro e w' ⟨rfl, rfl⟩
  have hco : ∀ x, w'.cell? ⟨w.heap.size, x, none⟩ = #[Value.int .i64 0, .int .i64 key, .int .i64 v, .int .i64 o][x]? := cell_of hr
  go_wp2_with fail
  refine (mayBe_yes key v o _ hk0 hk7).mono ?_
  rintro e w2 ⟨rfl, k2⟩
  replace h1 := h1.keptNil k2
  replace k1 := k1.trans (k2.mono (by simp))
  replace hr := k2.at hr (by simp)
  obtain ⟨t, ht, hct, hbt⟩ := h1.nth (i := i.toNat) (by omega)
  have c4 : w2.cell? ⟨p.m, 4, none⟩ = some (.slice (some ⟨p.tb, 0, none⟩) p.ts.length p.cap) := cell_of h1.m 4
  rw [hth] at hbt
  have HP : Hid _ := ht
  clear hco k2 hk0 hk7 hth ht
  go_wp2_with fail
  refine (busy_no t _ (by rw [cell_of hbt]; rfl)).mono ?_
  rintro e w3 ⟨rfl, rfl⟩
  have hco : ∀ x, w3.cell? ⟨w.heap.size, x, none⟩ = #[Value.int .i64 0, .int .i64 key, .int .i64 v, .int .i64 o][x]? := cell_of hr
  go_wp2_with fail
  go_region_held3 (fun w' => w'.cell? ⟨p.m, 4, none⟩ = some (.slice (some ⟨p.tb, 0, none⟩) p.ts.length p.cap) ∧ w'.cell? ⟨p.tb, i.toNat, none⟩ = some (.pointer (some ⟨t, 0, none⟩)) ∧ (∀ x, w'.cell? ⟨w.heap.size, x, none⟩ = #[Value.int .i64 0, .int .i64 key, .int .i64 v, .int .i64 o][x]?))
    (first | exact ⟨g1, g2, g3⟩ | exact ⟨c4, hct, hco⟩)
    (first | (go_at_call 33; refine (tbegin i.toNat p.s t key v o _ (by exact hbt)).mono ?_; rintro e w4 ⟨rfl, hb4, k4⟩; have hn4 := h1.drew.thread HP.out (some (key, v, o)) hb4 k4; have g1 := cell_of hn4.m 4; obtain ⟨t4, ht4, g2, _⟩ := hn4.nth (i := i.toNat) (by omega); obtain rfl : t4 = t := Option.some.inj (ht4.symm.trans HP.out); have hr4 := k4.at hr (by simpa using ne_of_blocks hr hbt (by simp)); have g3 := cell_of hr4))
  have k5 : Kept (p.m :: p.ts) w w4 := (k1.mono (by simp)).trans ((Kept.refl _ w3).drew.trans (k4.mono (fun x hx => by cases List.mem_singleton.1 hx; exact List.mem_cons_of_mem _ (List.mem_of_getElem? HP.out))))
  clear g1 g2 g3 hco c4 hct
  go_wp2
  refine door_unlock p.m _ (by rw [cell_of hn4.m]; rfl) (by rw [frozen_of hn4.m]) (res14 rfl) ⟨rfl, hn4.lock 0, k5.setCell (.inl (by simp)) _⟩
end Go.Proofs.YtfgfpggjcfhccaaGreat
