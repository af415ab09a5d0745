import Derived.Test.YtfgfpggjcfhccaaGreatXf
import Derived.Test.YtfgfpggjcfhccaaGreatXc
import Derived.Test.YtfgfpggjcfhccaaGreatXa
import Derived.Test.YtfgfpggjcfhccaaGreatXb
namespace Go.Proofs.YtfgfpggjcfhccaaGreat
open Go.RowKit Go.MuLone
/-- What a call of Begin leaves. -/
def GBeg (p : PM) (en : Nat → Nat) (m : M) (w : World) (r : Int × M) (e : Ending) (w' : World) : Prop :=
  e = .returned (.int .i64 r.1) ∧ GAt p en 0 r.2 w' ∧ Kept (fpm p en m) w w'
set_option maxRecDepth 100000 in
set_option maxHeartbeats 1600000 in
theorem g_bclosed {p : PM} {en : Nat → Nat} {m : M} {w : World} (h : GAt p en 0 m w) (i kind key val old : Int) (hc : m.cl = true) :
    Calls Tryz.prog 15 #[.pointer (some ⟨p.m, 0, none⟩), .int .i64 i, .agg #[.int .i64 kind, .int .i64 key, .int .i64 val, .int .i64 old]] w (GBeg p en m w ((5, m))) := by
  have hs := lt_of_block h.mp
  have h1 := (h.alloc (.cells #[Value.int .i64 kind, .int .i64 key, .int .i64 val, .int .i64 old] 32)).lock 1
  have k1 : Kept [p.m] w ((w.alloc (.cells #[Value.int .i64 kind, .int .i64 key, .int .i64 val, .int .i64 old] 32)).setCell ⟨p.m, 0, none⟩ (.int .i32 1)) := ((Kept.refl _ w).alloc _).setCell (.inl (by simp)) _
  have hr : ((w.alloc (.cells #[Value.int .i64 kind, .int .i64 key, .int .i64 val, .int .i64 old] 32)).setCell ⟨p.m, 0, none⟩ (.int .i32 1)).heap[w.heap.size]? = some (.cells #[Value.int .i64 kind, .int .i64 key, .int .i64 val, .int .i64 old] 32 (0, 0)) :=
    block_set_ne (block_alloc_new _ _) (by omega) _ _
  go_enter_defers Tryz.func15, Tryz.ntmps15
  go_wp2_with fail
  refine (lock_free Tryz.muLib ⟨p.m, 0, none⟩ _ ?_ ?_).mono ?_
  · rw [cell_of (h.alloc _).mp]; rfl
  · rw [frozen_of (h.alloc _).mp]
  rintro e w' ⟨rfl, rfl⟩
  generalize ((w.alloc (.cells #[Value.int .i64 kind, .int .i64 key, .int .i64 val, .int .i64 old] 32)).setCell ⟨p.m, 0, none⟩ (.int .i32 1)) = W at *
  go_wp2_with fail
  refine (isClosed_yes p.m p.c 0 0 _ (by rw [cell_of h1.mp]; rfl) (by have := h1.c; rw [hc] at this; exact this)).mono ?_
  rintro e w' ⟨rfl, rfl⟩
  go_wp2
  refine door_unlock p.m _ (by rw [cell_of h1.mp]; rfl) (by rw [frozen_of h1.mp]) (res14 rfl) ⟨rfl, h1.lock 0, (k1.setCell (.inl (by simp)) _).mono (by simp [fpm])⟩
set_option maxRecDepth 100000 in
set_option maxHeartbeats 1600000 in
theorem g_bthread {p : PM} {en : Nat → Nat} {m : M} {w : World} (h : GAt p en 0 m w) (i kind key val old : Int) (hc : m.cl = false) (hi : i < 0 ∨ (m.nth : Int) ≤ i) :
    Calls Tryz.prog 15 #[.pointer (some ⟨p.m, 0, none⟩), .int .i64 i, .agg #[.int .i64 kind, .int .i64 key, .int .i64 val, .int .i64 old]] w (GBeg p en m w ((1, m))) := by
  have hs := lt_of_block h.mp
  have h1 := (h.alloc (.cells #[Value.int .i64 kind, .int .i64 key, .int .i64 val, .int .i64 old] 32)).lock 1
  have k1 : Kept [p.m] w ((w.alloc (.cells #[Value.int .i64 kind, .int .i64 key, .int .i64 val, .int .i64 old] 32)).setCell ⟨p.m, 0, none⟩ (.int .i32 1)) := ((Kept.refl _ w).alloc _).setCell (.inl (by simp)) _
  have hr : ((w.alloc (.cells #[Value.int .i64 kind, .int .i64 key, .int .i64 val, .int .i64 old] 32)).setCell ⟨p.m, 0, none⟩ (.int .i32 1)).heap[w.heap.size]? = some (.cells #[Value.int .i64 kind, .int .i64 key, .int .i64 val, .int .i64 old] 32 (0, 0)) :=
    block_set_ne (block_alloc_new _ _) (by omega) _ _
  go_enter_defers Tryz.func15, Tryz.ntmps15
  go_wp2_with fail
  refine (lock_free Tryz.muLib ⟨p.m, 0, none⟩ _ ?_ ?_).mono ?_
  · rw [cell_of (h.alloc _).mp]; rfl
  · rw [frozen_of (h.alloc _).mp]
  rintro e w' ⟨rfl, rfl⟩
  generalize ((w.alloc (.cells #[Value.int .i64 kind, .int .i64 key, .int .i64 val, .int .i64 old] 32)).setCell ⟨p.m, 0, none⟩ (.int .i32 1)) = W at *
  go_wp2_with fail
  refine (isClosed_no p.m p.c 0 0 _ (by rw [cell_of h1.mp]; rfl) (by have := h1.c; rw [hc] at this; exact this)).mono ?_
  rintro e w' ⟨rfl, rfl⟩
  have hl := h.len
  go_wp2_with fail
  refine (hasThread_no p.m (some ⟨p.tb, 0, none⟩) p.ts.length p.cap i _ (by rw [cell_of h1.mp]; rfl) (by rw [hl]; exact hi)).mono ?_
  rintro e w' ⟨rfl, rfl⟩
  clear hi
  go_wp2
  refine door_unlock p.m _ (by rw [cell_of h1.mp]; rfl) (by rw [frozen_of h1.mp]) (res14 rfl) ⟨rfl, h1.lock 0, (k1.setCell (.inl (by simp)) _).mono (by simp [fpm])⟩
set_option maxRecDepth 100000 in
set_option maxHeartbeats 1600000 in
theorem g_barg {p : PM} {en : Nat → Nat} {m : M} {w : World} (h : GAt p en 0 m w) (i kind key val old : Int) (hc : m.cl = false) (h0 : 0 ≤ i) (hi : i < (m.nth : Int)) (ho : ¬ OpOk kind key val old) :
    Calls Tryz.prog 15 #[.pointer (some ⟨p.m, 0, none⟩), .int .i64 i, .agg #[.int .i64 kind, .int .i64 key, .int .i64 val, .int .i64 old]] w (GBeg p en m w ((1, m))) := by
  have hs := lt_of_block h.mp
  have h1 := (h.alloc (.cells #[Value.int .i64 kind, .int .i64 key, .int .i64 val, .int .i64 old] 32)).lock 1
  have k1 : Kept [p.m] w ((w.alloc (.cells #[Value.int .i64 kind, .int .i64 key, .int .i64 val, .int .i64 old] 32)).setCell ⟨p.m, 0, none⟩ (.int .i32 1)) := ((Kept.refl _ w).alloc _).setCell (.inl (by simp)) _
  have hr : ((w.alloc (.cells #[Value.int .i64 kind, .int .i64 key, .int .i64 val, .int .i64 old] 32)).setCell ⟨p.m, 0, none⟩ (.int .i32 1)).heap[w.heap.size]? = some (.cells #[Value.int .i64 kind, .int .i64 key, .int .i64 val, .int .i64 old] 32 (0, 0)) :=
    block_set_ne (block_alloc_new _ _) (by omega) _ _
  go_enter_defers Tryz.func15, Tryz.ntmps15
  go_wp2_with fail
  refine (lock_free Tryz.muLib ⟨p.m, 0, none⟩ _ ?_ ?_).mono ?_
  · rw [cell_of (h.alloc _).mp]; rfl
  · rw [frozen_of (h.alloc _).mp]
  rintro e w' ⟨rfl, rfl⟩
  generalize ((w.alloc (.cells #[Value.int .i64 kind, .int .i64 key, .int .i64 val, .int .i64 old] 32)).setCell ⟨p.m, 0, none⟩ (.int .i32 1)) = W at *
  go_wp2_with fail
  refine (isClosed_no p.m p.c 0 0 _ (by rw [cell_of h1.mp]; rfl) (by have := h1.c; rw [hc] at this; exact this)).mono ?_
  rintro e w' ⟨rfl, rfl⟩
  have hl := h.len
  have hcap := h.cap
  go_wp2_with fail
  refine (hasThread_yes p.m (some ⟨p.tb, 0, none⟩) p.ts.length p.cap i _ (by rw [cell_of h1.mp]; rfl) h0 (by rw [hl]; exact hi)).mono ?_
  rintro e w' ⟨rfl, rfl⟩
  have hco : ∀ x, w'.cell? ⟨w.heap.size, x, none⟩ = #[Value.int .i64 kind, .int .i64 key, .int .i64 val, .int .i64 old][x]? := cell_of hr
  go_wp2_with fail
  refine Calls.mono (g_mayBe kind key val old _) ?_
  rw [decide_eq_false ho]
  rintro e w2 ⟨rfl, k2⟩
  replace h1 := h1.keptNil k2
  replace k1 := k1.trans (k2.mono (by simp))
  replace hr := k2.at hr (by simp)
  clear hco k2
  clear ho hr
  go_wp2
  refine door_unlock p.m _ (by rw [cell_of h1.mp]; rfl) (by rw [frozen_of h1.mp]) (res14 rfl) ⟨rfl, h1.lock 0, (k1.setCell (.inl (by simp)) _).mono (by simp [fpm])⟩
set_option maxRecDepth 100000 in
set_option maxHeartbeats 1600000 in
theorem g_bbusy {p : PM} {en : Nat → Nat} {m : M} {w : World} (h : GAt p en 0 m w) (i kind key val old : Int) (hc : m.cl = false) (h0 : 0 ≤ i) (hi : i < (m.nth : Int)) (ho : OpOk kind key val old) (hat : ¬ (m.ths i.toNat).at_ = 0) :
    Calls Tryz.prog 15 #[.pointer (some ⟨p.m, 0, none⟩), .int .i64 i, .agg #[.int .i64 kind, .int .i64 key, .int .i64 val, .int .i64 old]] w (GBeg p en m w ((2, m))) := by
  have hs := lt_of_block h.mp
  have h1 := (h.alloc (.cells #[Value.int .i64 kind, .int .i64 key, .int .i64 val, .int .i64 old] 32)).lock 1
  have k1 : Kept [p.m] w ((w.alloc (.cells #[Value.int .i64 kind, .int .i64 key, .int .i64 val, .int .i64 old] 32)).setCell ⟨p.m, 0, none⟩ (.int .i32 1)) := ((Kept.refl _ w).alloc _).setCell (.inl (by simp)) _
  have hr : ((w.alloc (.cells #[Value.int .i64 kind, .int .i64 key, .int .i64 val, .int .i64 old] 32)).setCell ⟨p.m, 0, none⟩ (.int .i32 1)).heap[w.heap.size]? = some (.cells #[Value.int .i64 kind, .int .i64 key, .int .i64 val, .int .i64 old] 32 (0, 0)) :=
    block_set_ne (block_alloc_new _ _) (by omega) _ _
  go_enter_defers Tryz.func15, Tryz.ntmps15
  go_wp2_with fail
  refine (lock_free Tryz.muLib ⟨p.m, 0, none⟩ _ ?_ ?_).mono ?_
  · rw [cell_of (h.alloc _).mp]; rfl
  · rw [frozen_of (h.alloc _).mp]
  rintro e w' ⟨rfl, rfl⟩
  generalize ((w.alloc (.cells #[Value.int .i64 kind, .int .i64 key, .int .i64 val, .int .i64 old] 32)).setCell ⟨p.m, 0, none⟩ (.int .i32 1)) = W at *
  go_wp2_with fail
  refine (isClosed_no p.m p.c 0 0 _ (by rw [cell_of h1.mp]; rfl) (by have := h1.c; rw [hc] at this; exact this)).mono ?_
  rintro e w' ⟨rfl, rfl⟩
  have hl := h.len
  have hcap := h.cap
  go_wp2_with fail
  refine (hasThread_yes p.m (some ⟨p.tb, 0, none⟩) p.ts.length p.cap i _ (by rw [cell_of h1.mp]; rfl) h0 (by rw [hl]; exact hi)).mono ?_
  rintro e w' ⟨rfl, rfl⟩
  have hco : ∀ x, w'.cell? ⟨w.heap.size, x, none⟩ = #[Value.int .i64 kind, .int .i64 key, .int .i64 val, .int .i64 old][x]? := cell_of hr
  go_wp2_with fail
  refine Calls.mono (g_mayBe kind key val old _) ?_
  rw [decide_eq_true ho]
  rintro e w2 ⟨rfl, k2⟩
  replace h1 := h1.keptNil k2
  replace k1 := k1.trans (k2.mono (by simp))
  replace hr := k2.at hr (by simp)
  clear hco k2
  have hil : i < (p.ts.length : Int) := by rw [hl]; exact hi
  obtain ⟨t, ht, hct⟩ := h1.nth' (i := i.toNat) (by omega)
  have c4 : w2.cell? ⟨p.m, 4, none⟩ = some (.slice (some ⟨p.tb, 0, none⟩) p.ts.length p.cap) := cell_of h1.mp 4
  obtain ⟨cp, _, hbt⟩ := h1.ts _ t ht
  rw [tcOf_busy hat] at hbt
  clear ho ht hr
  go_wp2_with fail
  refine Calls.mono (busy_yes t (.func (fnOf (m.ths i.toNat).kind (m.ths i.toNat).at_)) #[.pointer (some ⟨t, 0, none⟩)] #[] _ (cell_of hbt 10)) ?_
  rintro e w3 ⟨rfl, rfl⟩
  clear c4 hct hbt hat
  go_wp2
  refine door_unlock p.m _ (by rw [cell_of h1.mp]; rfl) (by rw [frozen_of h1.mp]) (res14 rfl) ⟨rfl, h1.lock 0, (k1.setCell (.inl (by simp)) _).mono (by simp [fpm])⟩
theorem GAt.begun {p : PM} {en : Nat → Nat} {l : Int} {m : M} {w w' : World} (h : GAt p en l m w) (hI : m.Inv) {i t : Nat} (ht : p.ts[i]? = some t) (k : Kept [t] w w') (kind key val old : Int) (n : Nat) (hn : fnOf kind 1 = n)
    (hb : w'.heap[t]? = some (.cells (Tc.mk i p.s kind key val old none 0 0 0 (.func (.func n) #[.pointer (some ⟨t, 0, none⟩)] #[])).cells 116 (0, 0))) : GAt p en l (m.thr i ⟨kind, key, val, old, 1, -1, 0, 0, 0⟩) w' :=
  h.goT hI ht k _ 0 (by simp) hb (by simp [tcOf, thNext, hn, ptrE])
/-- The thread's own Begin. -/
theorem g_tbegin {p : PM} {en : Nat → Nat} {l : Int} {m : M} {w : World} (h : GAt p en l m w) (hI : m.Inv) {i t : Nat} (ht : p.ts[i]? = some t) (hat : (m.ths i).at_ = 0) (kind key val old : Int) :
    Calls Tryz.prog 33 #[.pointer (some ⟨t, 0, none⟩), .agg #[.int .i64 kind, .int .i64 key, .int .i64 val, .int .i64 old]] w fun e w' => e = .returned (.tuple #[]) ∧ GAt p en l (m.thr i ⟨kind, key, val, old, 1, -1, 0, 0, 0⟩) w' ∧ Kept [t] w w' := by
  obtain ⟨cp, _, hb⟩ := h.ts i t ht
  rw [tcOf_idle hat] at hb
  by_cases e0 : kind = 0
  · subst e0
    refine Calls.mono (g_tbegin_0 _ t key val old w hb) ?_
    rintro e w' ⟨rfl, h1, k1⟩
    exact ⟨rfl, h.begun hI ht k1 0 key val old 68 (by simp [fnOf]) h1, k1⟩
  · by_cases e1 : kind = 1
    · subst e1
      refine Calls.mono (g_tbegin_1 _ t key val old w hb) ?_
      rintro e w' ⟨rfl, h1, k1⟩
      exact ⟨rfl, h.begun hI ht k1 1 key val old 69 (by simp [fnOf]) h1, k1⟩
    · refine Calls.mono (g_tbegin_2 _ t kind key val old w e0 e1 hb) ?_
      rintro e w' ⟨rfl, h1, k1⟩
      exact ⟨rfl, h.begun hI ht k1 kind key val old 70 (by simp [fnOf, e0, e1]) h1, k1⟩
set_option maxRecDepth 100000 in
set_option maxHeartbeats 1600000 in
theorem g_bok {p : PM} {en : Nat → Nat} {m : M} {w : World} (h : GAt p en 0 m w) (i kind key val old : Int) (hc : m.cl = false) (hI : m.Inv) (h0 : 0 ≤ i) (hi : i < (m.nth : Int)) (ho : OpOk kind key val old) (hat : (m.ths i.toNat).at_ = 0) :
    Calls Tryz.prog 15 #[.pointer (some ⟨p.m, 0, none⟩), .int .i64 i, .agg #[.int .i64 kind, .int .i64 key, .int .i64 val, .int .i64 old]] w (GBeg p en m w ((0, m.thr i.toNat ⟨kind, key, val, old, 1, -1, 0, 0, 0⟩))) := by
  have hs := lt_of_block h.mp
  have h1 := (h.alloc (.cells #[Value.int .i64 kind, .int .i64 key, .int .i64 val, .int .i64 old] 32)).lock 1
  have k1 : Kept [p.m] w ((w.alloc (.cells #[Value.int .i64 kind, .int .i64 key, .int .i64 val, .int .i64 old] 32)).setCell ⟨p.m, 0, none⟩ (.int .i32 1)) := ((Kept.refl _ w).alloc _).setCell (.inl (by simp)) _
  have hr : ((w.alloc (.cells #[Value.int .i64 kind, .int .i64 key, .int .i64 val, .int .i64 old] 32)).setCell ⟨p.m, 0, none⟩ (.int .i32 1)).heap[w.heap.size]? = some (.cells #[Value.int .i64 kind, .int .i64 key, .int .i64 val, .int .i64 old] 32 (0, 0)) :=
    block_set_ne (block_alloc_new _ _) (by omega) _ _
  go_enter_defers Tryz.func15, Tryz.ntmps15
  go_wp2_with fail
  refine (lock_free Tryz.muLib ⟨p.m, 0, none⟩ _ ?_ ?_).mono ?_
  · rw [cell_of (h.alloc _).mp]; rfl
  · rw [frozen_of (h.alloc _).mp]
  rintro e w' ⟨rfl, rfl⟩
  generalize ((w.alloc (.cells #[Value.int .i64 kind, .int .i64 key, .int .i64 val, .int .i64 old] 32)).setCell ⟨p.m, 0, none⟩ (.int .i32 1)) = W at *
  go_wp2_with fail
  refine (isClosed_no p.m p.c 0 0 _ (by rw [cell_of h1.mp]; rfl) (by have := h1.c; rw [hc] at this; exact this)).mono ?_
  rintro e w' ⟨rfl, rfl⟩
  have hl := h.len
  have hcap := h.cap
  go_wp2_with fail
  refine (hasThread_yes p.m (some ⟨p.tb, 0, none⟩) p.ts.length p.cap i _ (by rw [cell_of h1.mp]; rfl) h0 (by rw [hl]; exact hi)).mono ?_
  rintro e w' ⟨rfl, rfl⟩
  have hco : ∀ x, w'.cell? ⟨w.heap.size, x, none⟩ = #[Value.int .i64 kind, .int .i64 key, .int .i64 val, .int .i64 old][x]? := cell_of hr
  go_wp2_with fail
  refine Calls.mono (g_mayBe kind key val old _) ?_
  rw [decide_eq_true ho]
  rintro e w2 ⟨rfl, k2⟩
  replace h1 := h1.keptNil k2
  replace k1 := k1.trans (k2.mono (by simp))
  replace hr := k2.at hr (by simp)
  clear hco k2
  have hil : i < (p.ts.length : Int) := by rw [hl]; exact hi
  obtain ⟨t, ht, hct⟩ := h1.nth' (i := i.toNat) (by omega)
  have c4 : w2.cell? ⟨p.m, 4, none⟩ = some (.slice (some ⟨p.tb, 0, none⟩) p.ts.length p.cap) := cell_of h1.mp 4
  obtain ⟨cp, _, hbt⟩ := h1.ts _ t ht
  rw [tcOf_idle hat] at hbt
  have HP : Hid _ := ht
  have HAT : Hid _ := hat
  have hne := ne_of_blocks hr hbt (by simp)
  clear ho ht hat
  go_wp2_with fail
  refine Calls.mono (busy_no t _ (cell_of hbt 10)) ?_
  rintro e w3 ⟨rfl, rfl⟩
  have hco : ∀ x, w3.cell? ⟨w.heap.size, x, none⟩ = #[Value.int .i64 kind, .int .i64 key, .int .i64 val, .int .i64 old][x]? := cell_of hr
  have RUN : Hid _ := g_tbegin h1.drew hI HP.out HAT.out kind key val old
  have HI : Hid _ := hI
  clear hI hbt
  go_wp2_with fail
  go_region_held3 (fun w' => w'.cell? ⟨p.m, 4, none⟩ = some (.slice (some ⟨p.tb, 0, none⟩) p.ts.length p.cap) ∧ w'.cell? ⟨p.tb, i.toNat, none⟩ = some (.pointer (some ⟨t, 0, none⟩)) ∧ (∀ x, w'.cell? ⟨w.heap.size, x, none⟩ = #[Value.int .i64 kind, .int .i64 key, .int .i64 val, .int .i64 old][x]?))
    (first | exact ⟨g1, g2, g3⟩ | exact ⟨c4, hct, hco⟩)
    (first | (go_at_call 33; refine Calls.mono RUN.out ?_; rintro e w4 ⟨rfl, hn4, k4⟩; have g1 := cell_of hn4.mp 4; obtain ⟨t4, ht4, g2⟩ := hn4.nth' (i := i.toNat) (by omega); obtain rfl : t4 = t := Option.some.inj (ht4.symm.trans HP.out); have hr4 := k4.at hr (by simpa using hne); have g3 := cell_of hr4))
  have k5 : Kept (fpm p en m) w w4 := (k1.mono (by simp [fpm])).trans ((Kept.refl _ w3).drew.trans (k4.mono (fun x hx => by cases List.mem_singleton.1 hx; exact List.mem_cons_of_mem _ (List.mem_cons_of_mem _ (mem_fp_t HP.out en m)))))
  clear g1 g2 g3 hco c4 hct
  go_wp2
  refine door_unlock p.m _ (by rw [cell_of hn4.mp]; rfl) (by rw [frozen_of hn4.mp]) (res14 rfl) ⟨rfl, hn4.lock 0, k5.setCell (.inl (by simp [fpm])) _⟩
theorem g_mbegin {p : PM} {en : Nat → Nat} {m : M} {w : World} (h : GAt p en 0 m w) (hI : m.Inv) (i kind key val old : Int) :
    Calls Tryz.prog 15 #[.pointer (some ⟨p.m, 0, none⟩), .int .i64 i, .agg #[.int .i64 kind, .int .i64 key, .int .i64 val, .int .i64 old]] w (GBeg p en m w (m.begin i kind key val old)) := by
  unfold M.begin
  by_cases hc : m.cl = true
  · rw [if_pos hc]; exact g_bclosed h i kind key val old hc
  rw [if_neg hc]
  have hc' : m.cl = false := by simpa using hc
  by_cases hi : i < 0 ∨ (m.nth : Int) ≤ i
  · rw [if_pos (by rcases hi with a | a; exact .inl a; exact .inr (.inl a))]; exact g_bthread h i kind key val old hc' hi
  have h0 : 0 ≤ i := by omega
  have h1 : i < (m.nth : Int) := by omega
  by_cases ho : OpOk kind key val old
  · rw [if_neg (by rintro (a | a | a); omega; omega; exact a ho)]
    by_cases ha : (m.ths i.toNat).at_ = 0
    · rw [if_neg (by omega)]; exact g_bok h i kind key val old hc' hI h0 h1 ho ha
    · have hp : 0 < (m.ths i.toNat).at_ := by
        rcases (hI.th i.toNat (by omega)).resolve_left ha |>.ak with ⟨_, q⟩ | ⟨_, q⟩ | ⟨_, q⟩ | ⟨_, q⟩ <;> omega
      rw [if_pos hp]; exact g_bbusy h i kind key val old hc' h0 h1 ho ha
  · rw [if_pos (.inr (.inr ho))]; exact g_barg h i kind key val old hc' h0 h1 ho
end Go.Proofs.YtfgfpggjcfhccaaGreat
namespace Go.Proofs.YtfgfpggjcfhccaaGreat
open Go.RowKit Go.MuLone Go.Conc
theorem GAt.shut {p : PM} {en : Nat → Nat} {l : Int} {m : M} {w : World} (h : GAt p en l m w) (hc : m.cl = false) : GAt p en l { m with cl := true } (w.setChan p.c 0 #[] true 0 0 false) := by
  obtain ⟨cs, g1, g2⟩ := h.tb
  have hcc := h.c
  rw [hc] at hcc
  have other : ∀ (b : Nat) (o : Obj), w.heap[b]? = some o → (∀ x, o ≠ Obj.chan 0 #[] x 0 0 false) → (w.setChan p.c 0 #[] true 0 0 false).heap[b]? = some o := by
    intro b o hb ho
    have hne : p.c ≠ b := fun e => ho false (Option.some.inj (hb.symm.trans (e ▸ hcc)))
    simp [World.setChan, Array.getElem?_setIfInBounds_ne hne, hb]
  refine ⟨h.len, h.nth, h.cap, other _ _ h.mp (by simp), heap_setChan _ _ _ _ _ _ _ _ (lt_of_block h.c), other _ _ h.s (by simp), ⟨cs, other _ _ g1 (by simp), g2⟩, fun i t hi => ?_, fun j hj => other _ _ (h.es j hj) (by simp), h.inj⟩
  obtain ⟨cp, a, b⟩ := h.ts i t hi
  exact ⟨cp, a, other _ _ b (by simp)⟩
set_option maxRecDepth 100000 in
set_option maxHeartbeats 800000 in
theorem g_close {p : PM} {en : Nat → Nat} {m : M} {w : World} (h : GAt p en 0 m w) :
    Calls Tryz.prog 19 #[.pointer (some ⟨p.m, 0, none⟩)] w fun e w' => e = .returned (.tuple #[]) ∧ GAt p en 0 { m with cl := true } w' ∧ Kept [p.m, p.c] w w' := by
  have hs := lt_of_block h.mp
  have h1 := h.lock 1
  have k1 : Kept [p.m, p.c] w (w.setCell ⟨p.m, 0, none⟩ (.int .i32 1)) := (Kept.refl _ w).setCell (.inl (by simp)) _
  go_enter_defers Tryz.func19, Tryz.ntmps19
  go_wp2_with fail
  refine (lock_free Tryz.muLib ⟨p.m, 0, none⟩ _ ?_ ?_).mono ?_
  · rw [cell_of h.mp]; rfl
  · rw [frozen_of h.mp]
  rintro e w' ⟨rfl, rfl⟩
  generalize (w.setCell ⟨p.m, 0, none⟩ (.int .i32 1)) = W at *
  go_wp2_with fail
  have hcc := h1.c
  cases hcl : m.cl with
  | true =>
    rw [hcl] at hcc
    refine (isClosed_yes p.m p.c 0 0 _ (by rw [cell_of h1.mp]; rfl) hcc).mono ?_
    rintro e w' ⟨rfl, rfl⟩
    have hm : { m with cl := true } = m := by rw [← hcl]
    have HM : Hid _ := hm
    clear hcl hm
    go_wp2
    exact door_unlockN p.m _ (by rw [cell_of h1.mp]; rfl) (by rw [frozen_of h1.mp]) (results_none rfl _ _ _) ⟨rfl, by rw [HM.out]; exact h1.lock 0, k1.setCell (.inl (by simp)) _⟩
  | false =>
    rw [hcl] at hcc
    refine (isClosed_no p.m p.c 0 0 _ (by rw [cell_of h1.mp]; rfl) hcc).mono ?_
    rintro e w' ⟨rfl, rfl⟩
    have c2 : w'.cell? ⟨p.m, 2, none⟩ = some (.chan (some p.c)) := cell_of h1.mp 2
    have hclr := fun ats ty => run_close_open (P := Tryz.prog) (w := w') ats ty hcc
    have h2 := h1.shut hcl
    have H2 : Hid _ := h2
    clear hcl h2
    go_wp2
    change bodyPostD _ _ _ _ _ (w'.setChan p.c 0 #[] true 0 0 false)
    have k2 := k1.setChan (c := p.c) (.inl (by simp)) 0 #[] true 0 0 false
    exact door_unlockN p.m _ (by rw [cell_of H2.out.mp]; rfl) (by rw [frozen_of H2.out.mp]) (results_none rfl _ _ _) ⟨rfl, H2.out.lock 0, k2.setCell (.inl (by simp)) _⟩
/-- What the tables hold. -/
def M.rdX (m : M) (k : Nat) : Int × Int := ((m.cells (m.read k).toNat).st, (m.cells (m.read k).toNat).v)
def M.dtX (m : M) (k : Nat) : Int × Int := ((m.cells (m.dirty k).toNat).st, (m.cells (m.dirty k).toNat).v)
theorem GAt.ents {p : PM} {en : Nat → Nat} {l : Int} {m : M} {w : World} (h : GAt p en l m w) (hI : m.Inv) : Ents (shOf en m).R m.rdX w ∧ Ents (shOf en m).D m.dtX w := by
  constructor
  · intro k hk a ha
    have hr := hI.rd k hk
    by_cases h0 : m.read k < 0
    · have : ptrE en (m.read k) = some a := ha
      rw [ptrE_none h0] at this
      cases this
    · have : ptrE en (m.read k) = some a := ha
      rw [ptrE_some (Int.not_lt.1 h0), Option.some.injEq] at this
      exact ⟨en (m.read k).toNat, this.symm, h.es _ (by omega)⟩
  · intro k hk a ha
    have hr := hI.dt k hk
    by_cases h0 : m.dirty k < 0
    · have : ptrE en (m.dirty k) = some a := ha
      rw [ptrE_none h0] at this
      cases this
    · have : ptrE en (m.dirty k) = some a := ha
      rw [ptrE_some (Int.not_lt.1 h0), Option.some.injEq] at this
      exact ⟨en (m.dirty k).toNat, this.symm, h.es _ (by omega)⟩
theorem GAt.set6 {p : PM} {en : Nat → Nat} {l : Int} {m : M} {w : World} (h : GAt p en l m w) {b : Nat} {cs : Array Value} (hb : w.heap[b]? = some (.cells cs 27 (0, 0))) (v0 v1 v2 v3 v4 v5 : Value) :
    GAt p en l m ((((((w.setCell ⟨b, 0, none⟩ v0).setCell ⟨b, 1, none⟩ v1).setCell ⟨b, 2, none⟩ v2).setCell ⟨b, 3, none⟩ v3).setCell ⟨b, 4, none⟩ v4).setCell ⟨b, 5, none⟩ v5) := by
  have b0 := block_set_same hb 0 v0
  have b1 := block_set_same b0 1 v1
  have b2 := block_set_same b1 2 v2
  have b3 := block_set_same b2 3 v3
  have b4 := block_set_same b3 4 v4
  exact (((((h.set hb (by decide) (by decide) (by decide) (by decide) (by decide) 0 v0).set b0 (by decide) (by decide) (by decide) (by decide) (by decide) 1 v1).set b1 (by decide) (by decide) (by decide) (by decide) (by decide) 2 v2).set b2 (by decide) (by decide) (by decide) (by decide) (by decide) 3 v3).set b3 (by decide) (by decide) (by decide) (by decide) (by decide) 4 v4).set b4 (by decide) (by decide) (by decide) (by decide) (by decide) 5 v5
set_option maxRecDepth 100000 in
set_option maxHeartbeats 800000 in
theorem g_look {p : PM} {en : Nat → Nat} {m : M} {w : World} (h : GAt p en 0 m w) (hI : m.Inv) :
    Calls Tryz.prog 12 #[.pointer (some ⟨p.m, 0, none⟩)] w fun e w' => ∃ b1 b2, e = .returned (.agg #[lst (shOf en m).R b1, .bool m.am, .bool m.hd, lst (shOf en m).D b2, .int .i64 m.mis, .int .i64 m.hol]) ∧
      ListOut (shOf en m).R m.rdX b1 w' ∧ ListOut (shOf en m).D m.dtX b2 w' ∧ w.heap.size ≤ b1 ∧ w.heap.size ≤ b2 ∧ b1 ≠ b2 ∧ GAt p en 0 m w' ∧ Kept [p.m] w w' := by
  have hs := lt_of_block h.mp
  have h1 := (h.alloc (.cells #[.slice none 0 0, .bool false, .bool false, .slice none 0 0, .int .i64 0, .int .i64 0] 27)).lock 1
  have k1 : Kept [p.m] w ((w.alloc (.cells #[.slice none 0 0, .bool false, .bool false, .slice none 0 0, .int .i64 0, .int .i64 0] 27)).setCell ⟨p.m, 0, none⟩ (.int .i32 1)) := ((Kept.refl _ w).alloc _).setCell (.inl (by simp)) _
  have hr : ((w.alloc (.cells #[.slice none 0 0, .bool false, .bool false, .slice none 0 0, .int .i64 0, .int .i64 0] 27)).setCell ⟨p.m, 0, none⟩ (.int .i32 1)).heap[w.heap.size]? = some (.cells #[.slice none 0 0, .bool false, .bool false, .slice none 0 0, .int .i64 0, .int .i64 0] 27 (0, 0)) :=
    block_set_ne (block_alloc_new _ _) (by omega) _ _
  go_enter_defers Tryz.func12, Tryz.ntmps12
  go_wp2_with fail
  refine (lock_free Tryz.muLib ⟨p.m, 0, none⟩ _ ?_ ?_).mono ?_
  · rw [cell_of (h.alloc _).mp]; rfl
  · rw [frozen_of (h.alloc _).mp]
  rintro e w' ⟨rfl, rfl⟩
  generalize ((w.alloc (.cells #[.slice none 0 0, .bool false, .bool false, .slice none 0 0, .int .i64 0, .int .i64 0] 27)).setCell ⟨p.m, 0, none⟩ (.int .i32 1)) = W at *
  have c3 : W.cell? ⟨p.m, 3, none⟩ = some (.pointer (some ⟨p.s, 0, none⟩)) := cell_of h1.mp 3
  have hen := h1.ents hI
  have RUN : Hid _ := g_view (shOf en m) m.rdX m.dtX p.s W h1.s hen.1 hen.2
  clear hen
  go_wp2_with fail
  refine Calls.mono RUN.out ?_
  rintro e w2 ⟨b1, b2, rfl, hb1, hb2, hz1, hz2, hz3, k2⟩
  have zr0 := lt_of_block hr
  replace hr := k2.at hr (by simp)
  replace h1 := h1.keptNil k2
  have ksz := k1.size
  replace k1 := k1.trans (k2.mono (by simp))
  have zr := lt_of_block hr
  have hc2 : ∀ o, w2.cell? ⟨w.heap.size, o, none⟩ = #[Value.slice none 0 0, .bool false, .bool false, .slice none 0 0, .int .i64 0, .int .i64 0][o]? := cell_of hr
  have hf2 : ∀ o, w2.frozen? ⟨w.heap.size, o, none⟩ = false := frozen_of hr
  have H1 : Hid _ := h1
  have K1 : Hid _ := k1
  have HB1 : Hid _ := hb1
  have HB2 : Hid _ := hb2
  clear c3 RUN h1 k1 hb1 hb2
  simp only [lst, shOf]
  go_wp2
  have hr2 := block_set_same (block_set_same (block_set_same (block_set_same (block_set_same (block_set_same hr 0 (lst (shOf en m).R b1)) 1 (.bool m.am)) 2 (.bool m.hd)) 3 (lst (shOf en m).D b2)) 4 (.int .i64 m.mis)) 5 (.int .i64 m.hol)
  have h2 := H1.out.set6 hr (lst (shOf en m).R b1) (.bool m.am) (.bool m.hd) (lst (shOf en m).D b2) (.int .i64 m.mis) (.int .i64 m.hol)
  have k3 := (((((K1.out.setCell (p := ⟨w.heap.size, 0, none⟩) (.inr (Nat.le_refl _)) (lst (shOf en m).R b1)).setCell (p := ⟨w.heap.size, 1, none⟩) (.inr (Nat.le_refl _)) (.bool m.am)).setCell (p := ⟨w.heap.size, 2, none⟩) (.inr (Nat.le_refl _)) (.bool m.hd)).setCell (p := ⟨w.heap.size, 3, none⟩) (.inr (Nat.le_refl _)) (lst (shOf en m).D b2)).setCell (p := ⟨w.heap.size, 4, none⟩) (.inr (Nat.le_refl _)) (.int .i64 m.mis)).setCell (p := ⟨w.heap.size, 5, none⟩) (.inr (Nat.le_refl _)) (.int .i64 m.hol)
  have hcell := cell_of h2.mp 0
  have hfro := frozen_of h2.mp 0
  refine door_unlock p.m _ (by exact hcell) (by exact hfro) (res11 w.heap.size _ _ _ _ _ _ rfl (block_set_ne hr2 (by omega) _ _)) ⟨b1, b2, rfl, ?_, ?_, by omega, by omega, hz3, h2.lock 0, k3.setCell (.inl (by simp)) _⟩
  · exact block_set_ne (block_set6 HB1.out (by omega) _ _ _ _ _ _) (by omega) _ _
  · exact block_set_ne (block_set6 HB2.out (by omega) _ _ _ _ _ _) (by omega) _ _
end Go.Proofs.YtfgfpggjcfhccaaGreat
namespace Go.Proofs.YtfgfpggjcfhccaaGreat
open Go.RowKit
theorem MapCells.all {cs : Array Value} {tb : Nat} {sl : Value} {m : M} (c : MapCells cs tb sl m) : cs = #[sl, .int .i64 (m.read 0), .int .i64 (m.read 1), .int .i64 (m.read 2), .int .i64 (m.read 3), .int .i64 (m.read 4), .int .i64 (m.read 5), .int .i64 (m.read 6), .int .i64 (m.read 7), .bool m.am, .bool m.hd, .int .i64 (m.dirty 0), .int .i64 (m.dirty 1), .int .i64 (m.dirty 2), .int .i64 (m.dirty 3), .int .i64 (m.dirty 4), .int .i64 (m.dirty 5), .int .i64 (m.dirty 6), .int .i64 (m.dirty 7), .int .i64 m.mis, .int .i64 m.hol, .bool m.cl, .slice (some ⟨tb, 0, none⟩) m.nth m.nth] := by
  apply Array.ext_getElem?
  intro i
  by_cases hi : i < 23
  · match i, hi with
    | 0, _ => exact c.c0
    | 1, _ => exact c.rd 0 (by omega)
    | 2, _ => exact c.rd 1 (by omega)
    | 3, _ => exact c.rd 2 (by omega)
    | 4, _ => exact c.rd 3 (by omega)
    | 5, _ => exact c.rd 4 (by omega)
    | 6, _ => exact c.rd 5 (by omega)
    | 7, _ => exact c.rd 6 (by omega)
    | 8, _ => exact c.rd 7 (by omega)
    | 9, _ => exact c.am
    | 10, _ => exact c.hd
    | 11, _ => exact c.dt 0 (by omega)
    | 12, _ => exact c.dt 1 (by omega)
    | 13, _ => exact c.dt 2 (by omega)
    | 14, _ => exact c.dt 3 (by omega)
    | 15, _ => exact c.dt 4 (by omega)
    | 16, _ => exact c.dt 5 (by omega)
    | 17, _ => exact c.dt 6 (by omega)
    | 18, _ => exact c.dt 7 (by omega)
    | 19, _ => exact c.mis
    | 20, _ => exact c.hol
    | 21, _ => exact c.cl
    | 22, _ => exact c.th
    | n + 23, h => omega
  · rw [Array.getElem?_eq_none (by have := c.size; omega), Array.getElem?_eq_none (by simp; omega)]
theorem own_slice {w : World} {base : Nat} {e : TypeId} {size : Nat} {v : Value} {n : Nat} {xs : List Value} (h : w.ownsRow base e size v n xs) : ∃ ao k c, v = .slice ao k c := by
  rcases h.2 with ⟨rfl, _⟩ | ⟨g, cap, cur, rfl, _⟩
  · exact ⟨_, _, _, rfl⟩
  · exact ⟨_, _, _, rfl⟩
theorem own_base {w : World} {base base' : Nat} {e : TypeId} {size : Nat} {v : Value} {n : Nat} {xs : List Value} (h : w.ownsRow base e size v n xs) (hb : base' ≤ base) : w.ownsRow base' e size v n xs := by
  refine ⟨h.1, ?_⟩
  rcases h.2 with h' | ⟨g, cap, cur, e1, e2, e3⟩
  · exact .inl h'
  · exact .inr ⟨g, cap, cur, e1, Nat.le_trans hb e2, e3⟩
theorem own_set6 {W : World} {r base : Nat} {v : Value} {n : Nat} {xs : List Value} {cs : Array Value} (h : W.ownsRow base 84 3 v n xs) (hr : W.heap[r]? = some (.cells cs 27 (0, 0))) (v0 v1 v2 v3 v4 v5 : Value) :
    ((((((W.setCell ⟨r, 0, none⟩ v0).setCell ⟨r, 1, none⟩ v1).setCell ⟨r, 2, none⟩ v2).setCell ⟨r, 3, none⟩ v3).setCell ⟨r, 4, none⟩ v4).setCell ⟨r, 5, none⟩ v5).ownsRow base 84 3 v n xs := by
  refine ⟨h.1, ?_⟩
  rcases h.2 with h' | ⟨g, cap, cur, e1, e2, e3, e4⟩
  · exact .inl h'
  · exact .inr ⟨g, cap, cur, e1, e2, block_set6 e3 (ne_of_blocks e3 hr (by simp)) _ _ _ _ _ _, e4⟩
set_option maxRecDepth 100000 in
set_option maxHeartbeats 600000 in
theorem r_look {r tb : Nat} {sl : Value} {B : Nat} {m : M} {w : World} (h : RefAt r tb sl B m w) (hI : m.Inv) :
    Calls Tryz.prog 13 #[.pointer (some ⟨r, 0, none⟩)] w fun e w' => ∃ a1 n1 c1 a2 n2 c2, e = .returned (.agg #[.slice a1 n1 c1, .bool m.am, .bool m.hd, .slice a2 n2 c2, .int .i64 m.mis, .int .i64 m.hol]) ∧
      w'.ownsRow w.heap.size 84 3 (.slice a1 n1 c1) (cnt m.read 8) (rowI m.read m.rdX 8) ∧ w'.ownsRow w.heap.size 84 3 (.slice a2 n2 c2) (cnt m.dirty 8) (rowI m.dirty m.dtX 8) ∧ Kept [] w w' := by
  obtain ⟨cs, hb, hcs⟩ := h.own
  rw [hcs.all] at hb
  have hs := lt_of_block hb
  go_enter Tryz.func13, Tryz.ntmps13
  go_wp2_with fail
  have hS := block_alloc_lt hb (.cells #[Value.slice none 0 0, .bool false, .bool false, .slice none 0 0, .int .i64 0, .int .i64 0] 27)
  have hr := block_alloc_new w (.cells #[Value.slice none 0 0, .bool false, .bool false, .slice none 0 0, .int .i64 0, .int .i64 0] 27)
  have hK : Kept [] w (w.alloc (.cells #[Value.slice none 0 0, .bool false, .bool false, .slice none 0 0, .int .i64 0, .int .i64 0] 27)) := (Kept.refl [] w).alloc _
  have hH := h.alloc (.cells #[Value.slice none 0 0, .bool false, .bool false, .slice none 0 0, .int .i64 0, .int .i64 0] 27)
  generalize (w.alloc (.cells #[Value.slice none 0 0, .bool false, .bool false, .slice none 0 0, .int .i64 0, .int .i64 0] 27)) = W0 at *
  have n3 : w.heap.size ≠ r := by omega
  have hc : ∀ o, W0.cell? ⟨r, o, none⟩ = #[sl, .int .i64 (m.read 0), .int .i64 (m.read 1), .int .i64 (m.read 2), .int .i64 (m.read 3), .int .i64 (m.read 4), .int .i64 (m.read 5), .int .i64 (m.read 6), .int .i64 (m.read 7), .bool m.am, .bool m.hd, .int .i64 (m.dirty 0), .int .i64 (m.dirty 1), .int .i64 (m.dirty 2), .int .i64 (m.dirty 3), .int .i64 (m.dirty 4), .int .i64 (m.dirty 5), .int .i64 (m.dirty 6), .int .i64 (m.dirty 7), .int .i64 m.mis, .int .i64 m.hol, .bool m.cl, .slice (some ⟨tb, 0, none⟩) m.nth m.nth][o]? := cell_of hS
  have hz := hK.size
  have L : ∀ (f : Nat → Int) (X : Nat → Int × Int) (W : World), (∀ k, k < 8 → f k < m.nc) → (∀ k, X k = ((m.cells (f k).toNat).st, (m.cells (f k).toNat).v)) → Kept [] W0 W →
      Calls Tryz.prog 28 #[.pointer (some ⟨r, 0, none⟩), .agg #[.int .i64 (f 0), .int .i64 (f 1), .int .i64 (f 2), .int .i64 (f 3), .int .i64 (f 4), .int .i64 (f 5), .int .i64 (f 6), .int .i64 (f 7)]] W fun e w' => ∃ ao k c, e = .returned (.slice ao k c) ∧ w'.ownsRow w.heap.size 84 3 (.slice ao k c) (cnt f 8) (rowI f X 8) ∧ Kept [] W0 w' ∧
      (∀ o, w'.cell? ⟨r, o, none⟩ = #[sl, .int .i64 (m.read 0), .int .i64 (m.read 1), .int .i64 (m.read 2), .int .i64 (m.read 3), .int .i64 (m.read 4), .int .i64 (m.read 5), .int .i64 (m.read 6), .int .i64 (m.read 7), .bool m.am, .bool m.hd, .int .i64 (m.dirty 0), .int .i64 (m.dirty 1), .int .i64 (m.dirty 2), .int .i64 (m.dirty 3), .int .i64 (m.dirty 4), .int .i64 (m.dirty 5), .int .i64 (m.dirty 6), .int .i64 (m.dirty 7), .int .i64 m.mis, .int .i64 m.hol, .bool m.cl, .slice (some ⟨tb, 0, none⟩) m.nth m.nth][o]?) ∧ (∀ o, w'.cell? ⟨w.heap.size, o, none⟩ = #[Value.slice none 0 0, .bool false, .bool false, .slice none 0 0, .int .i64 0, .int .i64 0][o]?) ∧ (∀ o, w'.frozen? ⟨w.heap.size, o, none⟩ = false) ∧ Kept [] W w' := by
    intro f X W hf hX hW
    refine (r_entries (hH.keptNil hW) f X hf hX).mono ?_
    rintro e w' ⟨v, rfl, ho, hk⟩
    obtain ⟨ao, k, c, rfl⟩ := own_slice ho
    have hk' := hW.trans hk
    exact ⟨ao, k, c, rfl, own_base ho (Nat.le_trans hz hW.size), hk', cell_of (hk'.at hS (by simp)), cell_of (hk'.at hr (by simp)), frozen_of (hk'.at hr (by simp)), hk⟩
  have HL1 : Hid _ := fun W hW => L m.read m.rdX W (fun k hk => (hI.rd k hk).2) (fun _ => rfl) hW
  have HL2 : Hid _ := fun W hW => L m.dirty m.dtX W (fun k hk => (hI.dt k hk).2) (fun _ => rfl) hW
  have HR0 : Hid _ := hr
  have hK0 : Hid (Kept [] W0 W0) := Kept.refl [] W0
  clear L hH h hcs hb hS hr
  go_region_held3 (fun w' => ∀ o, w'.cell? ⟨r, o, none⟩ = #[sl, .int .i64 (m.read 0), .int .i64 (m.read 1), .int .i64 (m.read 2), .int .i64 (m.read 3), .int .i64 (m.read 4), .int .i64 (m.read 5), .int .i64 (m.read 6), .int .i64 (m.read 7), .bool m.am, .bool m.hd, .int .i64 (m.dirty 0), .int .i64 (m.dirty 1), .int .i64 (m.dirty 2), .int .i64 (m.dirty 3), .int .i64 (m.dirty 4), .int .i64 (m.dirty 5), .int .i64 (m.dirty 6), .int .i64 (m.dirty 7), .int .i64 m.mis, .int .i64 m.hol, .bool m.cl, .slice (some ⟨tb, 0, none⟩) m.nth m.nth][o]?)
    (first | (intro o; rw [cell_set6 n3]; exact g3 o) | exact g3 | exact hc)
    (first | (go_at_call 28; have hsecond := o1; refine (HL2.out _ kk).mono ?_; rintro e w' ⟨a2, n2, c2, rfl, o2, kk, g3, g5, g6, k2⟩) | (go_at_call 28; refine (HL1.out _ ((Kept.refl _ _).drew)).mono ?_; rintro e w' ⟨a1, n1, c1, rfl, o1, kk, g3, g5, g6, k1⟩))
  have o1' := own_kept o1 k2
  have hr2 := (hK0.out.trans kk).at HR0.out (by simp)
  clear hsecond o1 k1 k2 g3 hc
  go_wp2
  refine bodyPost_ret (v := .agg #[.slice a1 n1 c1, .bool m.am, .bool m.hd, .slice a2 n2 c2, .int .i64 m.mis, .int .i64 m.hol]) (res12 w.heap.size _ _ _ _ _ _ rfl g5) rfl ⟨a1, n1, c1, a2, n2, c2, rfl, own_set6 o1' hr2 _ _ _ _ _ _, own_set6 o2 hr2 _ _ _ _ _ _, ?_⟩
  exact (((((((hK.trans kk).setCell (.inr (Nat.le_refl _)) _).setCell (.inr (Nat.le_refl _)) _).setCell (.inr (Nat.le_refl _)) _).setCell (.inr (Nat.le_refl _)) _).setCell (.inr (Nat.le_refl _)) _).setCell (.inr (Nat.le_refl _)) _)
end Go.Proofs.YtfgfpggjcfhccaaGreat
namespace Go.Proofs.YtfgfpggjcfhccaaGreat
open Go.RowKit
/-- What neither new memory nor a result's box turns. -/
structure Stab (A : World → Prop) : Prop where
  keep : ∀ W W', A W → Kept [] W W' → A W'
  box : ∀ W b cs o v, A W → W.heap[b]? = some (.cells cs 52 (0, 0)) → A (W.setCell ⟨b, o, none⟩ v)
theorem Stab.set3 {A : World → Prop} (sA : Stab A) {W : World} (h : A W) {r : Nat} {cs : Array Value} (hr : W.heap[r]? = some (.cells cs 52 (0, 0))) (v0 v1 v2 : Value) : A (((W.setCell ⟨r, 0, none⟩ v0).setCell ⟨r, 1, none⟩ v1).setCell ⟨r, 2, none⟩ v2) :=
  sA.box _ _ _ _ _ (sA.box _ _ _ _ _ (sA.box _ _ _ _ _ h hr) (block_set_same hr 0 v0)) (block_set_same (block_set_same hr 0 v0) 1 v1)
set_option maxRecDepth 100000 in
set_option maxHeartbeats 2000000 in
theorem does_step_gen (b pm r : Nat) (x0 i y0 y1 y2 y3 : Int) (d f : Bool) (v er : Int) (F G : List Nat) (A C : World → Prop) (w : World)
    (hb : w.heap[b]? = some (.cells #[.pointer (some ⟨pm, 0, none⟩), .pointer (some ⟨r, 0, none⟩)] 47 (0, 0))) (hFb : b ∉ F) (hGb : b ∉ G) (hFn : ∀ x, x ∈ F → x < w.heap.size) (hGn : ∀ x, x ∈ G → x < w.heap.size) (sA : Stab A) (sC : Stab C)
    (run1 : ∀ W, Kept [] w W → Calls Tryz.prog 17 #[.pointer (some ⟨pm, 0, none⟩), .int .i64 i] W fun e w' => e = .returned (ans d f v er) ∧ A w' ∧ Kept F W w')
    (run2 : ∀ W, A W → Kept F w W → Calls Tryz.prog 18 #[.pointer (some ⟨r, 0, none⟩), .int .i64 i] W fun e w' => e = .returned (ans d f v er) ∧ C w' ∧ Kept G W w') :
    Calls Tryz.prog 8 #[.pointer (some ⟨b, 0, none⟩), .agg #[Value.int .i64 3, .int .i64 x0, .int .i64 i, .int .i64 y0, .int .i64 y1, .int .i64 y2, .int .i64 y3]] w fun e w' => e = .returned (.bool true) ∧ C w' ∧ Kept (F ++ G) w w' := by
  have hs := lt_of_block hb
  have h0 := block_alloc_lt hb (.cells #[Value.int .i64 3, .int .i64 x0, .int .i64 i, .int .i64 y0, .int .i64 y1, .int .i64 y2, .int .i64 y3] 34)
  have ho := block_alloc_new w (.cells #[Value.int .i64 3, .int .i64 x0, .int .i64 i, .int .i64 y0, .int .i64 y1, .int .i64 y2, .int .i64 y3] 34)
  have hK : Kept [] w (w.alloc (.cells #[Value.int .i64 3, .int .i64 x0, .int .i64 i, .int .i64 y0, .int .i64 y1, .int .i64 y2, .int .i64 y3] 34)) := (Kept.refl _ w).alloc _
  go_enter Tryz.func8, Tryz.ntmps8
  go_wp2_with fail
  generalize (w.alloc (.cells #[Value.int .i64 3, .int .i64 x0, .int .i64 i, .int .i64 y0, .int .i64 y1, .int .i64 y2, .int .i64 y3] 34)) = W0 at *
  have d0 : W0.cell? ⟨b, 0, none⟩ = some (.pointer (some ⟨pm, 0, none⟩)) := cell_of h0 0
  have d2 : W0.cell? ⟨w.heap.size, 2, none⟩ = some (.int .i64 i) := cell_of ho 2
  have zb0 := lt_of_block h0
  have zo0 := lt_of_block ho
  have hFw : w.heap.size ∉ F := fun hx => Nat.lt_irrefl _ (hFn _ hx)
  have hGw : w.heap.size ∉ G := fun hx => Nat.lt_irrefl _ (hGn _ hx)
  have hw0 := hK.size
  have farF : ∀ b', W0.heap.size ≤ b' → b' ∉ F := fun b' hb' hm => by have := hFn b' hm; omega
  have L : ∀ W, Kept [] W0 W → Calls Tryz.prog 17 #[.pointer (some ⟨pm, 0, none⟩), .int .i64 i] W fun e w' => e = .returned (.tuple #[.agg #[.bool d, .bool f, .int .i64 v], .int .i64 er]) ∧
      (A w' ∧ Kept F W w' ∧ Kept F W0 w' ∧ w'.heap[w.heap.size]? = some (.cells #[Value.int .i64 3, .int .i64 x0, .int .i64 i, .int .i64 y0, .int .i64 y1, .int .i64 y2, .int .i64 y3] 34 (0, 0)) ∧ w'.heap[b]? = some (.cells #[.pointer (some ⟨pm, 0, none⟩), .pointer (some ⟨r, 0, none⟩)] 47 (0, 0))) ∧ w'.cell? ⟨b, 0, none⟩ = some (.pointer (some ⟨pm, 0, none⟩)) ∧ w'.cell? ⟨w.heap.size, 2, none⟩ = some (.int .i64 i) ∧ b < w'.heap.size ∧ w.heap.size < w'.heap.size ∧
      (∀ b' o, W0.heap.size ≤ b' → b' < W.heap.size → w'.cell? ⟨b', o, none⟩ = W.cell? ⟨b', o, none⟩) ∧ (∀ b' o, W0.heap.size ≤ b' → b' < W.heap.size → w'.frozen? ⟨b', o, none⟩ = W.frozen? ⟨b', o, none⟩) := by
    intro W hW
    refine (run1 W (hK.trans hW)).mono ?_
    rintro e w' ⟨rfl, hp, k'⟩
    have hOb := k'.at (hW.at ho (by simp)) hFw
    have hBb := k'.at (hW.at h0 (by simp)) hFb
    exact ⟨rfl, ⟨hp, k', (hW.mono (by simp)).trans k', hOb, hBb⟩, cell_of hBb 0, cell_of hOb 2, lt_of_block hBb, lt_of_block hOb, fun b' o h1 h2 => (k'.far h2 (farF b' h1)).1, fun b' o h1 h2 => (k'.far h2 (farF b' h1)).2⟩
  have HL : Hid _ := L
  have n1 : W0.heap.size ≠ b := by omega
  have n2 : W0.heap.size ≠ w.heap.size := by omega
  have HR2 : Hid _ := run2
  have HSA : Hid _ := sA
  have HSC : Hid _ := sC
  clear L run1 run2 sA sC
  go_cut [6, 7] (fun x y w' => ∃ rb : Nat, x = .pointer (some ⟨rb, 0, none⟩) ∧ y = .int .i64 er ∧ w'.heap[rb]? = some (.cells #[Value.bool d, .bool f, .int .i64 v] 52 (0, 0)) ∧
    w'.heap[w.heap.size]? = some (.cells #[Value.int .i64 3, .int .i64 x0, .int .i64 i, .int .i64 y0, .int .i64 y1, .int .i64 y2, .int .i64 y3] 34 (0, 0)) ∧ w'.heap[b]? = some (.cells #[.pointer (some ⟨pm, 0, none⟩), .pointer (some ⟨r, 0, none⟩)] 47 (0, 0)) ∧ A w' ∧ Kept F W0 w' ∧ W0.heap.size ≤ rb)
  case first =>
    go_region_held3 (fun w' => w'.cell? ⟨b, 0, none⟩ = some (.pointer (some ⟨pm, 0, none⟩)) ∧ w'.cell? ⟨w.heap.size, 2, none⟩ = some (.int .i64 i))
      (first | (refine ⟨?_, ?_⟩ <;> first | (rw [World.cell?_alloc_lt _ _ _ (by assumption)]; assumption) | (rw [cell_drew, World.cell?_alloc_lt _ _ _ (by assumption)]; assumption) | (rw [cell_set3 n1]; exact g0) | (rw [cell_set3 n2]; exact g2)) | exact ⟨g0, g2⟩ | exact ⟨d0, d2⟩)
      (first | (go_at_call 17; refine (HL.out _ (by first | exact (Kept.refl _ _).drew | exact ((Kept.refl _ _).drew).alloc _)).mono ?_; rintro e w' ⟨rfl, hm, g0, g2, zb, zo, gc, gf⟩))
    · go_wp2_with fail
      go_meet
      obtain ⟨hm1, hm2, hm3, hm4, hm5⟩ := hm
      exact ⟨_, rfl, rfl, block_alloc_new _ _, block_alloc_lt hm4 _, block_alloc_lt hm5 _, HSA.out.keep _ _ hm1 ((Kept.refl [] w').alloc _), hm3.alloc _, hm3.size⟩
    · go_wp2_with fail
      go_meet
      obtain ⟨hm1, hm2, hm3, hm4, hm5⟩ := hm
      have hrb : w'.heap[W0.heap.size]? = some (.cells #[.bool false, .bool false, .int .i64 0] 52 (0, 0)) :=
        hm2.at (block_alloc_new W0 _) (farF _ (Nat.le_refl _))
      exact ⟨_, rfl, rfl, block_same3 hrb _ _ _, block_set3 hm4 (by omega) _ _ _, block_set3 hm5 (by omega) _ _ _, HSA.out.set3 hm1 hrb _ _ _, hm3.set3 (.inr (Nat.le_refl _)) _ _ _, Nat.le_refl _⟩
  case rest =>
    obtain ⟨rb, rfl, rfl, hrb, hob, hbb, hA, hK1, hzr⟩ := hcut
    clear HL d0 d2 n1 n2 zb0 zo0
    have d0 : wc.cell? ⟨b, 1, none⟩ = some (.pointer (some ⟨r, 0, none⟩)) := cell_of hbb 1
    have d2 : wc.cell? ⟨w.heap.size, 2, none⟩ = some (.int .i64 i) := cell_of hob 2
    have zb0 := lt_of_block hbb
    have zo0 := lt_of_block hob
    have zr0 := lt_of_block hrb
    have hw1 : w.heap.size ≤ wc.heap.size := Nat.le_trans hw0 hK1.size
    have farG : ∀ b', w.heap.size ≤ b' → b' ∉ G := fun b' hb' hm => by have := hGn b' hm; omega
    have kF : Kept F w wc := (hK.mono (by simp)).trans hK1
    have L : ∀ W, Kept [] wc W → Calls Tryz.prog 18 #[.pointer (some ⟨r, 0, none⟩), .int .i64 i] W fun e w' => e = .returned (.tuple #[.agg #[.bool d, .bool f, .int .i64 v], .int .i64 er]) ∧
        (C w' ∧ Kept G W w' ∧ Kept G wc w' ∧ w'.heap[rb]? = some (.cells #[Value.bool d, .bool f, .int .i64 v] 52 (0, 0))) ∧ w'.cell? ⟨b, 1, none⟩ = some (.pointer (some ⟨r, 0, none⟩)) ∧ w'.cell? ⟨w.heap.size, 2, none⟩ = some (.int .i64 i) ∧ b < w'.heap.size ∧ w.heap.size < w'.heap.size ∧
        (∀ b' o, wc.heap.size ≤ b' → b' < W.heap.size → w'.cell? ⟨b', o, none⟩ = W.cell? ⟨b', o, none⟩) ∧ (∀ b' o, wc.heap.size ≤ b' → b' < W.heap.size → w'.frozen? ⟨b', o, none⟩ = W.frozen? ⟨b', o, none⟩) := by
      intro W hW
      refine (HR2.out W (HSA.out.keep _ _ hA hW) (kF.trans (hW.mono (by simp)))).mono ?_
      rintro e w' ⟨rfl, hq, k'⟩
      have hOb := k'.at (hW.at hob (by simp)) hGw
      have hBb := k'.at (hW.at hbb (by simp)) hGb
      have hRb := k'.at (hW.at hrb (by simp)) (farG rb (by omega))
      exact ⟨rfl, ⟨hq, k', (hW.mono (by simp)).trans k', hRb⟩, cell_of hBb 1, cell_of hOb 2, lt_of_block hBb, lt_of_block hOb, fun b' o h1 h2 => (k'.far h2 (farG b' (by omega))).1, fun b' o h1 h2 => (k'.far h2 (farG b' (by omega))).2⟩
    have HL : Hid _ := L
    have n1 : wc.heap.size ≠ b := by omega
    have n2 : wc.heap.size ≠ w.heap.size := by omega
    have KF : Hid _ := kF
    clear L kF
    go_wp2_with fail
    go_cut [8, 9] (fun x y w' => ∃ rc : Nat, x = .pointer (some ⟨rc, 0, none⟩) ∧ y = .int .i64 er ∧ w'.heap[rc]? = some (.cells #[Value.bool d, .bool f, .int .i64 v] 52 (0, 0)) ∧ w'.heap[rb]? = some (.cells #[Value.bool d, .bool f, .int .i64 v] 52 (0, 0)) ∧ C w' ∧ Kept G wc w')
    case first =>
      go_region_held3 (fun w' => w'.cell? ⟨b, 1, none⟩ = some (.pointer (some ⟨r, 0, none⟩)) ∧ w'.cell? ⟨w.heap.size, 2, none⟩ = some (.int .i64 i))
        (first | (refine ⟨?_, ?_⟩ <;> first | (rw [World.cell?_alloc_lt _ _ _ (by assumption)]; assumption) | (rw [cell_drew, World.cell?_alloc_lt _ _ _ (by assumption)]; assumption) | (rw [cell_set3 n1]; exact g0) | (rw [cell_set3 n2]; exact g2)) | exact ⟨g0, g2⟩ | exact ⟨d0, d2⟩)
        (first | (go_at_call 18; refine (HL.out _ (by first | exact (Kept.refl _ _).drew | exact ((Kept.refl _ _).drew).alloc _)).mono ?_; rintro e w' ⟨rfl, hm, g0, g2, zb, zo, gc, gf⟩))
      · go_wp2_with fail
        go_meet
        obtain ⟨hm1, hm2, hm3, hm5⟩ := hm
        exact ⟨_, rfl, rfl, block_alloc_new _ _, block_alloc_lt hm5 _, HSC.out.keep _ _ hm1 ((Kept.refl [] w').alloc _), hm3.alloc _⟩
      · go_wp2_with fail
        go_meet
        obtain ⟨hm1, hm2, hm3, hm5⟩ := hm
        have hrc : w'.heap[wc.heap.size]? = some (.cells #[.bool false, .bool false, .int .i64 0] 52 (0, 0)) :=
          hm2.at (block_alloc_new wc _) (farG _ hw1)
        exact ⟨_, rfl, rfl, block_same3 hrc _ _ _, block_set3 hm5 (by omega) _ _ _, HSC.out.set3 hm1 hrc _ _ _, hm3.set3 (.inr (Nat.le_refl _)) _ _ _⟩
    case rest =>
      obtain ⟨rc, rfl, rfl, hrc, hrb2, hC, hK2⟩ := hcut
      clear HL d0 d2 n1 n2 zb0 zo0
      have cb : ∀ o, wc.cell? ⟨rb, o, none⟩ = #[Value.bool d, .bool f, .int .i64 v][o]? := cell_of hrb2
      have cc : ∀ o, wc.cell? ⟨rc, o, none⟩ = #[Value.bool d, .bool f, .int .i64 v][o]? := cell_of hrc
      have HH : Hid (C wc ∧ Kept (F ++ G) w wc) :=
        ⟨hC, (KF.out.mono (fun x hx => List.mem_append_left _ hx)).trans (hK2.mono (fun x hx => List.mem_append_right _ hx))⟩
      clear hC hK hK1 hK2 hrb hrc hrb2 hob hbb hA h0 ho hb
      go_wp2
      go_ret
      exact ⟨rfl, HH.out⟩
end Go.Proofs.YtfgfpggjcfhccaaGreat
namespace Go.Proofs.YtfgfpggjcfhccaaGreat
open Go.RowKit
set_option maxRecDepth 100000 in
set_option maxHeartbeats 2000000 in
theorem does_begin_gen (b pm r : Nat) (x0 i kind key v o er : Int) (F G : List Nat) (A C : World → Prop) (w : World)
    (hb : w.heap[b]? = some (.cells #[.pointer (some ⟨pm, 0, none⟩), .pointer (some ⟨r, 0, none⟩)] 47 (0, 0))) (hFb : b ∉ F) (hGb : b ∉ G) (hFn : ∀ x, x ∈ F → x < w.heap.size) (hGn : ∀ x, x ∈ G → x < w.heap.size)
    (run1 : ∀ W, Kept [] w W → Calls Tryz.prog 15 #[.pointer (some ⟨pm, 0, none⟩), .int .i64 i, .agg #[.int .i64 kind, .int .i64 key, .int .i64 v, .int .i64 o]] W fun e w' => e = .returned (.int .i64 er) ∧ A w' ∧ Kept F W w')
    (run2 : ∀ W, A W → Kept F w W → Calls Tryz.prog 16 #[.pointer (some ⟨r, 0, none⟩), .int .i64 i, .agg #[.int .i64 kind, .int .i64 key, .int .i64 v, .int .i64 o]] W fun e w' => e = .returned (.int .i64 er) ∧ C w' ∧ Kept G W w') (sA : Stab A) :
    Calls Tryz.prog 8 #[.pointer (some ⟨b, 0, none⟩), .agg #[Value.int .i64 2, .int .i64 x0, .int .i64 i, .int .i64 kind, .int .i64 key, .int .i64 v, .int .i64 o]] w fun e w' => e = .returned (.bool true) ∧ C w' ∧ Kept (F ++ G) w w' := by
  have hs := lt_of_block hb
  have h0 := block_alloc_lt hb (.cells #[Value.int .i64 2, .int .i64 x0, .int .i64 i, .int .i64 kind, .int .i64 key, .int .i64 v, .int .i64 o] 34)
  have ho := block_alloc_new w (.cells #[Value.int .i64 2, .int .i64 x0, .int .i64 i, .int .i64 kind, .int .i64 key, .int .i64 v, .int .i64 o] 34)
  have hK : Kept [] w (w.alloc (.cells #[Value.int .i64 2, .int .i64 x0, .int .i64 i, .int .i64 kind, .int .i64 key, .int .i64 v, .int .i64 o] 34)) := (Kept.refl _ w).alloc _
  have hFw : w.heap.size ∉ F := fun hx => Nat.lt_irrefl _ (hFn _ hx)
  have hGw : w.heap.size ∉ G := fun hx => Nat.lt_irrefl _ (hGn _ hx)
  have R1 : Hid _ := run1
  have R2 : Hid _ := run2
  have HSA : Hid _ := sA
  clear run1 run2 sA
  go_enter Tryz.func8, Tryz.ntmps8
  go_wp2_with fail
  generalize (w.alloc (.cells #[Value.int .i64 2, .int .i64 x0, .int .i64 i, .int .i64 kind, .int .i64 key, .int .i64 v, .int .i64 o] 34)) = W0 at *
  have d0 : W0.cell? ⟨b, 0, none⟩ = some (.pointer (some ⟨pm, 0, none⟩)) := cell_of h0 0
  have d2 : ∀ x, W0.cell? ⟨w.heap.size, x, none⟩ = #[Value.int .i64 2, .int .i64 x0, .int .i64 i, .int .i64 kind, .int .i64 key, .int .i64 v, .int .i64 o][x]? := cell_of ho
  go_region_held3 (fun w' => w'.cell? ⟨b, 0, none⟩ = some (.pointer (some ⟨pm, 0, none⟩)) ∧ (∀ x, w'.cell? ⟨w.heap.size, x, none⟩ = #[Value.int .i64 2, .int .i64 x0, .int .i64 i, .int .i64 kind, .int .i64 key, .int .i64 v, .int .i64 o][x]?))
    (first | exact ⟨g0, g2⟩ | exact ⟨d0, d2⟩)
    (first | (go_at_call 15; refine (R1.out _ (hK.trans (Kept.refl [] W0).drew)).mono ?_; rintro e w1 ⟨rfl, hp, k1⟩; have hbb := k1.at (by exact h0) hFb; have hob := k1.at (by exact ho) hFw; have g0 := cell_of hbb 0; have g2 := cell_of hob))
  clear g0 g2 d0 d2
  have K1 : Hid (Kept F w w1) := (hK.mono (by simp)).trans ((Kept.refl _ W0).drew.trans k1)
  have d0 : w1.cell? ⟨b, 1, none⟩ = some (.pointer (some ⟨r, 0, none⟩)) := cell_of hbb 1
  have d2 : ∀ x, w1.cell? ⟨w.heap.size, x, none⟩ = #[Value.int .i64 2, .int .i64 x0, .int .i64 i, .int .i64 kind, .int .i64 key, .int .i64 v, .int .i64 o][x]? := cell_of hob
  go_wp2_with fail
  go_region_held3 (fun w' => w'.cell? ⟨b, 1, none⟩ = some (.pointer (some ⟨r, 0, none⟩)) ∧ (∀ x, w'.cell? ⟨w.heap.size, x, none⟩ = #[Value.int .i64 2, .int .i64 x0, .int .i64 i, .int .i64 kind, .int .i64 key, .int .i64 v, .int .i64 o][x]?))
    (first | exact ⟨g0, g2⟩ | exact ⟨d0, d2⟩)
    (first | (go_at_call 16; refine (R2.out _ (HSA.out.keep _ _ hp (Kept.refl [] w1).drew) (K1.out.trans (Kept.refl _ w1).drew)).mono ?_; rintro e w2 ⟨rfl, hq, k2⟩; have hbb2 := k2.at (by exact hbb) hGb; have hob2 := k2.at (by exact hob) hGw; have g0 := cell_of hbb2 1; have g2 := cell_of hob2))
  have K2 : Hid (Kept (F ++ G) w w2) := (K1.out.mono (fun x hx => List.mem_append_left _ hx)).trans ((Kept.refl _ w1).drew.trans (k2.mono (fun x hx => List.mem_append_right _ hx)))
  clear g0 g2 d0 d2
  go_wp2
  go_ret
  exact ⟨by simp, hq, K2.out⟩
set_option maxRecDepth 100000 in
set_option maxHeartbeats 2000000 in
theorem does_close_gen (b pm r : Nat) (x0 i y0 y1 y2 y3 : Int) (F : List Nat) (A C : World → Prop) (w : World)
    (hb : w.heap[b]? = some (.cells #[.pointer (some ⟨pm, 0, none⟩), .pointer (some ⟨r, 0, none⟩)] 47 (0, 0))) (hFb : b ∉ F)
    (run1 : ∀ W, Kept [] w W → Calls Tryz.prog 19 #[.pointer (some ⟨pm, 0, none⟩)] W fun e w' => e = .returned (.tuple #[]) ∧ A w' ∧ Kept F W w')
    (hcl : ∀ W, A W → ∃ c, W.cell? ⟨r, 21, none⟩ = some (.bool c) ∧ W.frozen? ⟨r, 21, none⟩ = false) (hset : ∀ W, A W → C (W.setCell ⟨r, 21, none⟩ (.bool true))) :
    Calls Tryz.prog 8 #[.pointer (some ⟨b, 0, none⟩), .agg #[Value.int .i64 5, .int .i64 x0, .int .i64 i, .int .i64 y0, .int .i64 y1, .int .i64 y2, .int .i64 y3]] w fun e w' => e = .returned (.bool true) ∧ C w' ∧ Kept (r :: F) w w' := by
  have hs := lt_of_block hb
  have h0 := block_alloc_lt hb (.cells #[Value.int .i64 5, .int .i64 x0, .int .i64 i, .int .i64 y0, .int .i64 y1, .int .i64 y2, .int .i64 y3] 34)
  have hK : Kept [] w (w.alloc (.cells #[Value.int .i64 5, .int .i64 x0, .int .i64 i, .int .i64 y0, .int .i64 y1, .int .i64 y2, .int .i64 y3] 34)) := (Kept.refl _ w).alloc _
  have d0 : w.cell? ⟨b, 0, none⟩ = some (.pointer (some ⟨pm, 0, none⟩)) := cell_of hb 0
  have R1 : Hid _ := run1
  have HC : Hid _ := hcl
  have HS : Hid _ := hset
  clear run1 hcl hset
  go_enter Tryz.func8, Tryz.ntmps8
  go_wp2_with fail
  generalize (w.alloc (.cells #[Value.int .i64 5, .int .i64 x0, .int .i64 i, .int .i64 y0, .int .i64 y1, .int .i64 y2, .int .i64 y3] 34)) = W0 at *
  refine (R1.out W0 hK).mono ?_
  rintro e w1 ⟨rfl, hp, k1⟩
  have hb1 := k1.at h0 hFb
  have K1 : Hid (Kept (r :: F) w w1) := (hK.mono (by simp)).trans (k1.mono (fun x hx => List.mem_cons_of_mem _ hx))
  have d1 : w1.cell? ⟨b, 1, none⟩ = some (.pointer (some ⟨r, 0, none⟩)) := cell_of hb1 1
  obtain ⟨c, d21, f21⟩ := HC.out _ hp
  have HS1 : Hid _ := HS.out _ hp
  clear d0
  go_wp2
  go_ret
  exact ⟨rfl, HS1.out, K1.out.setCell (.inl (by simp)) _⟩
end Go.Proofs.YtfgfpggjcfhccaaGreat
namespace Go.Proofs.YtfgfpggjcfhccaaGreat
open Go.RowKit
theorem u84 : Tryz.prog.underlying 84 = some (.struct (Tryz.prog.fieldsOf 84)) := by
  rw [Program.fieldsOf, Tryz.underlying84]
theorem s84 : Tryz.prog.stoodInHeld 84 = false := by kernel_rfl
theorem g84 : Tryz.prog.eqGuardType Tryz.prog.depth 84 = false := by kernel_rfl
theorem neq84 (a b c : Int) (w : World) : (binOp .neq 84 (.agg #[.int .i64 a, .int .i64 b, .int .i64 c]) (.agg #[.int .i64 a, .int .i64 b, .int .i64 c])).run Tryz.prog w = .ok (.bool false) w := by
  rw [run_neq_struct, run_equalIn_struct w 9999 84 _ _ u84 s84, Program.fieldsOf, Tryz.underlying84]
  simp [go_sem]
/-- A slice's entries. -/
def RowAt (ao : Option Addr) (n : Nat) (E : Nat → Int × Int × Int) (w : World) : Prop :=
  ∀ i, i < n → ∃ g, ao = some ⟨g, 0, none⟩ ∧ w.cell? ⟨g, i * 3, none⟩ = some (.int .i64 (E i).1) ∧ w.cell? ⟨g, i * 3 + 1, none⟩ = some (.int .i64 (E i).2.1) ∧ w.cell? ⟨g, i * 3 + 2, none⟩ = some (.int .i64 (E i).2.2)
set_option maxRecDepth 100000 in
set_option maxHeartbeats 1000000 in
theorem same_gen (ao bo : Option Addr) (n ca cb : Nat) (E : Nat → Int × Int × Int) (w : World) (hA : RowAt ao n E w) (hB : RowAt bo n E w) (hca : n ≤ ca) (hcb : n ≤ cb) (hn8 : n ≤ 8) :
    Calls Tryz.prog 14 #[.slice ao n ca, .slice bo n cb] w fun e w' => e = .returned (.bool true) ∧ Kept [] w w' := by
  have HA : Hid _ := hA
  have HB : Hid _ := hB
  have hg := g84
  clear hA hB
  go_enter Tryz.func14, Tryz.ntmps14
  go_wp2
  go_loopw [5] (fun x W => ∃ k : Nat, k ≤ n ∧ x = .int .i64 k ∧ Kept [] w W) (fun x _ => n - (intOf x).toNat)
  case atStart => exact ⟨0, by omega, rfl, Kept.refl [] w⟩
  case round =>
    obtain ⟨k, hk, rfl, hW⟩ := hrel
    by_cases hlt : k < n
    · obtain ⟨ga, hao, a0, a1, a2⟩ := HA.out k hlt
      obtain ⟨gb, hbo, b0, b1, b2⟩ := HB.out k hlt
      have cellW : ∀ (b o : Nat) (v : Value), w.cell? ⟨b, o, none⟩ = some v → wr.cell? ⟨b, o, none⟩ = some v := fun b o v hv => by
        rw [(hW.far (b := b) (o := o) (lt_of_cell hv) (by simp)).1]; exact hv
      have a0' := cellW _ _ _ a0
      have a1' := cellW _ _ _ a1
      have a2' := cellW _ _ _ a2
      have b0' := cellW _ _ _ b0
      have b1' := cellW _ _ _ b1
      have b2' := cellW _ _ _ b2
      have hq := neq84 (E k).1 (E k).2.1 (E k).2.2
      have hlt' : (k : Int) < (n : Int) := by omega
      have hkt : ((k : Int)).toNat = k := by simp
      subst hao hbo
      have HW : Hid _ := hW
      clear cellW a0 a1 a2 b0 b1 b2 hW HA HB
      generalize (E k).1 = e0 at *
      generalize (E k).2.1 = e1 at *
      generalize (E k).2.2 = e2 at *
      go_wp2_with fail
      go_quiet (fail)
      go_wp2
      go_roundw
      case rel => exact ⟨k + 1, by omega, by go_num, HW.out.drewN nq⟩
      case measure => simp [intOf]; omega
    · obtain rfl : k = n := by omega
      have HW : Hid _ := hW
      clear hW
      go_wp2
      go_ret
      exact ⟨rfl, HW.out⟩
end Go.Proofs.YtfgfpggjcfhccaaGreat
namespace Go.Proofs.YtfgfpggjcfhccaaGreat
open Go.RowKit
/-- What neither new memory nor a view's box turns. -/
structure Stav (A : World → Prop) : Prop where
  keep : ∀ W W', A W → Kept [] W W' → A W'
  box : ∀ W b cs o v, A W → W.heap[b]? = some (.cells cs 27 (0, 0)) → A (W.setCell ⟨b, o, none⟩ v)
theorem Stav.set6 {A : World → Prop} (sA : Stav A) {W : World} (h : A W) {r : Nat} {cs : Array Value} (hb : W.heap[r]? = some (.cells cs 27 (0, 0))) (v0 v1 v2 v3 v4 v5 : Value) :
    A ((((((W.setCell ⟨r, 0, none⟩ v0).setCell ⟨r, 1, none⟩ v1).setCell ⟨r, 2, none⟩ v2).setCell ⟨r, 3, none⟩ v3).setCell ⟨r, 4, none⟩ v4).setCell ⟨r, 5, none⟩ v5) := by
  have b0 := block_set_same hb 0 v0
  have b1 := block_set_same b0 1 v1
  have b2 := block_set_same b1 2 v2
  have b3 := block_set_same b2 3 v3
  have b4 := block_set_same b3 4 v4
  exact sA.box _ _ _ _ _ (sA.box _ _ _ _ _ (sA.box _ _ _ _ _ (sA.box _ _ _ _ _ (sA.box _ _ _ _ _ (sA.box _ _ _ _ _ h hb) b0) b1) b2) b3) b4
theorem RowAt.kept {ao : Option Addr} {n : Nat} {E : Nat → Int × Int × Int} {w w' : World} (h : RowAt ao n E w) (k : Kept [] w w') : RowAt ao n E w' := fun i hi => by
  obtain ⟨g, e1, c0, c1, c2⟩ := h i hi
  have go : ∀ (o : Nat) (v : Value), w.cell? ⟨g, o, none⟩ = some v → w'.cell? ⟨g, o, none⟩ = some v := fun o v hv => by
    rw [(k.far (b := g) (o := o) (lt_of_cell hv) (by simp)).1]; exact hv
  exact ⟨g, e1, go _ _ c0, go _ _ c1, go _ _ c2⟩
set_option maxRecDepth 100000 in
set_option maxHeartbeats 1500000 in
theorem seen_gen (b pm r : Nat) (n1 n2 : Nat) (h1 : n1 ≤ 8) (h2 : n2 ≤ 8) (E1 E2 : Nat → Int × Int × Int) (am hd : Bool) (mis hol : Int) (F : List Nat) (A : World → Prop) (X1 X2 : Array Value) (w : World)
    (hb : w.heap[b]? = some (.cells #[.pointer (some ⟨pm, 0, none⟩), .pointer (some ⟨r, 0, none⟩)] 47 (0, 0))) (hFb : b ∉ F) (hFn : ∀ x, x ∈ F → x < w.heap.size) (sA : Stav A)
    (run1 : ∀ W, Kept [] w W → Calls Tryz.prog 12 #[.pointer (some ⟨pm, 0, none⟩)] W fun e w' => ∃ b1 b2, e = .returned (.agg #[Value.slice (some ⟨b1, 0, none⟩) n1 n1, .bool am, .bool hd, .slice (some ⟨b2, 0, none⟩) n2 n2, .int .i64 mis, .int .i64 hol]) ∧ w'.heap[b1]? = some (.cells X1 84 (0, 0)) ∧ w'.heap[b2]? = some (.cells X2 84 (0, 0)) ∧ RowAt (some ⟨b1, 0, none⟩) n1 E1 w' ∧ RowAt (some ⟨b2, 0, none⟩) n2 E2 w' ∧ W.heap.size ≤ b1 ∧ W.heap.size ≤ b2 ∧ b1 ≠ b2 ∧ A w' ∧ Kept F W w')
    (run2 : ∀ W, A W → Calls Tryz.prog 13 #[.pointer (some ⟨r, 0, none⟩)] W fun e w' => ∃ a1 c1 a2 c2, e = .returned (.agg #[Value.slice a1 n1 c1, .bool am, .bool hd, .slice a2 n2 c2, .int .i64 mis, .int .i64 hol]) ∧ RowAt a1 n1 E1 w' ∧ RowAt a2 n2 E2 w' ∧ n1 ≤ c1 ∧ n2 ≤ c2 ∧ Kept [] W w') :
    Calls Tryz.prog 7 #[.pointer (some ⟨b, 0, none⟩)] w fun e w' => ∃ b1 b2, e = .returned (.tuple #[.agg #[Value.slice (some ⟨b1, 0, none⟩) n1 n1, .bool am, .bool hd, .slice (some ⟨b2, 0, none⟩) n2 n2, .int .i64 mis, .int .i64 hol], .bool true]) ∧ w'.heap[b1]? = some (.cells X1 84 (0, 0)) ∧ w'.heap[b2]? = some (.cells X2 84 (0, 0)) ∧ w.heap.size ≤ b1 ∧ w.heap.size ≤ b2 ∧ b1 ≠ b2 ∧ A w' ∧ Kept F w w' := by
  have hs := lt_of_block hb
  have h0 := block_alloc_lt hb (.cells #[Value.slice none 0 0, .bool false, .bool false, .slice none 0 0, .int .i64 0, .int .i64 0] 27)
  have hK : Kept [] w (w.alloc (.cells #[Value.slice none 0 0, .bool false, .bool false, .slice none 0 0, .int .i64 0, .int .i64 0] 27)) := (Kept.refl _ w).alloc _
  have hr := block_alloc_new w (.cells #[Value.slice none 0 0, .bool false, .bool false, .slice none 0 0, .int .i64 0, .int .i64 0] 27)
  have c0 : w.cell? ⟨b, 0, none⟩ = some (.pointer (some ⟨pm, 0, none⟩)) := cell_of hb 0
  have hFw : w.heap.size ∉ F := fun hx => Nat.lt_irrefl _ (hFn _ hx)
  have R1 : Hid _ := run1
  have R2 : Hid _ := run2
  have HSA : Hid _ := sA
  clear run1 run2 sA
  go_enter Tryz.func7, Tryz.ntmps7
  go_wp2_with fail
  refine (R1.out _ hK).mono ?_
  rintro e w1 ⟨b1, b2, rfl, hb1, hb2, ra1, ra2, hz1, hz2, hz3, hA1, k1⟩
  have hbb := k1.at h0 hFb
  have r1 := k1.at hr hFw
  have zz : w.heap.size < (w.alloc (.cells #[Value.slice none 0 0, .bool false, .bool false, .slice none 0 0, .int .i64 0, .int .i64 0] 27)).heap.size := by simp
  have K1 := (hK.mono (F' := F) (by simp)).trans k1
  generalize (w.alloc (.cells #[Value.slice none 0 0, .bool false, .bool false, .slice none 0 0, .int .i64 0, .int .i64 0] 27)) = W0 at *
  have cc1 : w1.cell? ⟨b, 1, none⟩ = some (.pointer (some ⟨r, 0, none⟩)) := cell_of hbb 1
  have hs1 := lt_of_block hbb
  clear c0
  go_wp2_with fail
  have v1 := block_alloc_new w1 (.cells #[Value.slice (some ⟨b1, 0, none⟩) n1 n1, .bool am, .bool hd, .slice (some ⟨b2, 0, none⟩) n2 n2, .int .i64 mis, .int .i64 hol] 27)
  refine (R2.out _ (HSA.out.keep _ _ hA1 ((Kept.refl [] w1).alloc _))).mono ?_
  rintro e w2 ⟨a1, c1, a2, c2, rfl, rb1, rb2, hc1, hc2, k2⟩
  have v2 := k2.at v1 (by simp)
  have hA2 := HSA.out.keep _ _ (HSA.out.keep _ _ hA1 ((Kept.refl [] w1).alloc _)) k2
  have r2 := k2.at (block_alloc_lt r1 _) (by simp)
  have K2 := (K1.alloc (.cells #[Value.slice (some ⟨b1, 0, none⟩) n1 n1, .bool am, .bool hd, .slice (some ⟨b2, 0, none⟩) n2 n2, .int .i64 mis, .int .i64 hol] 27)).trans (k2.mono (by simp))
  have hb1' := k2.at (block_alloc_lt hb1 _) (by simp)
  have hb2' := k2.at (block_alloc_lt hb2 _) (by simp)
  have kk2 : Kept [] w1 w2 := ((Kept.refl [] w1).alloc _).trans k2
  have ra1' := ra1.kept kk2
  have ra2' := ra2.kept kk2
  have zv2 := lt_of_block v2
  have cv : ∀ o, w2.cell? ⟨w1.heap.size, o, none⟩ = #[Value.slice (some ⟨b1, 0, none⟩) n1 n1, .bool am, .bool hd, .slice (some ⟨b2, 0, none⟩) n2 n2, .int .i64 mis, .int .i64 hol][o]? := cell_of v2
  have zr1 := lt_of_block r1
  clear cc1
  have ka := (Kept.refl [] w2).alloc (.cells #[Value.slice a1 n1 c1, .bool am, .bool hd, .slice a2 n2 c2, .int .i64 mis, .int .i64 hol] 27)
  have RA1 : Hid _ := ra1'.kept ka
  have RA2 : Hid _ := ra2'.kept ka
  have RB1 : Hid _ := rb1.kept ka
  have RB2 : Hid _ := rb2.kept ka
  clear ra1 ra2 ra1' ra2' rb1 rb2
  go_wp2_with fail
  refine (same_gen (some ⟨b1, 0, none⟩) a1 n1 n1 c1 E1 _ RA1.out RB1.out (Nat.le_refl _) hc1 h1).mono ?_
  rintro e w3 ⟨rfl, k3⟩
  have cv3 : ∀ o, w3.cell? ⟨w1.heap.size, o, none⟩ = #[Value.slice (some ⟨b1, 0, none⟩) n1 n1, .bool am, .bool hd, .slice (some ⟨b2, 0, none⟩) n2 n2, .int .i64 mis, .int .i64 hol][o]? := cell_of (k3.at (block_alloc_lt v2 _) (by simp))
  have cw3 : ∀ o, w3.cell? ⟨w2.heap.size, o, none⟩ = #[Value.slice a1 n1 c1, .bool am, .bool hd, .slice a2 n2 c2, .int .i64 mis, .int .i64 hol][o]? := cell_of (k3.at (block_alloc_new w2 _) (by simp))
  clear cv
  go_wp2_with fail
  refine (same_gen (some ⟨b2, 0, none⟩) a2 n2 n2 c2 E2 _ (RowAt.kept RA2.out k3) (RowAt.kept RB2.out k3) (Nat.le_refl _) hc2 h2).mono ?_
  rintro e w4 ⟨rfl, k4⟩
  have ka4 : Kept [] w2 w4 := (ka.trans k3).trans k4
  have v3 := ka4.at v2 (by simp)
  have v3' := (k3.trans k4).at (block_alloc_new w2 (.cells #[Value.slice a1 n1 c1, .bool am, .bool hd, .slice a2 n2 c2, .int .i64 mis, .int .i64 hol] 27)) (by simp)
  have hA4 := HSA.out.keep _ _ hA2 ka4
  have r3 := ka4.at r2 (by simp)
  have K3 := K2.trans (ka4.mono (by simp))
  have hb1'' := ka4.at hb1' (by simp)
  have hb2'' := ka4.at hb2' (by simp)
  have ca : ∀ o, w4.cell? ⟨w1.heap.size, o, none⟩ = #[Value.slice (some ⟨b1, 0, none⟩) n1 n1, .bool am, .bool hd, .slice (some ⟨b2, 0, none⟩) n2 n2, .int .i64 mis, .int .i64 hol][o]? := cell_of v3
  have cb : ∀ o, w4.cell? ⟨w2.heap.size, o, none⟩ = #[Value.slice a1 n1 c1, .bool am, .bool hd, .slice a2 n2 c2, .int .i64 mis, .int .i64 hol][o]? := cell_of v3'
  have cr : ∀ o, w4.cell? ⟨w.heap.size, o, none⟩ = #[Value.slice none 0 0, .bool false, .bool false, .slice none 0 0, .int .i64 0, .int .i64 0][o]? := cell_of r3
  have fr : ∀ o, w4.frozen? ⟨w.heap.size, o, none⟩ = false := frozen_of r3
  have na : w.heap.size ≠ w1.heap.size := by omega
  have nb : w.heap.size ≠ w2.heap.size := by omega
  clear cv3 cw3
  go_wp2_with fail
  go_region_held3 (fun w' => (∀ o, w'.cell? ⟨w1.heap.size, o, none⟩ = #[Value.slice (some ⟨b1, 0, none⟩) n1 n1, .bool am, .bool hd, .slice (some ⟨b2, 0, none⟩) n2 n2, .int .i64 mis, .int .i64 hol][o]?) ∧ (∀ o, w'.cell? ⟨w2.heap.size, o, none⟩ = #[Value.slice a1 n1 c1, .bool am, .bool hd, .slice a2 n2 c2, .int .i64 mis, .int .i64 hol][o]?))
    (first | (refine ⟨?_, ?_⟩ <;> intro o <;> first | (rw [cell_drew, cell_set6 na]; exact ca o) | (rw [cell_drew, cell_set6 nb]; exact cb o) | (rw [cell_drew]; exact ca o) | (rw [cell_drew]; exact cb o)))
    (fail)
  clear ca cb fr v1 v2 v3 v3' r1 r2 hb1 hb2 hb1' hb2' hA1 hA2 h0 k1 k2 hK hr K1 K2 kk2 ka ka4 k3 k4 RA1 RA2 RB1 RB2 hbb
  go_wp2
  refine bodyPost_ret (v := .tuple #[.agg #[Value.slice (some ⟨b1, 0, none⟩) n1 n1, .bool am, .bool hd, .slice (some ⟨b2, 0, none⟩) n2 n2, .int .i64 mis, .int .i64 hol], .bool true]) (res6 w.heap.size _ _ _ _ _ _ _ rfl rfl cr) rfl ⟨b1, b2, rfl, ?_, ?_, by omega, by omega, hz3, ?_, ?_⟩
  · rw [heap_drew]; exact block_set6 hb1'' (by omega) _ _ _ _ _ _
  · rw [heap_drew]; exact block_set6 hb2'' (by omega) _ _ _ _ _ _
  · exact HSA.out.keep _ _ (HSA.out.set6 hA4 r3 _ _ _ _ _ _) (Kept.refl [] _).drew
  · exact ((((((K3.setCell (.inr (Nat.le_refl _)) _).setCell (.inr (Nat.le_refl _)) _).setCell (.inr (Nat.le_refl _)) _).setCell (.inr (Nat.le_refl _)) _).setCell (.inr (Nat.le_refl _)) _).setCell (.inr (Nat.le_refl _)) _).drew
end Go.Proofs.YtfgfpggjcfhccaaGreat
namespace Go.Proofs.YtfgfpggjcfhccaaGreat
open Go.RowKit
/-- A pair: the program's map and the document's, both as the machine m. -/
structure Pair (b : Nat) (p : PM) (en : Nat → Nat) (r tb : Nat) (sl : Value) (B : Nat) (m : M) (w : World) : Prop where
  b : w.heap[b]? = some (.cells #[.pointer (some ⟨p.m, 0, none⟩), .pointer (some ⟨r, 0, none⟩)] 47 (0, 0))
  g : GAt p en 0 m w
  q : RefAt r tb sl B m w
  inv : m.Inv
  base : B ≤ w.heap.size
/-- Of what blocks a program's map is. -/
theorem GAt.fpm_has {p : PM} {en : Nat → Nat} {l : Int} {m : M} {w : World} (h : GAt p en l m w) {x : Nat} (hx : x ∈ fpm p en m) :
    (∃ cs, w.heap[x]? = some (.cells cs 78 (0, 0))) ∨ (∃ c, w.heap[x]? = some (.chan 0 #[] c 0 0 false)) ∨ (∃ cs, w.heap[x]? = some (.cells cs 111 (0, 0))) ∨ (∃ cs, w.heap[x]? = some (.cells cs 116 (0, 0))) ∨ (∃ cs, w.heap[x]? = some (.cells cs 141 (0, 0))) := by
  simp only [fpm, fp, List.mem_cons, List.mem_append, List.mem_map, List.mem_range] at hx
  rcases hx with rfl | rfl | rfl | hx | ⟨j, hj, rfl⟩
  · exact .inl ⟨_, h.mp⟩
  · exact .inr (.inl ⟨_, h.c⟩)
  · exact .inr (.inr (.inl ⟨_, h.s⟩))
  · obtain ⟨i, hi⟩ := List.mem_iff_getElem?.1 hx
    obtain ⟨_, _, c⟩ := h.ts i x hi
    exact .inr (.inr (.inr (.inl ⟨_, c⟩)))
  · exact .inr (.inr (.inr (.inr ⟨_, h.es j hj⟩)))
theorem GAt.fpm_lt {p : PM} {en : Nat → Nat} {l : Int} {m : M} {w : World} (h : GAt p en l m w) : ∀ x, x ∈ fpm p en m → x < w.heap.size := by
  intro x hx
  rcases h.fpm_has hx with ⟨_, e⟩ | ⟨_, e⟩ | ⟨_, e⟩ | ⟨_, e⟩ | ⟨_, e⟩ <;> exact lt_of_block e
theorem GAt.notFpm {p : PM} {en : Nat → Nat} {l : Int} {m : M} {w : World} (h : GAt p en l m w) {b : Nat} {cs : Array Value} {T : TypeId} (hb : w.heap[b]? = some (.cells cs T (0, 0))) (h1 : T ≠ 78) (h2 : T ≠ 111) (h3 : T ≠ 116) (h4 : T ≠ 141) : b ∉ fpm p en m := by
  intro hx
  rcases h.fpm_has hx with ⟨_, e⟩ | ⟨_, e⟩ | ⟨_, e⟩ | ⟨_, e⟩ | ⟨_, e⟩
  · rw [hb] at e; simp only [Option.some.injEq, Obj.cells.injEq] at e; exact h1 e.2.1
  · rw [hb] at e; simp at e
  · rw [hb] at e; simp only [Option.some.injEq, Obj.cells.injEq] at e; exact h2 e.2.1
  · rw [hb] at e; simp only [Option.some.injEq, Obj.cells.injEq] at e; exact h3 e.2.1
  · rw [hb] at e; simp only [Option.some.injEq, Obj.cells.injEq] at e; exact h4 e.2.1
/-- The document's map: the blocks that a call may write. -/
def fr (r tb : Nat) (sl : Value) : List Nat := r :: tb :: sl.ownBlock.toList
theorem RefAt.fr_has {r tb : Nat} {sl : Value} {B : Nat} {m : M} {w : World} (h : RefAt r tb sl B m w) {x : Nat} (hx : x ∈ fr r tb sl) :
    (∃ cs, w.heap[x]? = some (.cells cs 59 (0, 0))) ∨ (∃ cs, w.heap[x]? = some (.cells cs 90 (0, 0))) ∨ (∃ cs, w.heap[x]? = some (.cells cs 88 (0, 0))) := by
  simp only [fr, List.mem_cons] at hx
  rcases hx with rfl | rfl | hx
  · obtain ⟨cs, a, _⟩ := h.own; exact .inl ⟨cs, a⟩
  · obtain ⟨cs, a, _⟩ := h.ths; exact .inr (.inl ⟨cs, a⟩)
  · rcases h.row.2 with ⟨rfl, _⟩ | ⟨g, cap, cur, rfl, _, e3, _⟩
    · simp [Value.ownBlock] at hx
    · simp only [Value.ownBlock, Option.toList, List.mem_singleton] at hx
      subst hx
      exact .inr (.inr ⟨cur, e3⟩)
theorem RefAt.fr_lt {r tb : Nat} {sl : Value} {B : Nat} {m : M} {w : World} (h : RefAt r tb sl B m w) : ∀ x, x ∈ fr r tb sl → x < w.heap.size := by
  intro x hx
  rcases h.fr_has hx with ⟨_, e⟩ | ⟨_, e⟩ | ⟨_, e⟩ <;> exact lt_of_block e
theorem RefAt.notFr {r tb : Nat} {sl : Value} {B : Nat} {m : M} {w : World} (h : RefAt r tb sl B m w) {b : Nat} {o : Obj} (hb : w.heap[b]? = some o) (h1 : ∀ cs, o ≠ .cells cs 59 (0, 0)) (h2 : ∀ cs, o ≠ .cells cs 90 (0, 0)) (h3 : ∀ cs, o ≠ .cells cs 88 (0, 0)) : b ∉ fr r tb sl := by
  intro hx
  rcases h.fr_has hx with ⟨cs, e⟩ | ⟨cs, e⟩ | ⟨cs, e⟩
  · exact h1 cs (Option.some.inj (hb.symm.trans e))
  · exact h2 cs (Option.some.inj (hb.symm.trans e))
  · exact h3 cs (Option.some.inj (hb.symm.trans e))
theorem RefAt.progKept {p : PM} {en : Nat → Nat} {l : Int} {m m' : M} {r tb : Nat} {sl : Value} {B : Nat} {w w' : World} (h : RefAt r tb sl B m w) (hg : GAt p en l m' w) (k : Kept (fpm p en m') w w') : RefAt r tb sl B m w' := by
  have hn : ∀ x, x ∈ fr r tb sl → x ∉ fpm p en m' := by
    intro x hx
    rcases h.fr_has hx with ⟨_, e⟩ | ⟨_, e⟩ | ⟨_, e⟩
    · exact hg.notFpm e (by decide) (by decide) (by decide) (by decide)
    · exact hg.notFpm e (by decide) (by decide) (by decide) (by decide)
    · exact hg.notFpm e (by decide) (by decide) (by decide) (by decide)
  exact h.kept k (hn r (by simp [fr])) (hn tb (by simp [fr])) (fun g hg' => hn g (by simp [fr, hg']))
theorem GAt.refKept {p : PM} {en : Nat → Nat} {l : Int} {m m' : M} {r tb : Nat} {sl : Value} {B : Nat} {w w' : World} (h : GAt p en l m w) (hr : RefAt r tb sl B m' w) (k : Kept (fr r tb sl) w w') : GAt p en l m w' := by
  obtain ⟨cs, g1, g2⟩ := h.tb
  refine h.kept k (hr.notFr h.mp (by simp) (by simp) (by simp)) (hr.notFr h.c (by simp) (by simp) (by simp)) (hr.notFr h.s (by simp) (by simp) (by simp)) (hr.notFr g1 (by simp) (by simp) (by simp)) (fun i t ht => ?_) (fun j hj => hr.notFr (h.es j hj) (by simp) (by simp) (by simp))
  obtain ⟨_, _, c⟩ := h.ts i t ht
  exact hr.notFr c (by simp) (by simp) (by simp)
/-- A step of both. -/
theorem pair_step {b : Nat} {p : PM} {en : Nat → Nat} {r tb : Nat} {sl : Value} {B : Nat} {m : M} {w : World} (h : Pair b p en r tb sl B m w) (hK : ∀ j, j < m.nth → ¬ (m.ths j).at_ = 0 → (m.ths j).kind = 0 ∨ (m.ths j).kind = 1) (hnc : m.nc < 1000000) (x0 i y0 y1 y2 y3 : Int) (hI' : (m.step i).o.m.Inv) :
    Calls Tryz.prog 8 #[.pointer (some ⟨b, 0, none⟩), .agg #[.int .i64 3, .int .i64 x0, .int .i64 i, .int .i64 y0, .int .i64 y1, .int .i64 y2, .int .i64 y3]] w fun e w' =>
      e = .returned (.bool true) ∧ (∃ en' sl', Pair b p en' r tb sl' B (m.step i).o.m w' ∧ (∀ j, j < m.nc → en' j = en j) ∧ (∀ j, m.nc ≤ j → j < (m.step i).o.m.nc → w.heap.size ≤ en' j) ∧ (∀ g, sl'.ownBlock = some g → sl.ownBlock = some g ∨ w.heap.size ≤ g)) ∧ Kept (fpm p en m ++ fr r tb sl) w w' := by
  have hbF := h.g.notFpm h.b (by decide) (by decide) (by decide) (by decide)
  have hbG := h.q.notFr h.b (by simp) (by simp) (by simp)
  have run1 := fun W (hW : Kept [] w W) => g_mstep (h.g.keptNil hW) h.inv hK i
  have run2 := fun W (hq : RefAt r tb sl B m W) (hs : w.heap.size ≤ W.heap.size) => r_step hq h.inv hK hnc (Nat.le_trans h.base hs) i
  generalize m.step i = a at *
  refine Calls.mono (does_step_gen b p.m r x0 i y0 y1 y2 y3 a.o.d a.o.f a.o.v a.err (fpm p en m) (fr r tb sl)
    (fun W => (∃ en', GAt p en' 0 a.o.m W ∧ (∀ j, j < m.nc → en' j = en j) ∧ (∀ j, m.nc ≤ j → j < a.o.m.nc → w.heap.size ≤ en' j)) ∧ RefAt r tb sl B m W ∧ w.heap.size ≤ W.heap.size)
    (fun W => (∃ en', GAt p en' 0 a.o.m W ∧ (∀ j, j < m.nc → en' j = en j) ∧ (∀ j, m.nc ≤ j → j < a.o.m.nc → w.heap.size ≤ en' j)) ∧ (∃ sl', RefAt r tb sl' B a.o.m W ∧ ∀ g, sl'.ownBlock = some g → sl.ownBlock = some g ∨ w.heap.size ≤ g))
    w h.b hbF hbG h.g.fpm_lt h.q.fr_lt ⟨?_, ?_⟩ ⟨?_, ?_⟩ ?_ ?_) ?_
  · rintro W W' ⟨⟨en', g1, g2, g3⟩, g4, g5⟩ k
    exact ⟨⟨en', g1.keptNil k, g2, g3⟩, g4.keptNil k, Nat.le_trans g5 k.size⟩
  · rintro W b' cs o v ⟨⟨en', g1, g2, g3⟩, g4, g5⟩ hb
    exact ⟨⟨en', g1.set hb (by decide) (by decide) (by decide) (by decide) (by decide) o v, g2, g3⟩, g4.resSet hb o v, by simpa [World.setCell] using g5⟩
  · rintro W W' ⟨⟨en', g1, g2, g3⟩, sl', g4, g5⟩ k
    exact ⟨⟨en', g1.keptNil k, g2, g3⟩, sl', g4.keptNil k, g5⟩
  · rintro W b' cs o v ⟨⟨en', g1, g2, g3⟩, sl', g4, g5⟩ hb
    exact ⟨⟨en', g1.set hb (by decide) (by decide) (by decide) (by decide) (by decide) o v, g2, g3⟩, sl', g4.resSet hb o v, g5⟩
  · intro W hW
    refine (run1 W hW).mono ?_
    rintro e w' ⟨rfl, en', g1, g2, g3, k⟩
    exact ⟨rfl, ⟨⟨en', g1, g2, fun j a b => Nat.le_trans hW.size (g3 j a b)⟩, (h.q.keptNil hW).progKept (h.g.keptNil hW) k, Nat.le_trans hW.size k.size⟩, k⟩
  · rintro W ⟨⟨en', g1, g2, g3⟩, g4, g5⟩ _
    refine (run2 W g4 g5).mono ?_
    rintro e w' ⟨rfl, ⟨sl', q1, q2⟩, k⟩
    exact ⟨rfl, ⟨⟨en', g1.refKept g4 k, g2, g3⟩, sl', q1, fun g hg => (q2 g hg).imp id fun hh => Nat.le_trans g5 hh⟩, k⟩
  · rintro e w' ⟨rfl, ⟨⟨en', g1, g2, g3⟩, sl', q1, q2⟩, k⟩
    refine ⟨rfl, ⟨en', sl', ⟨k.at h.b ?_, g1, q1, hI', Nat.le_trans h.base k.size⟩, g2, g3, q2⟩, k⟩
    simp only [List.mem_append, not_or]
    exact ⟨hbF, hbG⟩
end Go.Proofs.YtfgfpggjcfhccaaGreat
namespace Go.Proofs.YtfgfpggjcfhccaaGreat
open Go.RowKit
/-- A step keeps what must be (Load and Store). -/
theorem inv_step {m : M} (h : m.Inv) (hK : ∀ j, j < m.nth → ¬ (m.ths j).at_ = 0 → (m.ths j).kind = 0 ∨ (m.ths j).kind = 1) (i : Int) : (m.step i).o.m.Inv := by
  unfold M.step
  by_cases hc : m.cl = true
  · rw [if_pos hc]; exact h
  rw [if_neg hc]
  by_cases hi : i < 0 ∨ (m.nth : Int) ≤ i
  · rw [if_pos hi]; exact h
  rw [if_neg hi]
  by_cases ha : (m.ths i.toNat).at_ = 0
  · rw [if_pos ha]; exact h
  rw [if_neg ha]
  have hi' : i.toNat < m.nth := by omega
  have ho := (h.th _ hi').resolve_left ha
  cases hd : m.does i.toNat with
  | none => exact h
  | some o =>
    show o.m.Inv
    unfold M.does at hd
    by_cases e : (m.ths i.toNat).at_ = m.lockAt i.toNat
    · rw [if_pos e] at hd
      by_cases hf : 0 ≤ m.hol
      · rw [if_pos hf] at hd; cases hd
      · rw [if_neg hf, Option.some.injEq] at hd
        rw [← hd]
        exact inv_take h hi' ho e (Int.not_le.1 hf)
    · rw [if_neg e] at hd
      rcases hK _ hi' ha with hk | hk
      · rw [if_pos hk, Option.some.injEq] at hd
        rw [← hd]
        exact inv_load h hi' ho hk (fun q => e (by rw [q]; simp [M.lockAt, hk]))
      · rw [if_neg (by omega), if_pos hk, Option.some.injEq] at hd
        rw [← hd]
        exact inv_store h hi' ho hk (fun q => e (by rw [q]; simp [M.lockAt, hk]))
/-- Begin of both. -/
theorem pair_begin {b : Nat} {p : PM} {en : Nat → Nat} {r tb : Nat} {sl : Value} {B : Nat} {m : M} {w : World} (h : Pair b p en r tb sl B m w) (x0 i kind key v o : Int) :
    Calls Tryz.prog 8 #[.pointer (some ⟨b, 0, none⟩), .agg #[.int .i64 2, .int .i64 x0, .int .i64 i, .int .i64 kind, .int .i64 key, .int .i64 v, .int .i64 o]] w fun e w' =>
      e = .returned (.bool true) ∧ Pair b p en r tb sl B (m.begin i kind key v o).2 w' ∧ Kept (fpm p en m ++ fr r tb sl) w w' := by
  have hbF := h.g.notFpm h.b (by decide) (by decide) (by decide) (by decide)
  have hbG := h.q.notFr h.b (by simp) (by simp) (by simp)
  have run1 := fun W (hW : Kept [] w W) => g_mbegin (h.g.keptNil hW) h.inv i kind key v o
  have run2 := fun W (hq : RefAt r tb sl B m W) => r_begin hq h.inv i kind key v o
  have hI' := inv_begin h.inv i kind key v o
  generalize m.begin i kind key v o = a at *
  refine Calls.mono (does_begin_gen b p.m r x0 i kind key v o a.1 (fpm p en m) (fr r tb sl)
    (fun W => GAt p en 0 a.2 W ∧ RefAt r tb sl B m W) (fun W => GAt p en 0 a.2 W ∧ RefAt r tb sl B a.2 W)
    w h.b hbF hbG h.g.fpm_lt h.q.fr_lt ?_ ?_ ⟨?_, ?_⟩) ?_
  · intro W hW
    refine (run1 W hW).mono ?_
    rintro e w' ⟨rfl, g1, k⟩
    exact ⟨rfl, ⟨g1, (h.q.keptNil hW).progKept (h.g.keptNil hW) k⟩, k⟩
  · rintro W ⟨g1, g4⟩ _
    refine (run2 W g4).mono ?_
    rintro e w' ⟨rfl, q1, k⟩
    have k' : Kept (fr r tb sl) W w' := k.mono (by simp [fr])
    exact ⟨rfl, ⟨g1.refKept g4 k', q1⟩, k'⟩
  · rintro W W' ⟨g1, g4⟩ k
    exact ⟨g1.keptNil k, g4.keptNil k⟩
  · rintro W b' cs o v ⟨g1, g4⟩ hb
    exact ⟨g1.set hb (by decide) (by decide) (by decide) (by decide) (by decide) o v, g4.resSet hb o v⟩
  · rintro e w' ⟨rfl, ⟨g1, q1⟩, k⟩
    refine ⟨rfl, ⟨k.at h.b ?_, g1, q1, hI', Nat.le_trans h.base k.size⟩, k⟩
    simp only [List.mem_append, not_or]
    exact ⟨hbF, hbG⟩
theorem inv_close {m : M} (h : m.Inv) : { m with cl := true }.Inv :=
  ⟨h.hol, h.lock, fun i hi => (h.th i hi).imp id fun a => ⟨a.op, a.ak, a.e, a.ne, a.nx⟩, h.rd, h.dt, h.cel, h.mis⟩
/-- Close of both. -/
theorem pair_close {b : Nat} {p : PM} {en : Nat → Nat} {r tb : Nat} {sl : Value} {B : Nat} {m : M} {w : World} (h : Pair b p en r tb sl B m w) (x0 i y0 y1 y2 y3 : Int) :
    Calls Tryz.prog 8 #[.pointer (some ⟨b, 0, none⟩), .agg #[.int .i64 5, .int .i64 x0, .int .i64 i, .int .i64 y0, .int .i64 y1, .int .i64 y2, .int .i64 y3]] w fun e w' =>
      e = .returned (.bool true) ∧ Pair b p en r tb sl B { m with cl := true } w' ∧ Kept (fpm p en m ++ fr r tb sl) w w' := by
  have hbF := h.g.notFpm h.b (by decide) (by decide) (by decide) (by decide)
  have hbG := h.q.notFr h.b (by simp) (by simp) (by simp)
  refine Calls.mono (does_close_gen b p.m r x0 i y0 y1 y2 y3 (fpm p en m) (fun W => GAt p en 0 { m with cl := true } W ∧ RefAt r tb sl B m W) (fun W => GAt p en 0 { m with cl := true } W ∧ RefAt r tb sl B { m with cl := true } W) w h.b hbF ?_ ?_ ?_) ?_
  · intro W hW
    refine (g_close (h.g.keptNil hW)).mono ?_
    rintro e w' ⟨rfl, g1, k⟩
    have k' : Kept (fpm p en m) W w' := k.mono (by intro x hx; simp only [List.mem_cons, List.not_mem_nil, or_false] at hx; rcases hx with rfl | rfl <;> simp [fpm])
    exact ⟨rfl, ⟨g1, (h.q.keptNil hW).progKept (h.g.keptNil hW) k'⟩, k'⟩
  · rintro W ⟨_, g4⟩
    obtain ⟨-, hfr, -, -, -, -, -, -, -, c21, -⟩ := g4.mapCell
    exact ⟨_, c21, hfr 21⟩
  · rintro W ⟨g1, g4⟩
    obtain ⟨cs, hr, _⟩ := g4.own
    exact ⟨g1.set hr (by decide) (by decide) (by decide) (by decide) (by decide) _ _, g4.setCl true⟩
  · rintro e w' ⟨rfl, ⟨g1, q1⟩, k⟩
    refine ⟨rfl, ⟨k.at h.b ?_, g1, q1, inv_close h.inv, Nat.le_trans h.base k.size⟩, k.mono ?_⟩
    · simp only [List.mem_cons, not_or]
      exact ⟨fun e => hbG (by rw [e]; simp [fr]), hbF⟩
    · intro x hx
      rcases List.mem_cons.1 hx with rfl | hx
      · exact List.mem_append_right _ (by simp [fr])
      · exact List.mem_append_left _ hx
end Go.Proofs.YtfgfpggjcfhccaaGreat
namespace Go.Proofs.YtfgfpggjcfhccaaGreat
open Go.RowKit
/-- A table's entries. -/
def tri (f : Nat → Int) (X : Nat → Int × Int) : Nat → List (Int × Int × Int)
  | 0 => []
  | k + 1 => tri f X k ++ (if 0 ≤ f k then [((k : Int), (X k).1, (X k).2)] else [])
def flat : List (Int × Int × Int) → List Value
  | [] => []
  | t :: l => .int .i64 t.1 :: .int .i64 t.2.1 :: .int .i64 t.2.2 :: flat l
theorem flat_append (a b : List (Int × Int × Int)) : flat (a ++ b) = flat a ++ flat b := by
  induction a with
  | nil => rfl
  | cons t l ih => simp only [List.cons_append, flat, ih]
theorem flat_at : ∀ (l : List (Int × Int × Int)) (i : Nat) (t : Int × Int × Int), l[i]? = some t →
    (flat l)[i * 3]? = some (.int .i64 t.1) ∧ (flat l)[i * 3 + 1]? = some (.int .i64 t.2.1) ∧ (flat l)[i * 3 + 2]? = some (.int .i64 t.2.2)
  | [], i, t, h => by simp at h
  | x :: l, 0, t, h => by
    simp only [List.getElem?_cons_zero, Option.some.injEq] at h
    subst h
    exact ⟨rfl, rfl, rfl⟩
  | x :: l, i + 1, t, h => by
    have := flat_at l i t (by simpa using h)
    rw [show (i + 1) * 3 = i * 3 + 3 by omega]
    simpa [flat] using this
theorem tri_len (f : Nat → Int) (X : Nat → Int × Int) (k : Nat) : (tri f X k).length = cnt f k := by
  induction k with
  | zero => rfl
  | succ k ih =>
    simp only [tri, cnt, List.length_append, ih]
    split <;> simp
theorem rowI_flat (f : Nat → Int) (X : Nat → Int × Int) (k : Nat) : rowI f X k = flat (tri f X k) := by
  induction k with
  | zero => rfl
  | succ k ih =>
    simp only [rowI, tri, flat_append, ih]
    split <;> rfl
theorem rowP_rowI (en : Nat → Nat) (f : Nat → Int) (X : Nat → Int × Int) (k : Nat) : rowP (fun k => ptrE en (f k)) X k = rowI f X k := by
  induction k with
  | zero => rfl
  | succ k ih => simp only [rowP, rowI, ptrE_isSome, decide_eq_true_eq, ih]
def M.ent (f : Nat → Int) (X : Nat → Int × Int) (i : Nat) : Int × Int × Int := (tri f X 8).getD i (0, 0, 0)
theorem rowAt_list {f : Nat → Int} {X : Nat → Int × Int} {w : World} {b : Nat} (h : w.heap[b]? = some (.cells (rowI f X 8).toArray 84 (0, 0))) : RowAt (some ⟨b, 0, none⟩) (cnt f 8) (M.ent f X) w := by
  intro i hi
  have hl : i < (tri f X 8).length := by rw [tri_len]; exact hi
  have he : (tri f X 8)[i]? = some (M.ent f X i) := by
    unfold M.ent
    rw [List.getD_eq_getElem?_getD, List.getElem?_eq_getElem hl]
    rfl
  have := flat_at _ _ _ he
  rw [← rowI_flat] at this
  refine ⟨b, rfl, ?_, ?_, ?_⟩
  · rw [cell_of h]; simpa using this.1
  · rw [cell_of h]; simpa using this.2.1
  · rw [cell_of h]; simpa using this.2.2
theorem rowAt_own {f : Nat → Int} {X : Nat → Int × Int} {w : World} {base : Nat} {a : Option Addr} {n c : Nat} (h : w.ownsRow base 84 3 (.slice a n c) (cnt f 8) (rowI f X 8)) : n = cnt f 8 ∧ RowAt a (cnt f 8) (M.ent f X) w ∧ cnt f 8 ≤ c := by
  rcases h.2 with ⟨e, h0⟩ | ⟨g, cap, cur, e1, e2, e3, e4, e5, e6, e7⟩
  · simp only [Value.slice.injEq] at e
    obtain ⟨rfl, rfl, rfl⟩ := e
    exact ⟨h0.symm, fun i hi => absurd hi (by omega), by omega⟩
  · simp only [Value.slice.injEq] at e1
    obtain ⟨rfl, rfl, rfl⟩ := e1
    refine ⟨rfl, fun i hi => ?_, e4⟩
    have hl : i < (tri f X 8).length := by rw [tri_len]; exact hi
    have he : (tri f X 8)[i]? = some (M.ent f X i) := by
      unfold M.ent
      rw [List.getD_eq_getElem?_getD, List.getElem?_eq_getElem hl]
      rfl
    have := flat_at _ _ _ he
    rw [← rowI_flat, ← e7] at this
    refine ⟨g, rfl, ?_, ?_, ?_⟩
    · rw [cell_of e3, ← Array.getElem?_toList, ← this.1, List.getElem?_take, if_pos (by omega)]
    · rw [cell_of e3, ← Array.getElem?_toList, ← this.2.1, List.getElem?_take, if_pos (by omega)]
    · rw [cell_of e3, ← Array.getElem?_toList, ← this.2.2, List.getElem?_take, if_pos (by omega)]
theorem RefAt.set27 {r tb : Nat} {sl : Value} {B : Nat} {m : M} {w : World} {g : Nat} {cs : Array Value} (h : RefAt r tb sl B m w) (hg : w.heap[g]? = some (.cells cs 27 (0, 0))) (o : Nat) (v : Value) : RefAt r tb sl B m (w.setCell ⟨g, o, none⟩ v) := by
  have hn := h.notFr hg (by simp) (by simp) (by simp)
  refine h.kept (F := [g]) ((Kept.refl [g] w).setCell (.inl (by simp)) v) ?_ ?_ ?_
  · intro hx; simp only [List.mem_singleton] at hx; exact hn (by rw [← hx]; simp [fr])
  · intro hx; simp only [List.mem_singleton] at hx; exact hn (by rw [← hx]; simp [fr])
  · intro x hx hy; simp only [List.mem_singleton] at hy; subst hy; exact hn (by simp [fr, hx])
/-- Look at both. -/
theorem pair_seen {b : Nat} {p : PM} {en : Nat → Nat} {r tb : Nat} {sl : Value} {B : Nat} {m : M} {w : World} (h : Pair b p en r tb sl B m w) :
    Calls Tryz.prog 7 #[.pointer (some ⟨b, 0, none⟩)] w fun e w' => ∃ b1 b2, e = .returned (.tuple #[.agg #[.slice (some ⟨b1, 0, none⟩) (cnt m.read 8) (cnt m.read 8), .bool m.am, .bool m.hd, .slice (some ⟨b2, 0, none⟩) (cnt m.dirty 8) (cnt m.dirty 8), .int .i64 m.mis, .int .i64 m.hol], .bool true]) ∧
      w'.heap[b1]? = some (.cells (rowI m.read m.rdX 8).toArray 84 (0, 0)) ∧ w'.heap[b2]? = some (.cells (rowI m.dirty m.dtX 8).toArray 84 (0, 0)) ∧ w.heap.size ≤ b1 ∧ w.heap.size ≤ b2 ∧ b1 ≠ b2 ∧ Pair b p en r tb sl B m w' ∧ Kept (fpm p en m) w w' := by
  have hbF := h.g.notFpm h.b (by decide) (by decide) (by decide) (by decide)
  refine Calls.mono (seen_gen b p.m r (cnt m.read 8) (cnt m.dirty 8) (cnt_le _ _) (cnt_le _ _) (M.ent m.read m.rdX) (M.ent m.dirty m.dtX) m.am m.hd m.mis m.hol (fpm p en m) (fun W => GAt p en 0 m W ∧ RefAt r tb sl B m W) (rowI m.read m.rdX 8).toArray (rowI m.dirty m.dtX 8).toArray w h.b hbF h.g.fpm_lt ⟨?_, ?_⟩ ?_ ?_) ?_
  · rintro W W' ⟨g1, g4⟩ k
    exact ⟨g1.keptNil k, g4.keptNil k⟩
  · rintro W b' cs o v ⟨g1, g4⟩ hb
    exact ⟨g1.set hb (by decide) (by decide) (by decide) (by decide) (by decide) o v, g4.set27 hb o v⟩
  · intro W hW
    refine (g_look (h.g.keptNil hW) h.inv).mono ?_
    rintro e w' ⟨b1, b2, rfl, l1, l2, z1, z2, z3, g1, k⟩
    have e1 : cntP (shOf en m).R 8 = cnt m.read 8 := cntP_eq en m.read 8
    have e2 : cntP (shOf en m).D 8 = cnt m.dirty 8 := cntP_eq en m.dirty 8
    have r1 : rowP (shOf en m).R m.rdX 8 = rowI m.read m.rdX 8 := rowP_rowI en m.read m.rdX 8
    have r2 : rowP (shOf en m).D m.dtX 8 = rowI m.dirty m.dtX 8 := rowP_rowI en m.dirty m.dtX 8
    have k' : Kept (fpm p en m) W w' := k.mono (by simp [fpm])
    unfold ListOut at l1 l2
    rw [r1] at l1
    rw [r2] at l2
    refine ⟨b1, b2, ?_, l1, l2, rowAt_list l1, rowAt_list l2, z1, z2, z3, ⟨g1, (h.q.keptNil hW).progKept (h.g.keptNil hW) k'⟩, k'⟩
    simp only [lst, e1, e2]
  · rintro W ⟨_, g4⟩
    refine (r_look g4 h.inv).mono ?_
    rintro e w' ⟨a1, n1, c1, a2, n2, c2, rfl, o1, o2, k⟩
    obtain ⟨rfl, q1, q2⟩ := rowAt_own o1
    obtain ⟨rfl, q3, q4⟩ := rowAt_own o2
    exact ⟨a1, c1, a2, c2, rfl, q1, q3, q2, q4, k⟩
  · rintro e w' ⟨b1, b2, rfl, l1, l2, z1, z2, z3, ⟨g1, g4⟩, k⟩
    exact ⟨b1, b2, rfl, l1, l2, z1, z2, z3, ⟨k.at h.b hbF, g1, g4, h.inv, Nat.le_trans h.base k.size⟩, k⟩
end Go.Proofs.YtfgfpggjcfhccaaGreat
