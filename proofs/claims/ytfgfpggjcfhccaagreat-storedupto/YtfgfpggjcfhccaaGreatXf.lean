import Derived.Test.YtfgfpggjcfhccaaGreatQe
import Derived.OwnWalk
import Derived.Deep.AppendLies
import Derived.FnLit
import Derived.Test.YtfgfpggjcfhccaaGreatXa
import Derived.Test.YtfgfpggjcfhccaaGreatNb
import Derived.BigRegion
namespace Go.Proofs.YtfgfpggjcfhccaaGreat
open Go.RowKit Go.MuLone
theorem GAt.nth' {p : PM} {en : Nat → Nat} {l : Int} {m : M} {w : World} (h : GAt p en l m w) {i : Nat} (hi : i < p.ts.length) :
    ∃ t, p.ts[i]? = some t ∧ w.cell? ⟨p.tb, i, none⟩ = some (.pointer (some ⟨t, 0, none⟩)) := by
  obtain ⟨cs, h1, h2⟩ := h.tb
  have e : p.ts[i]? = some p.ts[i] := List.getElem?_eq_getElem hi
  exact ⟨p.ts[i], e, by rw [cell_of h1]; exact h2 i _ e⟩
/-- A map that a call may write. -/
def fpm (p : PM) (en : Nat → Nat) (m : M) : List Nat := p.m :: p.c :: fp p en m
theorem still_res {p : PM} {en : Nat → Nat} {m : M} {w w' : World} (g : GAt p en 0 m w') (er : Int) (k : Kept [p.m] w w') : GRes p en 0 m (fpm p en m) w (m.still er) (.returned (ans false false 0 er)) w' :=
  ⟨rfl, en, g, fun _ _ => rfl, fun j h1 h2 => absurd h2 (by show ¬ j < m.nc; omega), k.mono (by simp [fpm])⟩
set_option maxRecDepth 100000 in
set_option maxHeartbeats 800000 in
theorem g_mclosed {p : PM} {en : Nat → Nat} {m : M} {w : World} (h : GAt p en 0 m w) (i : Int) (hc : m.cl = true) :
    Calls Tryz.prog 17 #[.pointer (some ⟨p.m, 0, none⟩), .int .i64 i] w (GRes p en 0 m (fpm p en m) w (m.still 5)) := by
  have hs := lt_of_block h.mp
  have h1 := (h.alloc (.cells #[.bool false, .bool false, .int .i64 0] 52)).lock 1
  have k1 : Kept [p.m] w ((w.alloc (.cells #[.bool false, .bool false, .int .i64 0] 52)).setCell ⟨p.m, 0, none⟩ (.int .i32 1)) := ((Kept.refl _ w).alloc _).setCell (.inl (by simp)) _
  have hr : ((w.alloc (.cells #[.bool false, .bool false, .int .i64 0] 52)).setCell ⟨p.m, 0, none⟩ (.int .i32 1)).heap[w.heap.size]? = some (.cells #[.bool false, .bool false, .int .i64 0] 52 (0, 0)) :=
    block_set_ne (block_alloc_new _ _) (by omega) _ _
  have hsz : w.heap.size ≤ ((w.alloc (.cells #[.bool false, .bool false, .int .i64 0] 52)).setCell ⟨p.m, 0, none⟩ (.int .i32 1)).heap.size := k1.size
  go_enter_defers Tryz.func17, Tryz.ntmps17
  go_wp2_with fail
  refine (lock_free Tryz.muLib ⟨p.m, 0, none⟩ _ ?_ ?_).mono ?_
  · rw [cell_of (h.alloc _).mp]; rfl
  · rw [frozen_of (h.alloc _).mp]
  rintro e w' ⟨rfl, rfl⟩
  generalize ((w.alloc (.cells #[.bool false, .bool false, .int .i64 0] 52)).setCell ⟨p.m, 0, none⟩ (.int .i32 1)) = W at *
  go_wp2_with fail
  refine (isClosed_yes p.m p.c 0 0 _ (by rw [cell_of h1.mp]; rfl) (by have := h1.c; rw [hc] at this; exact this)).mono ?_
  rintro e w' ⟨rfl, rfl⟩
  have c0 : w'.cell? ⟨w.heap.size, 0, none⟩ = some (.bool false) := cell_of hr 0
  have c1 : w'.cell? ⟨w.heap.size, 1, none⟩ = some (.bool false) := cell_of hr 1
  have c2 : w'.cell? ⟨w.heap.size, 2, none⟩ = some (.int .i64 0) := cell_of hr 2
  have f0 : ∀ o, w'.frozen? ⟨w.heap.size, o, none⟩ = false := frozen_of hr
  go_wp2
  have hr2 := block_set_same (block_set_same (block_set_same hr 0 (.bool false)) 1 (.bool false)) 2 (.int .i64 0)
  have h2 := ((h1.set hr (by decide) (by decide) (by decide) (by decide) (by decide) 0 (.bool false)).set (block_set_same hr 0 _) (by decide) (by decide) (by decide) (by decide) (by decide) 1 (.bool false)).set (block_set_same (block_set_same hr 0 _) 1 _) (by decide) (by decide) (by decide) (by decide) (by decide) 2 (.int .i64 0)
  have k2 := k1.res (g := w.heap.size) (Nat.le_refl _) (.bool false) (.bool false) (.int .i64 0)
  refine door_unlock p.m _ (by rw [cell_of h2.mp]; rfl) (by rw [frozen_of h2.mp]) (res16 w.heap.size _ _ _ _ rfl rfl ?_ ?_ ?_) (still_res (h2.lock 0) 5 (k2.setCell (.inl (by simp)) _))
  all_goals (rw [cell_of (block_set_ne hr2 (by omega) _ _)]; rfl)
set_option maxRecDepth 100000 in
set_option maxHeartbeats 800000 in
theorem g_marg {p : PM} {en : Nat → Nat} {m : M} {w : World} (h : GAt p en 0 m w) (i : Int) (hc : m.cl = false) (hi : i < 0 ∨ (m.nth : Int) ≤ i) :
    Calls Tryz.prog 17 #[.pointer (some ⟨p.m, 0, none⟩), .int .i64 i] w (GRes p en 0 m (fpm p en m) w (m.still 1)) := by
  have hs := lt_of_block h.mp
  have h1 := (h.alloc (.cells #[.bool false, .bool false, .int .i64 0] 52)).lock 1
  have k1 : Kept [p.m] w ((w.alloc (.cells #[.bool false, .bool false, .int .i64 0] 52)).setCell ⟨p.m, 0, none⟩ (.int .i32 1)) := ((Kept.refl _ w).alloc _).setCell (.inl (by simp)) _
  have hr : ((w.alloc (.cells #[.bool false, .bool false, .int .i64 0] 52)).setCell ⟨p.m, 0, none⟩ (.int .i32 1)).heap[w.heap.size]? = some (.cells #[.bool false, .bool false, .int .i64 0] 52 (0, 0)) :=
    block_set_ne (block_alloc_new _ _) (by omega) _ _
  have hsz : w.heap.size ≤ ((w.alloc (.cells #[.bool false, .bool false, .int .i64 0] 52)).setCell ⟨p.m, 0, none⟩ (.int .i32 1)).heap.size := k1.size
  go_enter_defers Tryz.func17, Tryz.ntmps17
  go_wp2_with fail
  refine (lock_free Tryz.muLib ⟨p.m, 0, none⟩ _ ?_ ?_).mono ?_
  · rw [cell_of (h.alloc _).mp]; rfl
  · rw [frozen_of (h.alloc _).mp]
  rintro e w' ⟨rfl, rfl⟩
  generalize ((w.alloc (.cells #[.bool false, .bool false, .int .i64 0] 52)).setCell ⟨p.m, 0, none⟩ (.int .i32 1)) = W at *
  go_wp2_with fail
  refine (isClosed_no p.m p.c 0 0 _ (by rw [cell_of h1.mp]; rfl) (by have := h1.c; rw [hc] at this; exact this)).mono ?_
  rintro e w' ⟨rfl, rfl⟩
  have hl := h.len
  go_wp2_with fail
  refine (hasThread_no p.m (some ⟨p.tb, 0, none⟩) p.ts.length p.cap i _ (by rw [cell_of h1.mp]; rfl) (by rw [hl]; exact hi)).mono ?_
  rintro e w' ⟨rfl, rfl⟩
  have c0 : w'.cell? ⟨w.heap.size, 0, none⟩ = some (.bool false) := cell_of hr 0
  have c1 : w'.cell? ⟨w.heap.size, 1, none⟩ = some (.bool false) := cell_of hr 1
  have c2 : w'.cell? ⟨w.heap.size, 2, none⟩ = some (.int .i64 0) := cell_of hr 2
  have f0 : ∀ o, w'.frozen? ⟨w.heap.size, o, none⟩ = false := frozen_of hr
  go_wp2
  have hr2 := block_set_same (block_set_same (block_set_same hr 0 (.bool false)) 1 (.bool false)) 2 (.int .i64 0)
  have h2 := ((h1.set hr (by decide) (by decide) (by decide) (by decide) (by decide) 0 (.bool false)).set (block_set_same hr 0 _) (by decide) (by decide) (by decide) (by decide) (by decide) 1 (.bool false)).set (block_set_same (block_set_same hr 0 _) 1 _) (by decide) (by decide) (by decide) (by decide) (by decide) 2 (.int .i64 0)
  have k2 := k1.res (g := w.heap.size) (Nat.le_refl _) (.bool false) (.bool false) (.int .i64 0)
  refine door_unlock p.m _ (by rw [cell_of h2.mp]; rfl) (by rw [frozen_of h2.mp]) (res16 w.heap.size _ _ _ _ rfl rfl ?_ ?_ ?_) (still_res (h2.lock 0) 1 (k2.setCell (.inl (by simp)) _))
  all_goals (rw [cell_of (block_set_ne hr2 (by omega) _ _)]; rfl)
set_option maxRecDepth 100000 in
set_option maxHeartbeats 800000 in
theorem g_midle {p : PM} {en : Nat → Nat} {m : M} {w : World} (h : GAt p en 0 m w) (i : Int) (hc : m.cl = false) (h0 : 0 ≤ i) (hi : i < (m.nth : Int)) (hat : (m.ths i.toNat).at_ = 0) :
    Calls Tryz.prog 17 #[.pointer (some ⟨p.m, 0, none⟩), .int .i64 i] w (GRes p en 0 m (fpm p en m) w (m.still 3)) := by
  have hs := lt_of_block h.mp
  have h1 := (h.alloc (.cells #[.bool false, .bool false, .int .i64 0] 52)).lock 1
  have k1 : Kept [p.m] w ((w.alloc (.cells #[.bool false, .bool false, .int .i64 0] 52)).setCell ⟨p.m, 0, none⟩ (.int .i32 1)) := ((Kept.refl _ w).alloc _).setCell (.inl (by simp)) _
  have hr : ((w.alloc (.cells #[.bool false, .bool false, .int .i64 0] 52)).setCell ⟨p.m, 0, none⟩ (.int .i32 1)).heap[w.heap.size]? = some (.cells #[.bool false, .bool false, .int .i64 0] 52 (0, 0)) :=
    block_set_ne (block_alloc_new _ _) (by omega) _ _
  have hsz : w.heap.size ≤ ((w.alloc (.cells #[.bool false, .bool false, .int .i64 0] 52)).setCell ⟨p.m, 0, none⟩ (.int .i32 1)).heap.size := k1.size
  go_enter_defers Tryz.func17, Tryz.ntmps17
  go_wp2_with fail
  refine (lock_free Tryz.muLib ⟨p.m, 0, none⟩ _ ?_ ?_).mono ?_
  · rw [cell_of (h.alloc _).mp]; rfl
  · rw [frozen_of (h.alloc _).mp]
  rintro e w' ⟨rfl, rfl⟩
  generalize ((w.alloc (.cells #[.bool false, .bool false, .int .i64 0] 52)).setCell ⟨p.m, 0, none⟩ (.int .i32 1)) = W at *
  go_wp2_with fail
  refine (isClosed_no p.m p.c 0 0 _ (by rw [cell_of h1.mp]; rfl) (by have := h1.c; rw [hc] at this; exact this)).mono ?_
  rintro e w' ⟨rfl, rfl⟩
  have hl := h.len
  have hcap := h.cap
  go_wp2_with fail
  refine (hasThread_yes p.m (some ⟨p.tb, 0, none⟩) p.ts.length p.cap i _ (by rw [cell_of h1.mp]; rfl) h0 (by rw [hl]; exact hi)).mono ?_
  rintro e w' ⟨rfl, rfl⟩
  have hil : i < (p.ts.length : Int) := by rw [hl]; exact hi
  obtain ⟨t, ht, hct⟩ := h1.nth' (i := i.toNat) (by omega)
  have c4 : w'.cell? ⟨p.m, 4, none⟩ = some (.slice (some ⟨p.tb, 0, none⟩) p.ts.length p.cap) := cell_of h1.mp 4
  have HT : Hid _ := ht
  clear ht
  obtain ⟨cp, _, hbt⟩ := h1.ts _ t HT.out
  rw [tcOf_idle hat] at hbt
  go_wp2_with fail
  refine Calls.mono (tstep_idle t _ hbt rfl) ?_
  rintro e w2 ⟨rfl, k2⟩
  replace hr := k2.at hr (by simp)
  replace h1 := h1.keptNil k2
  replace k1 : Kept [p.m] w w2 := k1.trans (k2.mono (by simp))
  have c0 : w2.cell? ⟨w.heap.size, 0, none⟩ = some (.bool false) := cell_of hr 0
  have c1 : w2.cell? ⟨w.heap.size, 1, none⟩ = some (.bool false) := cell_of hr 1
  have c2 : w2.cell? ⟨w.heap.size, 2, none⟩ = some (.int .i64 0) := cell_of hr 2
  have f0 : ∀ o, w2.frozen? ⟨w.heap.size, o, none⟩ = false := frozen_of hr
  clear c4 hct hbt
  go_wp2
  have hr2 := block_set_same (block_set_same (block_set_same hr 0 (.bool false)) 1 (.bool false)) 2 (.int .i64 0)
  have h2 := ((h1.set hr (by decide) (by decide) (by decide) (by decide) (by decide) 0 (.bool false)).set (block_set_same hr 0 _) (by decide) (by decide) (by decide) (by decide) (by decide) 1 (.bool false)).set (block_set_same (block_set_same hr 0 _) 1 _) (by decide) (by decide) (by decide) (by decide) (by decide) 2 (.int .i64 0)
  have k2 := k1.res (g := w.heap.size) (Nat.le_refl _) (.bool false) (.bool false) (.int .i64 0)
  refine door_unlock p.m _ (by rw [cell_of h2.mp]; rfl) (by rw [frozen_of h2.mp]) (res16 w.heap.size _ _ _ _ rfl rfl ?_ ?_ ?_) (still_res (h2.lock 0) 3 (k2.setCell (.inl (by simp)) _))
  all_goals (rw [cell_of (block_set_ne hr2 (by omega) _ _)]; rfl)
set_option maxRecDepth 100000 in
set_option maxHeartbeats 800000 in
theorem g_mgo {p : PM} {en : Nat → Nat} {m : M} {w : World} (h : GAt p en 0 m w) (i : Int) (hc : m.cl = false) (hI : m.Inv) (h0 : 0 ≤ i) (hi : i < (m.nth : Int)) (ho : ThOk m (m.ths i.toNat)) (hk : (m.ths i.toNat).kind = 0 ∨ (m.ths i.toNat).kind = 1) (hat : ¬ (m.ths i.toNat).at_ = 0) :
    Calls Tryz.prog 17 #[.pointer (some ⟨p.m, 0, none⟩), .int .i64 i] w (GRes p en 0 m (fpm p en m) w (m.ansOf i.toNat)) := by
  have hs := lt_of_block h.mp
  have h1 := (h.alloc (.cells #[.bool false, .bool false, .int .i64 0] 52)).lock 1
  have k1 : Kept [p.m] w ((w.alloc (.cells #[.bool false, .bool false, .int .i64 0] 52)).setCell ⟨p.m, 0, none⟩ (.int .i32 1)) := ((Kept.refl _ w).alloc _).setCell (.inl (by simp)) _
  have hr : ((w.alloc (.cells #[.bool false, .bool false, .int .i64 0] 52)).setCell ⟨p.m, 0, none⟩ (.int .i32 1)).heap[w.heap.size]? = some (.cells #[.bool false, .bool false, .int .i64 0] 52 (0, 0)) :=
    block_set_ne (block_alloc_new _ _) (by omega) _ _
  have hsz : w.heap.size ≤ ((w.alloc (.cells #[.bool false, .bool false, .int .i64 0] 52)).setCell ⟨p.m, 0, none⟩ (.int .i32 1)).heap.size := k1.size
  go_enter_defers Tryz.func17, Tryz.ntmps17
  go_wp2_with fail
  refine (lock_free Tryz.muLib ⟨p.m, 0, none⟩ _ ?_ ?_).mono ?_
  · rw [cell_of (h.alloc _).mp]; rfl
  · rw [frozen_of (h.alloc _).mp]
  rintro e w' ⟨rfl, rfl⟩
  generalize ((w.alloc (.cells #[.bool false, .bool false, .int .i64 0] 52)).setCell ⟨p.m, 0, none⟩ (.int .i32 1)) = W at *
  go_wp2_with fail
  refine (isClosed_no p.m p.c 0 0 _ (by rw [cell_of h1.mp]; rfl) (by have := h1.c; rw [hc] at this; exact this)).mono ?_
  rintro e w' ⟨rfl, rfl⟩
  have hl := h.len
  have hcap := h.cap
  go_wp2_with fail
  refine (hasThread_yes p.m (some ⟨p.tb, 0, none⟩) p.ts.length p.cap i _ (by rw [cell_of h1.mp]; rfl) h0 (by rw [hl]; exact hi)).mono ?_
  rintro e w' ⟨rfl, rfl⟩
  have hil : i < (p.ts.length : Int) := by rw [hl]; exact hi
  obtain ⟨t, ht, hct⟩ := h1.nth' (i := i.toNat) (by omega)
  have c4 : w'.cell? ⟨p.m, 4, none⟩ = some (.slice (some ⟨p.tb, 0, none⟩) p.ts.length p.cap) := cell_of h1.mp 4
  have HT : Hid _ := ht
  clear ht
  have run := g_tstep h1 hI HT.out ho hk hat
  have hnot : w.heap.size ∉ fp p en m := fun hx => Nat.lt_irrefl _ (h.fp_lt _ hx)
  generalize m.ansOf i.toNat = a at *
  have RUN : Hid _ := run
  clear run ho hk hat hI
  go_wp2_with fail
  refine Calls.mono RUN.out ?_
  rintro e w2 ⟨rfl, en', h2, q1, q2, k2⟩
  have r2 : w2.heap[w.heap.size]? = some (.cells #[.bool false, .bool false, .int .i64 0] 52 (0, 0)) := k2.at hr hnot
  have hc2 : ∀ o, w2.cell? ⟨w.heap.size, o, none⟩ = #[.bool false, .bool false, .int .i64 0][o]? := cell_of r2
  have hf2 : ∀ o, w2.frozen? ⟨w.heap.size, o, none⟩ = false := frozen_of r2
  have kk : Hid (Kept (fpm p en m) w w2) := (k1.mono (by simp [fpm])).trans (k2.mono fun x hx => List.mem_cons_of_mem _ (List.mem_cons_of_mem _ hx))
  have H2 : Hid _ := h2
  have Q1 : Hid _ := q1
  have Q2 : Hid (∀ j, m.nc ≤ j → j < a.o.m.nc → w.heap.size ≤ en' j) := fun j a b => Nat.le_trans hsz (q2 j a b)
  have K2 : Hid _ := k2
  clear c4 hct h2 q1 q2 k2
  simp only [ans]
  go_wp2
  have hr2 := resLaidP r2 a.o.d a.o.f a.o.v
  have h2 := ((H2.out.set r2 (by decide) (by decide) (by decide) (by decide) (by decide) 0 (.bool a.o.d)).set (block_set_same r2 0 _) (by decide) (by decide) (by decide) (by decide) (by decide) 1 (.bool a.o.f)).set (block_set_same (block_set_same r2 0 _) 1 _) (by decide) (by decide) (by decide) (by decide) (by decide) 2 (.int .i64 a.o.v)
  have k3 := kk.out.res (g := w.heap.size) (Nat.le_refl _) (.bool a.o.d) (.bool a.o.f) (.int .i64 a.o.v)
  refine door_unlock p.m _ (by rw [cell_of h2.mp]; rfl) (by rw [frozen_of h2.mp]) (res16 w.heap.size _ _ _ _ rfl rfl ?_ ?_ ?_) ⟨rfl, en', h2.lock 0, Q1.out, Q2.out, k3.setCell (.inl (by simp [fpm])) _⟩
  all_goals (rw [cell_of (block_set_ne hr2 (by omega) _ _)]; rfl)
theorem g_mstep {p : PM} {en : Nat → Nat} {m : M} {w : World} (h : GAt p en 0 m w) (hI : m.Inv) (hK : ∀ j, j < m.nth → ¬ (m.ths j).at_ = 0 → (m.ths j).kind = 0 ∨ (m.ths j).kind = 1) (i : Int) :
    Calls Tryz.prog 17 #[.pointer (some ⟨p.m, 0, none⟩), .int .i64 i] w (GRes p en 0 m (fpm p en m) w (m.step i)) := by
  unfold M.step
  by_cases hc : m.cl = true
  · rw [if_pos hc]; exact g_mclosed h i hc
  rw [if_neg hc]
  have hc' : m.cl = false := by simpa using hc
  by_cases hi : i < 0 ∨ (m.nth : Int) ≤ i
  · rw [if_pos hi]; exact g_marg h i hc' hi
  rw [if_neg hi]
  have h0 : 0 ≤ i := by omega
  have h1 : i < (m.nth : Int) := by omega
  by_cases ha : (m.ths i.toNat).at_ = 0
  · rw [if_pos ha]; exact g_midle h i hc' h0 h1 ha
  rw [if_neg ha]
  have ho := (hI.th i.toNat (by omega)).resolve_left ha
  have := g_mgo h i hc' hI h0 h1 ho (hK _ (by omega) ha) ha
  unfold M.ansOf at this
  exact this
end Go.Proofs.YtfgfpggjcfhccaaGreat
namespace Go.Proofs.YtfgfpggjcfhccaaGreat
open Go.RowKit
/-- A table's rows, as they come out. -/
def rowP (f : Nat → Option Addr) (X : Nat → Int × Int) : Nat → List Value
  | 0 => []
  | k + 1 => rowP f X k ++ (if (f k).isSome then [.int .i64 k, .int .i64 (X k).1, .int .i64 (X k).2] else [])
theorem rowP_len (f : Nat → Option Addr) (X : Nat → Int × Int) (k : Nat) : (rowP f X k).length = cntP f k * 3 := by
  induction k with
  | zero => rfl
  | succ k ih =>
    simp only [rowP, cntP, List.length_append, ih]
    split <;> simp <;> omega
theorem cntP_mono (f : Nat → Option Addr) {a b : Nat} (h : a ≤ b) : cntP f a ≤ cntP f b := by
  induction b with
  | zero => obtain rfl : a = 0 := by omega
            exact Nat.le_refl _
  | succ b ih =>
    by_cases e : a = b + 1
    · rw [e]; exact Nat.le_refl _
    · have := ih (by omega)
      simp only [cntP]
      omega
theorem infoE84 : ∃ i, Tryz.prog.info? 84 = some i ∧ i.zero = some (.agg #[.int .i64 0, .int .i64 0, .int .i64 0]) ∧ i.size = 3 ∧ i.bytes = 24 := by
  have h : (Tryz.prog.info? 84).map (fun i => (i.zero, i.size, i.bytes)) = some (some (.agg #[.int .i64 0, .int .i64 0, .int .i64 0]), 3, 24) := by kernel_rfl
  obtain ⟨i, hi, hb⟩ := Option.map_eq_some_iff.1 h
  simp only [Prod.mk.injEq] at hb
  exact ⟨i, hi, hb.1, hb.2.1, hb.2.2⟩
theorem own_kept {w w' : World} {base : Nat} {e : TypeId} {size : Nat} {v : Value} {n : Nat} {xs : List Value} (h : w.ownsRow base e size v n xs) (k : Kept [] w w') : w'.ownsRow base e size v n xs := by
  refine ⟨h.1, ?_⟩
  rcases h.2 with h' | ⟨g, cap, cur, e1, e2, e3, e4⟩
  · exact .inl h'
  · exact .inr ⟨g, cap, cur, e1, e2, k.at e3 (by simp), e4⟩
/-- A list that is being made. -/
structure Listing (f : Nat → Option Addr) (X : Nat → Int × Int) (w : World) (b k : Nat) (W : World) : Prop where
  own : W.ownsRow w.heap.size 84 3 (.slice (some ⟨b, 0, none⟩) (cntP f k) (cntP f 8)) (cntP f k) (rowP f X k)
  kept : Kept [] w W
theorem Listing.done {f : Nat → Option Addr} {X : Nat → Int × Int} {w W : World} {b : Nat} (h : Listing f X w b 8 W) : W.heap[b]? = some (.cells (rowP f X 8).toArray 84 (0, 0)) ∧ w.heap.size ≤ b := by
  rcases h.own.2 with ⟨h', _⟩ | ⟨g, cap, cur, e1, e2, e3, e4, e5, e6, e7⟩
  · simp at h'
  · simp only [Value.slice.injEq, Option.some.injEq, Addr.mk.injEq, and_true, true_and] at e1
    obtain ⟨rfl, rfl⟩ := e1
    refine ⟨?_, e2⟩
    rw [e3]
    have : cur.toList = rowP f X 8 := by
      rw [← e7, List.take_of_length_le]
      simp [e6]
    rw [← this]
theorem two2 (w : World) (o1 o2 : Obj) : ((w.alloc o1).alloc o2).heap[w.heap.size + 1]? = some o2 := by
  have := block_alloc_new (w.alloc o1) o2
  simpa using this
set_option maxRecDepth 100000 in
set_option maxHeartbeats 1600000 in
theorem g_list (f : Nat → Option Addr) (X : Nat → Int × Int) (w : World) (hE : ∀ k, k < 8 → ∀ a, f k = some a → ∃ g, a = ⟨g, 0, none⟩ ∧ w.heap[g]? = some (.cells #[.int .i64 (X k).1, .int .i64 (X k).2] 141 (0, 0))) :
    Calls Tryz.prog 47 #[.agg (ptrs f)] w fun e w' => ∃ b, e = .returned (.slice (some ⟨b, 0, none⟩) (cntP f 8) (cntP f 8)) ∧ w'.heap[b]? = some (.cells (rowP f X 8).toArray 84 (0, 0)) ∧ w.heap.size ≤ b ∧ Kept [] w w' := by
  have HE : Hid _ := hE
  clear hE
  obtain ⟨i0, hi0, hz0, hz1, hz2⟩ := infoE84
  have h8 := cntP_le f 8
  simp only [ptrs]
  go_enter Tryz.func47, Tryz.ntmps47
  go_wp2_with fail
  refine Calls.mono (g_count f _) ?_
  rintro e w1 ⟨rfl, k1⟩
  have b1 := k1.at (block_alloc_new _ _) (by simp)
  have hc1 := cell_of b1
  have kk1 : Hid (Kept [] w w1) := ((Kept.refl [] w).alloc _).trans k1
  have hsz := kk1.out.size
  obtain ⟨w2, hmk, hown, hgr⟩ := run_make_own (P := Tryz.prog) w1 w.heap.size 25 84 i0 _ 3 Tryz.underlying25 hi0 hz0 hz1 .i64 .i64 (cntP f 8) (by rw [hz2]; omega) (by unfold maxLen; omega) hsz
  have b2 : w2.heap[w.heap.size]? = _ := (hgr.block _ (lt_of_block b1) (by simp)).trans b1
  have hc2 := cell_of b2
  go_wp2
  have hL0 : Listing f X w w1.heap.size 0 w2 := ⟨hown, kk1.out.trans (Kept.ofGrown hgr)⟩
  clear hc1 hc2 b1 b2 hown hgr hmk k1
  go_loopw [3, 11] (fun x i W => ∃ k : Nat, k ≤ 8 ∧ i = .int .i64 k ∧ x = .slice (some ⟨w1.heap.size, 0, none⟩) (cntP f k) (cntP f 8) ∧ Listing f X w w1.heap.size k W) (fun _ i _ => 8 - (intOf i).toNat)
  case atStart => exact ⟨0, by omega, rfl, rfl, hL0⟩
  case round =>
    obtain ⟨k, hk, rfl, rfl, hL⟩ := hrel
    clear hL0
    by_cases hlt : k < 8
    · have hn := idx_p f k hlt
      have hm := cntP_mono f (show k + 1 ≤ 8 by omega)
      cases hfk : f k with
      | none =>
        simp only [hfk] at hn
        have hq : cntP f (k + 1) = cntP f k := by simp [cntP, hfk]
        have HL : Hid (Listing f X w w1.heap.size (k + 1) wr) := ⟨by have := hL.own; simpa [cntP, rowP, hfk] using this, hL.kept⟩
        clear hfk hL
        go_wp2
        go_roundw
        case rel => exact ⟨k + 1, by omega, by go_num, by rw [hq], HL.out⟩
        case measure => simp [intOf]; omega
      | some a =>
        simp only [hfk] at hn
        obtain ⟨g, rfl, hg⟩ := HE.out k hlt a hfk
        have hq : cntP f (k + 1) = cntP f k + 1 := by simp [cntP, hfk]
        have hrow : rowP f X (k + 1) = rowP f X k ++ [.int .i64 k, .int .i64 (X k).1, .int .i64 (X k).2] := by simp [rowP, hfk]
        have hgW := hL.kept.at hg (by simp)
        have hL' : Hid _ := hL
        have HQ : Hid _ := hq
        have HROW : Hid _ := hrow
        have hroom : cntP f k + 1 ≤ cntP f 8 := by omega
        generalize (X k).1 = x at *
        generalize (X k).2 = y at *
        clear hfk hL hq hrow hg
        go_wp2_with fail
        refine Calls.mono (g_lookCk g x y _ hgW) ?_
        rintro e w3 ⟨rfl, k3⟩
        have own3 := own_kept hL'.out.own k3
        have kk3 : Hid (Kept [] w w3) := hL'.out.kept.trans k3
        have OWN : Hid _ := own3
        clear k3 own3 hgW
        go_wp2_with (at_builtin; go_must (refine wpList_append_fits _ rfl _ _ 25 rfl w.heap.size 84 i0 3 Tryz.underlying25 hi0 hz1 w1.heap.size (cntP f k) (cntP f 8) (rowP f X k) (by rfl) (own_kept OWN.out (((Kept.refl [] w3).alloc _).alloc _)) ⟨w3.heap.size + 1, 0, none⟩ 1 1 [.int .i64 k, .int .i64 x, .int .i64 y] (by rfl) (by rfl) (World.news_of_block (cs := #[.int .i64 k, .int .i64 x, .int .i64 y]) (t := 84) (fr := (0, 0)) (two2 w3 _ _)) (by simp [Value.oneCell']) hroom ?_); intro w4 own4 gr4)
        have HL : Hid (Listing f X w w1.heap.size (k + 1) w4) := by
          refine ⟨?_, ?_⟩
          · rw [HQ.out, HROW.out]; exact own4
          · refine ⟨gr4.os.trans kk3.out.os, gr4.tape.trans kk3.out.tape, gr4.output.trans kk3.out.output, ?_, fun q hq _ => ?_⟩
            · have := gr4.size; have := kk3.out.size; simp only [World.size_alloc] at *; omega
            · rw [gr4.block q (by have := kk3.out.size; simp only [World.size_alloc]; omega) (by simp; omega)]
              exact ((kk3.out.alloc _).alloc _).block q hq (by simp)
        clear own4 gr4
        go_wp2
        go_roundw
        case rel => exact ⟨k + 1, by omega, by go_num, by rw [HQ.out], HL.out⟩
        case measure => simp [intOf]; omega
    · obtain rfl : k = 8 := by omega
      have HL : Hid _ := hL
      clear hL
      go_wp2
      go_ret
      exact ⟨_, rfl, HL.out.done.1, HL.out.done.2, HL.out.kept⟩
end Go.Proofs.YtfgfpggjcfhccaaGreat
namespace Go.Proofs.YtfgfpggjcfhccaaGreat
open Go.RowKit Go.MuLone
set_option maxHeartbeats 800000 in
theorem g_isValue_yes (n : Int) (w : World) (h0 : 1 ≤ n) (h1 : n ≤ 1000) : Calls Tryz.prog 49 #[.int .i64 n] w fun e w' => e = .returned (.bool true) ∧ w' = w := by
  go_enter Tryz.func49, Tryz.ntmps49
  go_wp2
  go_ret
  exact ⟨rfl, rfl⟩
set_option maxHeartbeats 800000 in
theorem g_isValue_no (n : Int) (w : World) (h : ¬ (1 ≤ n ∧ n ≤ 1000)) : Calls Tryz.prog 49 #[.int .i64 n] w fun e w' => e = .returned (.bool false) ∧ w' = w := by
  by_cases h1 : 1 ≤ n
  · have h2 : ¬ n ≤ 1000 := fun hh => h ⟨h1, hh⟩
    clear h
    go_enter Tryz.func49, Tryz.ntmps49
    go_wp2
    go_ret
    exact ⟨rfl, rfl⟩
  · clear h
    go_enter Tryz.func49, Tryz.ntmps49
    go_wp2
    go_ret
    exact ⟨rfl, rfl⟩
def MayBe (kind key val old : Int) (b : Bool) (w : World) : Prop := Calls Tryz.prog 31 #[.agg #[.int .i64 kind, .int .i64 key, .int .i64 val, .int .i64 old]] w fun e w' => e = .returned (.bool b) ∧ Kept [] w w'
set_option maxRecDepth 100000 in
set_option maxHeartbeats 800000 in
theorem g_mayBe_key (kind key val old : Int) (w : World) (h : key < 0 ∨ 8 ≤ key) : MayBe kind key val old false w := by
  unfold MayBe
  by_cases h0 : key < 0
  · clear h
    go_enter Tryz.func31, Tryz.ntmps31
    go_wp2
    go_ret
    exact ⟨rfl, (Kept.refl [] w).alloc _⟩
  · have h8 : 8 ≤ key := by omega
    clear h
    go_enter Tryz.func31, Tryz.ntmps31
    go_wp2
    go_ret
    exact ⟨rfl, (Kept.refl [] w).alloc _⟩
set_option maxRecDepth 100000 in
set_option maxHeartbeats 800000 in
theorem g_mayBe_kind (kind key val old : Int) (w : World) (h : kind < 0 ∨ 3 < kind) (h0 : ¬ key < 0) (h8 : ¬ 8 ≤ key) : MayBe kind key val old false w := by
  unfold MayBe
  have e0 : (kind == 0) = false := beq_eq_false_iff_ne.2 (by omega)
  have e1 : (kind == 1) = false := beq_eq_false_iff_ne.2 (by omega)
  have e2 : (kind == 2) = false := beq_eq_false_iff_ne.2 (by omega)
  have e3 : (kind == 3) = false := beq_eq_false_iff_ne.2 (by omega)
  clear h
  go_enter Tryz.func31, Tryz.ntmps31
  go_wp2
  go_ret
  exact ⟨rfl, (Kept.refl [] w).alloc _⟩
set_option maxRecDepth 100000 in
set_option maxHeartbeats 800000 in
theorem g_mayBe_0 (key val old : Int) (w : World) (h0 : ¬ key < 0) (h8 : ¬ 8 ≤ key) : MayBe 0 key val old true w := by
  unfold MayBe
  go_enter Tryz.func31, Tryz.ntmps31
  go_wp2
  go_ret
  exact ⟨rfl, (Kept.refl [] w).alloc _⟩
set_option maxRecDepth 100000 in
set_option maxHeartbeats 800000 in
theorem g_mayBe_2 (key val old : Int) (w : World) (h0 : ¬ key < 0) (h8 : ¬ 8 ≤ key) : MayBe 2 key val old true w := by
  unfold MayBe
  go_enter Tryz.func31, Tryz.ntmps31
  go_wp2
  go_ret
  exact ⟨rfl, (Kept.refl [] w).alloc _⟩
set_option maxRecDepth 100000 in
set_option maxHeartbeats 800000 in
theorem g_mayBe_1y (key val old : Int) (w : World) (h0 : ¬ key < 0) (h8 : ¬ 8 ≤ key) (hv : 1 ≤ val ∧ val ≤ 1000) : MayBe 1 key val old true w := by
  unfold MayBe
  go_enter Tryz.func31, Tryz.ntmps31
  go_wp2_with fail
  refine Calls.mono (g_isValue_yes val _ hv.1 hv.2) ?_
  rintro e w' ⟨rfl, rfl⟩
  go_wp2
  go_ret
  exact ⟨rfl, (Kept.refl [] w).alloc _⟩
set_option maxRecDepth 100000 in
set_option maxHeartbeats 800000 in
theorem g_mayBe_1n (key val old : Int) (w : World) (h0 : ¬ key < 0) (h8 : ¬ 8 ≤ key) (hv : ¬ (1 ≤ val ∧ val ≤ 1000)) : MayBe 1 key val old false w := by
  unfold MayBe
  go_enter Tryz.func31, Tryz.ntmps31
  go_wp2_with fail
  refine Calls.mono (g_isValue_no val _ hv) ?_
  rintro e w' ⟨rfl, rfl⟩
  go_wp2
  go_ret
  exact ⟨rfl, (Kept.refl [] w).alloc _⟩
set_option maxRecDepth 100000 in
set_option maxHeartbeats 800000 in
theorem g_mayBe_3y (key val old : Int) (w : World) (h0 : ¬ key < 0) (h8 : ¬ 8 ≤ key) (hv : 1 ≤ val ∧ val ≤ 1000) (hw : 1 ≤ old ∧ old ≤ 1000) : MayBe 3 key val old true w := by
  unfold MayBe
  go_enter Tryz.func31, Tryz.ntmps31
  go_wp2_with fail
  refine Calls.mono (g_isValue_yes val _ hv.1 hv.2) ?_
  rintro e w1 ⟨rfl, rfl⟩
  go_wp2_with fail
  refine Calls.mono (g_isValue_yes old _ hw.1 hw.2) ?_
  rintro e w2 ⟨rfl, rfl⟩
  go_wp2
  go_ret
  exact ⟨rfl, (Kept.refl [] w).alloc _⟩
set_option maxRecDepth 100000 in
set_option maxHeartbeats 800000 in
theorem g_mayBe_3n (key val old : Int) (w : World) (h0 : ¬ key < 0) (h8 : ¬ 8 ≤ key) (hv : ¬ (1 ≤ val ∧ val ≤ 1000)) : MayBe 3 key val old false w := by
  unfold MayBe
  go_enter Tryz.func31, Tryz.ntmps31
  go_wp2_with fail
  refine Calls.mono (g_isValue_no val _ hv) ?_
  rintro e w1 ⟨rfl, rfl⟩
  go_wp2
  go_ret
  exact ⟨rfl, (Kept.refl [] w).alloc _⟩
set_option maxRecDepth 100000 in
set_option maxHeartbeats 800000 in
theorem g_mayBe_3o (key val old : Int) (w : World) (h0 : ¬ key < 0) (h8 : ¬ 8 ≤ key) (hv : 1 ≤ val ∧ val ≤ 1000) (hw : ¬ (1 ≤ old ∧ old ≤ 1000)) : MayBe 3 key val old false w := by
  unfold MayBe
  go_enter Tryz.func31, Tryz.ntmps31
  go_wp2_with fail
  refine Calls.mono (g_isValue_yes val _ hv.1 hv.2) ?_
  rintro e w1 ⟨rfl, rfl⟩
  go_wp2_with fail
  refine Calls.mono (g_isValue_no old _ hw) ?_
  rintro e w2 ⟨rfl, rfl⟩
  go_wp2
  go_ret
  exact ⟨rfl, (Kept.refl [] w).alloc _⟩
theorem g_mayBe (kind key val old : Int) (w : World) : MayBe kind key val old (decide (OpOk kind key val old)) w := by
  by_cases hk : key < 0 ∨ 8 ≤ key
  · rw [decide_eq_false (by unfold OpOk; omega)]; exact g_mayBe_key kind key val old w hk
  have h0 : ¬ key < 0 := by omega
  have h8 : ¬ 8 ≤ key := by omega
  by_cases hd : kind < 0 ∨ 3 < kind
  · rw [decide_eq_false (by unfold OpOk; omega)]; exact g_mayBe_kind kind key val old w hd h0 h8
  have hkd : kind = 0 ∨ kind = 1 ∨ kind = 2 ∨ kind = 3 := by omega
  rcases hkd with rfl | rfl | rfl | rfl
  · rw [decide_eq_true (by unfold OpOk; omega)]; exact g_mayBe_0 key val old w h0 h8
  · by_cases hv : 1 ≤ val ∧ val ≤ 1000
    · rw [decide_eq_true (by unfold OpOk; omega)]; exact g_mayBe_1y key val old w h0 h8 hv
    · rw [decide_eq_false (by unfold OpOk; omega)]; exact g_mayBe_1n key val old w h0 h8 hv
  · rw [decide_eq_true (by unfold OpOk; omega)]; exact g_mayBe_2 key val old w h0 h8
  · by_cases hv : 1 ≤ val ∧ val ≤ 1000
    · by_cases hw : 1 ≤ old ∧ old ≤ 1000
      · rw [decide_eq_true (by unfold OpOk; omega)]; exact g_mayBe_3y key val old w h0 h8 hv hw
      · rw [decide_eq_false (by unfold OpOk; omega)]; exact g_mayBe_3o key val old w h0 h8 hv hw
    · rw [decide_eq_false (by unfold OpOk; omega)]; exact g_mayBe_3n key val old w h0 h8 hv
set_option maxRecDepth 100000 in
set_option maxHeartbeats 800000 in
theorem g_tbegin_0 (tc : Tc) (t : Nat) (key val old : Int) (w : World) (h : w.heap[t]? = some (.cells tc.cells 116 (0, 0))) :
    Calls Tryz.prog 33 #[.pointer (some ⟨t, 0, none⟩), .agg #[.int .i64 0, .int .i64 key, .int .i64 val, .int .i64 old]] w fun e w' => e = .returned (.tuple #[]) ∧ w'.heap[t]? = some (.cells { tc with kind := 0, key := key, val := val, old := old, nx := .func (.func 68) #[.pointer (some ⟨t, 0, none⟩)] #[] }.cells 116 (0, 0)) ∧ Kept [t] w w' := by
  have hs := lt_of_block h
  have hc : ∀ o', w.cell? ⟨t, o', none⟩ = tc.cells[o']? := cell_of h
  have hf : ∀ o, w.frozen? ⟨t, o, none⟩ = false := frozen_of h
  have hmf : ∀ (fn : Fn) (first cap : Array Value) (w : World), (Instr.makeFunc fn first cap).run Tryz.prog w = .ok (.func fn first cap) w := fun _ _ _ _ => rfl
  simp only [Tc.cells] at hc
  go_enter Tryz.func33, Tryz.ntmps33
  go_wp2
  go_end0
  refine ⟨rfl, ?_, ?_⟩
  · refine block_alloc_lt ((block_set_same (block_set_same (block_set_same (block_set_same (block_set_same h _ _) _ _) _ _) _ _) _ _).trans ?_) _
    simp [Tc.cells]
  · exact ((((((Kept.refl _ w).setCell (.inl (by simp)) _).setCell (.inl (by simp)) _).setCell (.inl (by simp)) _).setCell (.inl (by simp)) _).setCell (.inl (by simp)) _).alloc _
set_option maxRecDepth 100000 in
set_option maxHeartbeats 800000 in
theorem g_tbegin_1 (tc : Tc) (t : Nat) (key val old : Int) (w : World) (h : w.heap[t]? = some (.cells tc.cells 116 (0, 0))) :
    Calls Tryz.prog 33 #[.pointer (some ⟨t, 0, none⟩), .agg #[.int .i64 1, .int .i64 key, .int .i64 val, .int .i64 old]] w fun e w' => e = .returned (.tuple #[]) ∧ w'.heap[t]? = some (.cells { tc with kind := 1, key := key, val := val, old := old, nx := .func (.func 69) #[.pointer (some ⟨t, 0, none⟩)] #[] }.cells 116 (0, 0)) ∧ Kept [t] w w' := by
  have hs := lt_of_block h
  have hc : ∀ o', w.cell? ⟨t, o', none⟩ = tc.cells[o']? := cell_of h
  have hf : ∀ o, w.frozen? ⟨t, o, none⟩ = false := frozen_of h
  have hmf : ∀ (fn : Fn) (first cap : Array Value) (w : World), (Instr.makeFunc fn first cap).run Tryz.prog w = .ok (.func fn first cap) w := fun _ _ _ _ => rfl
  simp only [Tc.cells] at hc
  go_enter Tryz.func33, Tryz.ntmps33
  go_wp2
  go_end0
  refine ⟨rfl, ?_, ?_⟩
  · refine block_alloc_lt ((block_set_same (block_set_same (block_set_same (block_set_same (block_set_same h _ _) _ _) _ _) _ _) _ _).trans ?_) _
    simp [Tc.cells]
  · exact ((((((Kept.refl _ w).setCell (.inl (by simp)) _).setCell (.inl (by simp)) _).setCell (.inl (by simp)) _).setCell (.inl (by simp)) _).setCell (.inl (by simp)) _).alloc _
set_option maxRecDepth 100000 in
set_option maxHeartbeats 800000 in
theorem g_tbegin_2 (tc : Tc) (t : Nat) (kind key val old : Int) (w : World) (e0 : ¬ kind = 0) (e1 : ¬ kind = 1) (h : w.heap[t]? = some (.cells tc.cells 116 (0, 0))) :
    Calls Tryz.prog 33 #[.pointer (some ⟨t, 0, none⟩), .agg #[.int .i64 kind, .int .i64 key, .int .i64 val, .int .i64 old]] w fun e w' => e = .returned (.tuple #[]) ∧ w'.heap[t]? = some (.cells { tc with kind := kind, key := key, val := val, old := old, nx := .func (.func 70) #[.pointer (some ⟨t, 0, none⟩)] #[] }.cells 116 (0, 0)) ∧ Kept [t] w w' := by
  have hs := lt_of_block h
  have hc : ∀ o', w.cell? ⟨t, o', none⟩ = tc.cells[o']? := cell_of h
  have hf : ∀ o, w.frozen? ⟨t, o, none⟩ = false := frozen_of h
  have hmf : ∀ (fn : Fn) (first cap : Array Value) (w : World), (Instr.makeFunc fn first cap).run Tryz.prog w = .ok (.func fn first cap) w := fun _ _ _ _ => rfl
  simp only [Tc.cells] at hc
  go_enter Tryz.func33, Tryz.ntmps33
  go_wp2
  go_end0
  refine ⟨rfl, ?_, ?_⟩
  · refine block_alloc_lt ((block_set_same (block_set_same (block_set_same (block_set_same (block_set_same h _ _) _ _) _ _) _ _) _ _).trans ?_) _
    simp [Tc.cells]
  · exact ((((((Kept.refl _ w).setCell (.inl (by simp)) _).setCell (.inl (by simp)) _).setCell (.inl (by simp)) _).setCell (.inl (by simp)) _).setCell (.inl (by simp)) _).alloc _
end Go.Proofs.YtfgfpggjcfhccaaGreat
namespace Go.Proofs.YtfgfpggjcfhccaaGreat
open Go.RowKit
/-- What a table's entries hold. -/
def Ents (f : Nat → Option Addr) (X : Nat → Int × Int) (w : World) : Prop := ∀ k, k < 8 → ∀ a, f k = some a → ∃ g, a = ⟨g, 0, none⟩ ∧ w.heap[g]? = some (.cells #[.int .i64 (X k).1, .int .i64 (X k).2] 141 (0, 0))
theorem Ents.kept {f : Nat → Option Addr} {X : Nat → Int × Int} {w w' : World} (h : Ents f X w) (k : Kept [] w w') : Ents f X w' := fun i hi a ha => by
  obtain ⟨g, e1, e2⟩ := h i hi a ha
  exact ⟨g, e1, k.at e2 (by simp)⟩
/-- A list that has come out. -/
def ListOut (f : Nat → Option Addr) (X : Nat → Int × Int) (b : Nat) (w : World) : Prop := w.heap[b]? = some (.cells (rowP f X 8).toArray 84 (0, 0))
def lst (f : Nat → Option Addr) (b : Nat) : Value := .slice (some ⟨b, 0, none⟩) (cntP f 8) (cntP f 8)
set_option maxRecDepth 100000 in
set_option maxHeartbeats 1000000 in
theorem g_view (sh : Sh) (X Y : Nat → Int × Int) (s : Nat) (w : World) (h : w.heap[s]? = some (.cells sh.cells 111 (0, 0))) (hX : Ents sh.R X w) (hY : Ents sh.D Y w) :
    Calls Tryz.prog 27 #[.pointer (some ⟨s, 0, none⟩)] w fun e w' => ∃ b1 b2, e = .returned (.agg #[lst sh.R b1, .bool sh.am, .bool sh.hd, lst sh.D b2, .int .i64 sh.mis, .int .i64 sh.hol]) ∧
      ListOut sh.R X b1 w' ∧ ListOut sh.D Y b2 w' ∧ w.heap.size ≤ b1 ∧ w.heap.size ≤ b2 ∧ b1 ≠ b2 ∧ Kept [] w w' := by
  have hs := lt_of_block h
  have hc : ∀ o, w.cell? ⟨s, o, none⟩ = sh.cells[o]? := cell_of h
  have hs1 : s < w.heap.size + 1 := by omega
  have hs2 : s < w.heap.size + 2 := by omega
  have hs3 : s < w.heap.size + 3 := by omega
  have hs4 : s < w.heap.size + 4 := by omega
  have HS : Hid _ := h
  go_enter Tryz.func27, Tryz.ntmps27
  go_wp2_with fail
  go_cut [3, 4] (fun x y w' => ∃ b3 b4 : Nat, x = .pointer (some ⟨b3, 0, none⟩) ∧ y = .pointer (some ⟨b4, 0, none⟩) ∧ w'.heap[b3]? = some (.cells #[Value.pointer (sh.R 0), .pointer (sh.R 1), .pointer (sh.R 2), .pointer (sh.R 3), .pointer (sh.R 4), .pointer (sh.R 5), .pointer (sh.R 6), .pointer (sh.R 7), .bool sh.am] 101 (0, 0)) ∧ w'.heap[b4]? = some (.cells #[Value.pointer (sh.D 0), .pointer (sh.D 1), .pointer (sh.D 2), .pointer (sh.D 3), .pointer (sh.D 4), .pointer (sh.D 5), .pointer (sh.D 6), .pointer (sh.D 7), .bool sh.hd] 105 (0, 0)) ∧
    w'.heap[w.heap.size]? = some (.cells #[Value.slice none 0 0, .bool false, .bool false, .slice none 0 0, .int .i64 0, .int .i64 0] 27 (0, 0)) ∧ Kept [] w w')
  case first =>
    go_region_held3 (fun w' => ∀ o, w'.cell? ⟨s, o, none⟩ = sh.cells[o]?) ((intro o; go_simp))
      (first | (go_at_call 45; refine (g_lookRead sh s _ (by repeat (first | with_reducible exact HS.out | with_reducible refine blk_drew ?_ | with_reducible refine block_alloc_lt ?_ _))).mono ?_; rintro e w' ⟨rfl, rfl⟩; simp only [tabCells]) | (go_at_call 46; refine (g_lookDirty sh s _ (by repeat (first | with_reducible exact HS.out | with_reducible refine blk_drew ?_ | with_reducible refine block_alloc_lt ?_ _))).mono ?_; rintro e w' ⟨rfl, rfl⟩; simp only [tabCells]))
    all_goals go_wp2_with fail
    all_goals go_meet
    all_goals refine ⟨_, _, rfl, rfl, ?_, ?_, (five w _ _ _ _ _).1, (((((Kept.refl [] w).alloc _).alloc _).alloc _).alloc _).alloc _ |>.drew⟩
    all_goals first | exact (five w _ _ _ _ _).2.1 | exact (five w _ _ _ _ _).2.2.1 | exact (five w _ _ _ _ _).2.2.2.1 | exact (five w _ _ _ _ _).2.2.2.2
  case rest =>
    obtain ⟨b3, b4, rfl, rfl, h3, h4, hr, hK⟩ := hcut
    have hS := hK.at h (by simp)
    have hX1 := hX.kept hK
    have hY1 := hY.kept hK
    clear hc hs hs1 hs2 hs3 hs4 h hX hY HS
    have hs := lt_of_block hS
    have z3 := lt_of_block h3
    have z4 := lt_of_block h4
    have zr := lt_of_block hr
    have c3 : ∀ o, wc.cell? ⟨b3, o, none⟩ = #[Value.pointer (sh.R 0), .pointer (sh.R 1), .pointer (sh.R 2), .pointer (sh.R 3), .pointer (sh.R 4), .pointer (sh.R 5), .pointer (sh.R 6), .pointer (sh.R 7), .bool sh.am][o]? := cell_of h3
    have c4 : ∀ o, wc.cell? ⟨b4, o, none⟩ = #[Value.pointer (sh.D 0), .pointer (sh.D 1), .pointer (sh.D 2), .pointer (sh.D 3), .pointer (sh.D 4), .pointer (sh.D 5), .pointer (sh.D 6), .pointer (sh.D 7), .bool sh.hd][o]? := cell_of h4
    have c5 : ∀ o, wc.cell? ⟨w.heap.size, o, none⟩ = #[Value.slice none 0 0, .bool false, .bool false, .slice none 0 0, .int .i64 0, .int .i64 0][o]? := cell_of hr
    have f5 : ∀ o, wc.frozen? ⟨w.heap.size, o, none⟩ = false := frozen_of hr
    have n3 : b3 ≠ w.heap.size := ne_of_blocks h3 hr (by simp)
    have n4 : b4 ≠ w.heap.size := ne_of_blocks h4 hr (by simp)
    have n3' : w.heap.size ≠ b3 := Ne.symm n3
    have n4' : w.heap.size ≠ b4 := Ne.symm n4
    have L : ∀ (f : Nat → Option Addr) (Z : Nat → Int × Int) (W : World), Ents f Z wc → Kept [] wc W → Calls Tryz.prog 47 #[.agg (ptrs f)] W fun e w' => ∃ b, e = .returned (.slice (some ⟨b, 0, none⟩) (cntP f 8) (cntP f 8)) ∧ (ListOut f Z b w' ∧ W.heap.size ≤ b) ∧ Kept [] wc w' ∧
        (∀ o, w'.cell? ⟨b3, o, none⟩ = #[Value.pointer (sh.R 0), .pointer (sh.R 1), .pointer (sh.R 2), .pointer (sh.R 3), .pointer (sh.R 4), .pointer (sh.R 5), .pointer (sh.R 6), .pointer (sh.R 7), .bool sh.am][o]?) ∧ (∀ o, w'.cell? ⟨b4, o, none⟩ = #[Value.pointer (sh.D 0), .pointer (sh.D 1), .pointer (sh.D 2), .pointer (sh.D 3), .pointer (sh.D 4), .pointer (sh.D 5), .pointer (sh.D 6), .pointer (sh.D 7), .bool sh.hd][o]?) ∧ (∀ o, w'.cell? ⟨w.heap.size, o, none⟩ = #[Value.slice none 0 0, .bool false, .bool false, .slice none 0 0, .int .i64 0, .int .i64 0][o]?) ∧ (∀ o, w'.frozen? ⟨w.heap.size, o, none⟩ = false) ∧ Kept [] W w' := by
      intro f Z W hZ hW
      refine (g_list f Z W (hZ.kept hW)).mono ?_
      rintro e w' ⟨b, rfl, hb, hbz, hk⟩
      have hk' := hW.trans hk
      exact ⟨b, rfl, ⟨hb, hbz⟩, hk', cell_of (hk'.at h3 (by simp)), cell_of (hk'.at h4 (by simp)), cell_of (hk'.at hr (by simp)), frozen_of (hk'.at hr (by simp)), hk⟩
    have HL1 : Hid _ := fun W hW => L sh.R X W hX1 hW
    have HL2 : Hid _ := fun W hW => L sh.D Y W hY1 hW
    clear L c5 f5 hX1 hY1
    go_wp2_with fail
    go_region_held3 (fun w' => (∀ o, w'.cell? ⟨b3, o, none⟩ = #[Value.pointer (sh.R 0), .pointer (sh.R 1), .pointer (sh.R 2), .pointer (sh.R 3), .pointer (sh.R 4), .pointer (sh.R 5), .pointer (sh.R 6), .pointer (sh.R 7), .bool sh.am][o]?) ∧ (∀ o, w'.cell? ⟨b4, o, none⟩ = #[Value.pointer (sh.D 0), .pointer (sh.D 1), .pointer (sh.D 2), .pointer (sh.D 3), .pointer (sh.D 4), .pointer (sh.D 5), .pointer (sh.D 6), .pointer (sh.D 7), .bool sh.hd][o]?))
      (first | (refine ⟨?_, ?_⟩ <;> intro o <;> first | (rw [cell_set6 n3']; exact g3 o) | (rw [cell_set6 n4']; exact g4 o)) | exact ⟨g3, g4⟩ | exact ⟨c3, c4⟩)
      (first | (go_at_call_of 47 (Value.agg #[Value.pointer (sh.R 0), .pointer (sh.R 1), .pointer (sh.R 2), .pointer (sh.R 3), .pointer (sh.R 4), .pointer (sh.R 5), .pointer (sh.R 6), .pointer (sh.R 7)]); refine (HL1.out _ (by first | exact (Kept.refl _ _).drew | exact kk)).mono ?_; rintro e w' ⟨l, rfl, hl, kk, g3, g4, g5, g6, hk⟩) | (go_at_call_of 47 (Value.agg #[Value.pointer (sh.D 0), .pointer (sh.D 1), .pointer (sh.D 2), .pointer (sh.D 3), .pointer (sh.D 4), .pointer (sh.D 5), .pointer (sh.D 6), .pointer (sh.D 7)]); refine (HL2.out _ (by first | exact (Kept.refl _ _).drew | exact kk)).mono ?_; rintro e w' ⟨l2, rfl, hl2, kk, g3, g4, g5, g6, hk2⟩) | (go_at_call_of 48 (Value.pointer (some (Addr.mk s 18 none))); refine (lookInt s 18 sh.mis _ (cell_of (kk.at hS (by simp)) 18)).mono ?_; rintro e w' ⟨rfl, rfl⟩) | (go_at_call_of 48 (Value.pointer (some (Addr.mk s 19 none))); refine (lookInt s 19 sh.hol _ (cell_of (kk.at hS (by simp)) 19)).mono ?_; rintro e w' ⟨rfl, rfl⟩))
    have q1 : wc.heap.size ≤ l := hl.2
    have q2 := hl2.2
    have q3 := lt_of_block hl.1
    have q4 := hK.size
    have q5 := hk.size
    have o1 := hk2.at hl.1 (by simp)
    have o2 := hl2.1
    have q6 : l ≠ l2 := by omega
    have q7 : wc.heap.size ≤ l2 := by have : wc.heap.size ≤ _ := hk.size; omega
    clear hl hl2 hk hk2 g3 g4 c3 c4
    go_wp2
    refine bodyPost_ret (v := .agg #[lst sh.R l, .bool sh.am, .bool sh.hd, lst sh.D l2, .int .i64 sh.mis, .int .i64 sh.hol]) (res26 w.heap.size _ _ _ _ _ _ rfl g5) rfl ⟨l, l2, rfl, block_set6 o1 (by omega) _ _ _ _ _ _, block_set6 o2 (by omega) _ _ _ _ _ _, by omega, by omega, q6, ?_⟩
    exact (((((((hK.trans kk).setCell (.inr (Nat.le_refl _)) _).setCell (.inr (Nat.le_refl _)) _).setCell (.inr (Nat.le_refl _)) _).setCell (.inr (Nat.le_refl _)) _).setCell (.inr (Nat.le_refl _)) _).setCell (.inr (Nat.le_refl _)) _)
end Go.Proofs.YtfgfpggjcfhccaaGreat
namespace Go.Proofs.YtfgfpggjcfhccaaGreat
open Go.RowKit
/-- A table's rows, as they come out. -/
def rowI (f : Nat → Int) (X : Nat → Int × Int) : Nat → List Value
  | 0 => []
  | k + 1 => rowI f X k ++ (if 0 ≤ f k then [.int .i64 k, .int .i64 (X k).1, .int .i64 (X k).2] else [])
structure Entering (f : Nat → Int) (X : Nat → Int × Int) (w : World) (v : Value) (k : Nat) (W : World) : Prop where
  own : W.ownsRow w.heap.size 84 3 v (cnt f k) (rowI f X k)
  kept : Kept [] w W
  box : W.heap[w.heap.size]? = some (.cells #[.int .i64 (f 0), .int .i64 (f 1), .int .i64 (f 2), .int .i64 (f 3), .int .i64 (f 4), .int .i64 (f 5), .int .i64 (f 6), .int .i64 (f 7)] 56 (0, 0))
theorem Entering.grow {f : Nat → Int} {X : Nat → Int × Int} {w : World} {v v' : Value} {k : Nat} {W W1 : World} (h : Entering f X w v k W) (o : Obj) (hf : 0 ≤ f k)
    (hg : ((W.alloc o).drew).grownBy W1 v.ownBlock) (ho : W1.ownsRow w.heap.size 84 3 v' (cnt f k + 1) (rowI f X k ++ [.int .i64 k, .int .i64 (X k).1, .int .i64 (X k).2])) : Entering f X w v' (k + 1) W1 := by
  have hown : ∀ b, v.ownBlock = some b → w.heap.size ≤ b ∧ (∃ cs, W.heap[b]? = some (.cells cs 84 (0, 0))) := by
    intro b hb
    rcases h.own.2 with ⟨rfl, _⟩ | ⟨g, cap, cur, rfl, e2, e3, _⟩
    · simp [Value.ownBlock] at hb
    · simp only [Value.ownBlock, Option.some.injEq] at hb
      subst hb
      exact ⟨e2, cur, e3⟩
  refine ⟨?_, ?_, ?_⟩
  · have e1 : cnt f (k + 1) = cnt f k + 1 := by simp only [cnt, if_pos hf]
    have e2 : rowI f X (k + 1) = rowI f X k ++ [.int .i64 k, .int .i64 (X k).1, .int .i64 (X k).2] := by simp only [rowI, if_pos hf]
    rw [e1, e2]; exact ho
  · have k1 := ((h.kept.alloc o).drew)
    refine ⟨hg.os.trans k1.os, hg.tape.trans k1.tape, hg.output.trans k1.output, Nat.le_trans k1.size hg.size, fun q hq _ => ?_⟩
    rw [hg.block q (Nat.lt_of_lt_of_le hq k1.size) (fun e => by have := (hown q e.symm).1; omega)]
    exact k1.block q hq (by simp)
  · rw [hg.block w.heap.size (by have := lt_of_block h.box; simp; omega) (fun e => by
      obtain ⟨_, cs, hcs⟩ := hown _ e.symm
      exact absurd (hcs.symm.trans h.box) (by simp))]
    exact block_alloc_lt h.box o
set_option maxRecDepth 100000 in
set_option maxHeartbeats 700000 in
theorem r_entries {r tb : Nat} {sl : Value} {B : Nat} {m : M} {w : World} (h : RefAt r tb sl B m w) (f : Nat → Int) (X : Nat → Int × Int) (hf : ∀ k, k < 8 → f k < m.nc) (hX : ∀ k, X k = ((m.cells (f k).toNat).st, (m.cells (f k).toNat).v)) :
    Calls Tryz.prog 28 #[.pointer (some ⟨r, 0, none⟩), .agg #[.int .i64 (f 0), .int .i64 (f 1), .int .i64 (f 2), .int .i64 (f 3), .int .i64 (f 4), .int .i64 (f 5), .int .i64 (f 6), .int .i64 (f 7)]] w
      fun e w' => ∃ v, e = .returned v ∧ w'.ownsRow w.heap.size 84 3 v (cnt f 8) (rowI f X 8) ∧ Kept [] w w' := by
  obtain ⟨i0, hi0, hz0, hz1, hz2⟩ := infoE84
  have H : Hid _ := h
  have HF : Hid _ := hf
  have HX : Hid _ := hX
  have hsr := h.mapCell.1
  have hE0 : Entering f X w (.slice none 0 0) 0 (w.alloc (.cells #[.int .i64 (f 0), .int .i64 (f 1), .int .i64 (f 2), .int .i64 (f 3), .int .i64 (f 4), .int .i64 (f 5), .int .i64 (f 6), .int .i64 (f 7)] 56)) :=
    ⟨⟨rfl, .inl ⟨rfl, rfl⟩⟩, (Kept.refl [] w).alloc _, block_alloc_new _ _⟩
  clear h hf hX
  go_enter Tryz.func28, Tryz.ntmps28
  go_wp2
  go_loopw [5, 6] (fun x i W => ∃ k : Nat, k ≤ 8 ∧ i = .int .i64 k ∧ Entering f X w x k W) (fun _ i _ => 8 - (intOf i).toNat)
  case atStart => exact ⟨0, by omega, rfl, hE0⟩
  case round =>
    obtain ⟨k, hk, rfl, hR⟩ := hrel
    clear hE0
    by_cases hlt : k < 8
    · have hck : wr.cell? ⟨w.heap.size, k, none⟩ = some (.int .i64 (f k)) := by rw [cell_of hR.box]; exact row8_at f hlt
      have hkt : ((k : Int)).toNat = k := by simp
      have hle := cnt_le f k
      by_cases hfk : 0 ≤ f k
      · have hr1 := H.out.keptNil hR.kept
        obtain ⟨-, -, c0, -⟩ := hr1.mapCell
        have hel : (f k).toNat < m.nc := by have := HF.out k hlt; omega
        obtain ⟨g, cap, hsl, hg, -, -, -, q0, q1⟩ := hr1.entry hel
        rw [hsl] at c0
        have hin : f k < (m.nc : Int) := HF.out k hlt
        have hx1 : (m.cells (f k).toNat).st = (X k).1 := by rw [HX.out k]
        have hx2 : (m.cells (f k).toNat).v = (X k).2 := by rw [HX.out k]
        rw [hx1] at q0
        rw [hx2] at q1
        have hbs := hR.kept.size
        have ROW : Hid ((wr.alloc (.cells #[.int .i64 k, .int .i64 (X k).1, .int .i64 (X k).2] 84)).drew.ownsRow w.heap.size 84 3 u5 (cnt f k) (rowI f X k)) := own_kept hR.own ((Kept.refl [] wr).alloc _).drew
        have NB : Hid ((wr.alloc (.cells #[.int .i64 k, .int .i64 (X k).1, .int .i64 (X k).2] 84)).drew.heap[wr.heap.size]? = some (.cells #[.int .i64 k, .int .i64 (X k).1, .int .i64 (X k).2] 84 (0, 0))) := block_alloc_new wr _
        have HR : Hid _ := hR
        have HFK : Hid _ := hfk
        have hbx := lt_of_block hR.box
        have hrr : r < wr.heap.size := by omega
        have FAR : Hid (∀ w1, ((wr.alloc (.cells #[.int .i64 k, .int .i64 (X k).1, .int .i64 (X k).2] 84)).drew).grownBy w1 u5.ownBlock → (w1.cell? ⟨r, 0, none⟩ = some (.slice (some ⟨g, 0, none⟩) m.nc cap) ∧ w1.cell? ⟨w.heap.size, k, none⟩ = some (.int .i64 (f k)) ∧ w1.cell? ⟨g, (f k).toNat * 2, none⟩ = some (.int .i64 (X k).1) ∧ w1.cell? ⟨g, (f k).toNat * 2 + 1, none⟩ = some (.int .i64 (X k).2))) := by
          intro w1 hgrow
          obtain ⟨rcs, hrb, _⟩ := hr1.own
          have far : ∀ (b o : Nat) (cs : Array Value) (T : TypeId) (v : Value), wr.heap[b]? = some (.cells cs T (0, 0)) → T ≠ 84 → wr.cell? ⟨b, o, none⟩ = some v → w1.cell? ⟨b, o, none⟩ = some v := by
            intro b o cs T v hb hT hv
            have hne : some b ≠ u5.ownBlock := by
              intro e
              rcases hR.own.2 with ⟨e1, _⟩ | ⟨g', cap', cur, e1, _, e3, _⟩
              · rw [e1] at e; simp [Value.ownBlock] at e
              · rw [e1] at e
                simp only [Value.ownBlock, Option.some.injEq] at e
                subst e
                rw [hb] at e3
                simp only [Option.some.injEq, Obj.cells.injEq] at e3
                exact hT e3.2.1
            have hb1 := (hgrow.block b (by have := lt_of_block hb; simp; omega) hne).trans (block_alloc_lt hb (.cells #[.int .i64 k, .int .i64 (X k).1, .int .i64 (X k).2] 84))
            rw [cell_of hb1, ← cell_of hb o]; exact hv
          obtain ⟨gcs, hgb⟩ : ∃ gcs, wr.heap[g]? = some (.cells gcs 88 (0, 0)) := by
            rcases hr1.row.2 with ⟨e1, _⟩ | ⟨g', cap', cur, e1, _, e3, _⟩
            · rw [hsl] at e1; simp at e1
            · rw [hsl] at e1
              simp only [Value.slice.injEq, Option.some.injEq, Addr.mk.injEq, and_true] at e1
              obtain ⟨e1, -, -⟩ := e1
              subst e1
              exact ⟨cur, e3⟩
          exact ⟨far _ _ _ _ _ hrb (by simp) c0, far _ _ _ _ _ hR.box (by simp) hck, far _ _ _ _ _ hgb (by simp) q0, far _ _ _ _ _ hgb (by simp) q1⟩
        clear hR hr1 hsl hx1 hx2
        go_wp2_with fail
        go_region_held3 (fun w' => w'.cell? ⟨r, 0, none⟩ = some (.slice (some ⟨g, 0, none⟩) m.nc cap) ∧ w'.cell? ⟨w.heap.size, k, none⟩ = some (.int .i64 (f k)) ∧ w'.cell? ⟨g, (f k).toNat * 2, none⟩ = some (.int .i64 (X k).1) ∧ w'.cell? ⟨g, (f k).toNat * 2 + 1, none⟩ = some (.int .i64 (X k).2))
          (first | exact FAR.out _ hgrow | (refine ⟨?_, ?_, ?_, ?_⟩ <;> go_simp))
          (first
          | (refine step_append_lies _ (by rfl) _ _ _ (by rfl) w.heap.size 84 i0 _ 3 24 Tryz.underlying25 hi0 hz0 hz1 hz2 rfl (by omega) u5 (cnt f k) (rowI f X k) (by rfl) ROW.out
              ⟨wr.heap.size, 0, none⟩ 1 1 [.int .i64 k, .int .i64 (X k).1, .int .i64 (X k).2] (by rfl) (by rfl) (World.news_of_block (cs := #[.int .i64 k, .int .i64 (X k).1, .int .i64 (X k).2]) (t := 84) (fr := (0, 0)) NB.out) (by simp [Value.oneCell'])
              (by omega) (by unfold maxLen; omega) (by omega) (by simp; omega) (wr.heap.size + 1) (by simp) ?_; intro g2 cap2 w1 hown1 hgrow hatg hltg))
        all_goals
          have HN : Hid _ := HR.out.grow _ HFK.out hgrow hown1
          clear hown1 hgrow hatg hltg
          go_wp2
          go_roundw
          case rel => exact ⟨k + 1, by omega, by go_num, HN.out⟩
          case measure => simp [intOf]; omega
      · have HN : Hid (Entering f X w u5 (k + 1) wr) := ⟨by have := hR.own; simpa only [cnt, rowI, if_neg hfk, Nat.add_zero, List.append_nil] using this, hR.kept, hR.box⟩
        clear hR
        go_wp2
        go_roundw
        case rel => exact ⟨k + 1, by omega, by go_num, HN.out⟩
        case measure => simp [intOf]; omega
    · obtain rfl : k = 8 := by omega
      have HR : Hid _ := hR
      clear hR
      go_wp2
      go_ret
      exact ⟨_, rfl, HR.out.own, HR.out.kept⟩
end Go.Proofs.YtfgfpggjcfhccaaGreat
