import Derived.Test.YtmnkphenobfbfaaGreatGa
import Derived.Deep.RegionHeld3
import Derived.RegionTactic
namespace Go.Proofs.YtmnkphenobfbfaaGreat
open Go.RowKit Go.MuLone
def upd (th : Nat → Option (Int × Int × Int)) (i : Nat) (x : Option (Int × Int × Int)) : Nat → Option (Int × Int × Int) := fun j => if j = i then x else th j
theorem thCells_head {i j s t t' : Nat} {x y : Option (Int × Int × Int)} (h : thCells i s t x = thCells j s t' y) : i = j := by
  have e : (thCells i s t x)[0]? = (thCells j s t' y)[0]? := by rw [h]
  rcases x with _ | ⟨a, b, c⟩ <;> rcases y with _ | ⟨a', b', c'⟩ <;> simp [thCells] at e <;> omega
theorem PAt.thread {p : PM} {l : Int} {w w' : World} {cl : Bool} {th : Nat → Option (Int × Int × Int)} (h : PAt p l w cl th) {i t : Nat} (ht : p.ts[i]? = some t) (x : Option (Int × Int × Int))
    (hb : w'.heap[t]? = some (.cells (thCells i p.s t x) 116 (0, 0))) (k : Kept [t] w w') : PAt p l w' cl (upd th i x) := by
  obtain ⟨cs', g1, g2⟩ := h.tb
  have hb0 := h.ts i t ht
  refine ⟨h.len, h.cap, ?_, ?_, ?_, ⟨cs', ?_, g2⟩, fun j t' hj => ?_⟩
  · exact k.at h.m (by simpa using ne_of_blocks h.m hb0 (by simp))
  · exact k.at h.c (by simpa using ne_of_blocks h.c hb0 (by simp))
  · exact k.at h.s (by simpa using ne_of_blocks h.s hb0 (by simp))
  · exact k.at g1 (by simpa using ne_of_blocks g1 hb0 (by simp))
  · by_cases hji : j = i
    · subst hji
      have : t' = t := Option.some.inj (hj.symm.trans ht)
      subst this
      simpa [upd] using hb
    · have hne : t' ≠ t := by
        rintro rfl
        have e := (h.ts j t' hj).symm.trans hb0
        simp only [Option.some.injEq, Obj.cells.injEq, and_true] at e
        exact hji (thCells_head e)
      simp only [upd, hji, if_false]
      exact k.at (h.ts j t' hj) (by simpa using hne)
set_option maxHeartbeats 800000 in
theorem step_arg (p : PM) (i : Int) (w : World) (th : Nat → Option (Int × Int × Int)) (h : PAt p 0 w false th) (hi : i < 0 ∨ (p.ts.length : Int) ≤ i) :
    Calls Tryz.prog 18 #[.pointer (some ⟨p.m, 0, none⟩), .int .i64 i] w fun e w' => e = .returned (.tuple #[.agg #[.bool false, .bool false, .int .i64 0], .int .i64 1]) ∧ PAt p 0 w' false th ∧ Kept [p.m] w w' := by
  have hs := lt_of_block h.m
  have h1 := (h.alloc (.cells #[.bool false, .bool false, .int .i64 0] 52)).lock 1
  have k1 : Kept [p.m] w ((w.alloc (.cells #[.bool false, .bool false, .int .i64 0] 52)).setCell ⟨p.m, 0, none⟩ (.int .i32 1)) := ((Kept.refl _ w).alloc _).setCell (.inl (by simp)) _
  have hr : ((w.alloc (.cells #[.bool false, .bool false, .int .i64 0] 52)).setCell ⟨p.m, 0, none⟩ (.int .i32 1)).heap[w.heap.size]? = some (.cells #[.bool false, .bool false, .int .i64 0] 52 (0, 0)) :=
    block_set_ne (block_alloc_new _ _) (by omega) _ _
  go_enter_defers Tryz.func18, Tryz.ntmps18
  go_wp2_with fail
  refine (lock_free Tryz.muLib ⟨p.m, 0, none⟩ _ ?_ ?_).mono ?_
  · rw [cell_of (h.alloc _).m]; rfl
  · rw [frozen_of (h.alloc _).m]
  rintro e w' ⟨rfl, rfl⟩
  generalize ((w.alloc (.cells #[.bool false, .bool false, .int .i64 0] 52)).setCell ⟨p.m, 0, none⟩ (.int .i32 1)) = W at *
  go_wp2_with fail
  refine (isClosed_no p.m p.c 0 0 _ (by rw [cell_of h1.m]; rfl) h1.c).mono ?_
  rintro e w' ⟨rfl, rfl⟩
  go_wp2_with fail
  refine (hasThread_no p.m (some ⟨p.tb, 0, none⟩) p.ts.length p.cap i _ (by rw [cell_of h1.m]; rfl) hi).mono ?_
  rintro e w' ⟨rfl, rfl⟩
  have c0 : w'.cell? ⟨w.heap.size, 0, none⟩ = some (.bool false) := cell_of hr 0
  have c1 : w'.cell? ⟨w.heap.size, 1, none⟩ = some (.bool false) := cell_of hr 1
  have c2 : w'.cell? ⟨w.heap.size, 2, none⟩ = some (.int .i64 0) := cell_of hr 2
  have f0 : ∀ o, w'.frozen? ⟨w.heap.size, o, none⟩ = false := frozen_of hr
  go_wp2
  have hr2 := block_set_same (block_set_same (block_set_same hr 0 (.bool false)) 1 (.bool false)) 2 (.int .i64 0)
  have h2 := ((h1.set hr (by decide) (by decide) (by decide) (by decide) 0 (.bool false)).set (block_set_same hr 0 _) (by decide) (by decide) (by decide) (by decide) 1 (.bool false)).set (block_set_same (block_set_same hr 0 _) 1 _) (by decide) (by decide) (by decide) (by decide) 2 (.int .i64 0)
  have k2 := ((k1.setCell (p := ⟨w.heap.size, 0, none⟩) (.inr (Nat.le_refl _)) (.bool false)).setCell (p := ⟨w.heap.size, 1, none⟩) (.inr (Nat.le_refl _)) (.bool false)).setCell (p := ⟨w.heap.size, 2, none⟩) (.inr (Nat.le_refl _)) (.int .i64 0)
  refine door_unlock p.m _ (by rw [cell_of h2.m]; rfl) (by rw [frozen_of h2.m]) (res16 w.heap.size _ _ _ _ rfl rfl ?_ ?_ ?_) ⟨rfl, h2.lock 0, k2.setCell (.inl (by simp)) _⟩
  all_goals (rw [cell_of (block_set_ne hr2 (by omega) _ _)]; rfl)
set_option maxHeartbeats 800000 in
theorem step_idle (p : PM) (i : Int) (w : World) (th : Nat → Option (Int × Int × Int)) (h : PAt p 0 w false th) (h0 : 0 ≤ i) (hi : i < p.ts.length) (hth : th i.toNat = none) :
    Calls Tryz.prog 18 #[.pointer (some ⟨p.m, 0, none⟩), .int .i64 i] w fun e w' => e = .returned (.tuple #[.agg #[.bool false, .bool false, .int .i64 0], .int .i64 3]) ∧ PAt p 0 w' false th ∧ Kept [p.m] w w' := by
  have hcap := h.cap
  have hs := lt_of_block h.m
  have h1 := (h.alloc (.cells #[.bool false, .bool false, .int .i64 0] 52)).lock 1
  have k1 : Kept [p.m] w ((w.alloc (.cells #[.bool false, .bool false, .int .i64 0] 52)).setCell ⟨p.m, 0, none⟩ (.int .i32 1)) := ((Kept.refl _ w).alloc _).setCell (.inl (by simp)) _
  have hr : ((w.alloc (.cells #[.bool false, .bool false, .int .i64 0] 52)).setCell ⟨p.m, 0, none⟩ (.int .i32 1)).heap[w.heap.size]? = some (.cells #[.bool false, .bool false, .int .i64 0] 52 (0, 0)) :=
    block_set_ne (block_alloc_new _ _) (by omega) _ _
  go_enter_defers Tryz.func18, Tryz.ntmps18
  go_wp2_with fail
  refine (lock_free Tryz.muLib ⟨p.m, 0, none⟩ _ ?_ ?_).mono ?_
  · rw [cell_of (h.alloc _).m]; rfl
  · rw [frozen_of (h.alloc _).m]
  rintro e w' ⟨rfl, rfl⟩
  generalize ((w.alloc (.cells #[.bool false, .bool false, .int .i64 0] 52)).setCell ⟨p.m, 0, none⟩ (.int .i32 1)) = W at *
  go_wp2_with fail
  refine (isClosed_no p.m p.c 0 0 _ (by rw [cell_of h1.m]; rfl) h1.c).mono ?_
  rintro e w' ⟨rfl, rfl⟩
  go_wp2_with fail
  refine (hasThread_yes p.m (some ⟨p.tb, 0, none⟩) p.ts.length p.cap i _ (by rw [cell_of h1.m]; rfl) h0 hi).mono ?_
  rintro e w' ⟨rfl, rfl⟩
  obtain ⟨t, ht, hct, hbt⟩ := h1.nth (i := i.toNat) (by omega)
  have c4 : w'.cell? ⟨p.m, 4, none⟩ = some (.slice (some ⟨p.tb, 0, none⟩) p.ts.length p.cap) := cell_of h1.m 4
  have HT : Hid _ := hth
  have HP : Hid _ := ht
  clear hth ht
  go_wp2_with fail
  refine (tstep_idle t _ hbt (by rw [HT.out]; rfl)).mono ?_
  rintro e w2 ⟨rfl, k2⟩
  replace hr := k2.at hr (by simp)
  replace h1 := h1.keptNil k2
  replace k1 := k1.trans (k2.mono (by simp))
  have hc2 : ∀ o, w2.cell? ⟨w.heap.size, o, none⟩ = #[.bool false, .bool false, .int .i64 0][o]? := cell_of hr
  have hf2 : ∀ o, w2.frozen? ⟨w.heap.size, o, none⟩ = false := frozen_of hr
  clear c4 hct
  go_wp2
  have hr2 := block_set_same (block_set_same (block_set_same hr 0 (.bool false)) 1 (.bool false)) 2 (.int .i64 0)
  have h2 := ((h1.set hr (by decide) (by decide) (by decide) (by decide) 0 (.bool false)).set (block_set_same hr 0 _) (by decide) (by decide) (by decide) (by decide) 1 (.bool false)).set (block_set_same (block_set_same hr 0 _) 1 _) (by decide) (by decide) (by decide) (by decide) 2 (.int .i64 0)
  have k2 := ((k1.setCell (p := ⟨w.heap.size, 0, none⟩) (.inr (Nat.le_refl _)) (.bool false)).setCell (p := ⟨w.heap.size, 1, none⟩) (.inr (Nat.le_refl _)) (.bool false)).setCell (p := ⟨w.heap.size, 2, none⟩) (.inr (Nat.le_refl _)) (.int .i64 0)
  refine door_unlock p.m _ (by rw [cell_of h2.m]; rfl) (by rw [frozen_of h2.m]) (res16 w.heap.size _ _ _ _ rfl rfl ?_ ?_ ?_) ⟨rfl, h2.lock 0, k2.setCell (.inl (by simp)) _⟩
  all_goals (rw [cell_of (block_set_ne hr2 (by omega) _ _)]; rfl)
set_option maxHeartbeats 800000 in
theorem step_load (p : PM) (i : Int) (w : World) (th : Nat → Option (Int × Int × Int)) (h : PAt p 0 w false th) (h0 : 0 ≤ i) (hi : i < p.ts.length) {k v o : Int} (hth : th i.toNat = some (k, v, o)) (hk0 : 0 ≤ k) (hk7 : k < 8) :
    Calls Tryz.prog 18 #[.pointer (some ⟨p.m, 0, none⟩), .int .i64 i] w fun e w' => e = .returned (.tuple #[.agg #[.bool true, .bool false, .int .i64 0], .int .i64 0]) ∧ PAt p 0 w' false (upd th i.toNat none) ∧ Kept (p.m :: p.ts) w w' := by
  have hcap := h.cap
  have hs := lt_of_block h.m
  have h1 := (h.alloc (.cells #[.bool false, .bool false, .int .i64 0] 52)).lock 1
  have k1 : Kept [p.m] w ((w.alloc (.cells #[.bool false, .bool false, .int .i64 0] 52)).setCell ⟨p.m, 0, none⟩ (.int .i32 1)) := ((Kept.refl _ w).alloc _).setCell (.inl (by simp)) _
  have hr : ((w.alloc (.cells #[.bool false, .bool false, .int .i64 0] 52)).setCell ⟨p.m, 0, none⟩ (.int .i32 1)).heap[w.heap.size]? = some (.cells #[.bool false, .bool false, .int .i64 0] 52 (0, 0)) :=
    block_set_ne (block_alloc_new _ _) (by omega) _ _
  go_enter_defers Tryz.func18, Tryz.ntmps18
  go_wp2_with fail
  refine (lock_free Tryz.muLib ⟨p.m, 0, none⟩ _ ?_ ?_).mono ?_
  · rw [cell_of (h.alloc _).m]; rfl
  · rw [frozen_of (h.alloc _).m]
  rintro e w' ⟨rfl, rfl⟩
  generalize ((w.alloc (.cells #[.bool false, .bool false, .int .i64 0] 52)).setCell ⟨p.m, 0, none⟩ (.int .i32 1)) = W at *
  go_wp2_with fail
  refine (isClosed_no p.m p.c 0 0 _ (by rw [cell_of h1.m]; rfl) h1.c).mono ?_
  rintro e w' ⟨rfl, rfl⟩
  go_wp2_with fail
  refine (hasThread_yes p.m (some ⟨p.tb, 0, none⟩) p.ts.length p.cap i _ (by rw [cell_of h1.m]; rfl) h0 hi).mono ?_
  rintro e w' ⟨rfl, rfl⟩
  obtain ⟨t, ht, hct, hbt⟩ := h1.nth (i := i.toNat) (by omega)
  have c4 : w'.cell? ⟨p.m, 4, none⟩ = some (.slice (some ⟨p.tb, 0, none⟩) p.ts.length p.cap) := cell_of h1.m 4
  have HT : Hid _ := hth
  have HP : Hid _ := ht
  clear hth ht
  go_wp2_with fail
  refine (tstep_load i.toNat p.s t k v o _ (by rw [← HT.out]; exact hbt) h1.s hk0 hk7).mono ?_
  rintro e w2 ⟨rfl, hb2, k2⟩
  have hne := ne_of_blocks hr hbt (by simp)
  replace hr := k2.at hr (by simpa using hne)
  replace h1 := h1.thread HP.out none hb2 k2
  replace k1 : Kept (p.m :: p.ts) w w2 := (k1.mono (by simp)).trans (k2.mono (fun x hx => by cases List.mem_singleton.1 hx; exact List.mem_cons_of_mem _ (List.mem_of_getElem? HP.out)))
  have hc2 : ∀ o, w2.cell? ⟨w.heap.size, o, none⟩ = #[.bool false, .bool false, .int .i64 0][o]? := cell_of hr
  have hf2 : ∀ o, w2.frozen? ⟨w.heap.size, o, none⟩ = false := frozen_of hr
  clear c4 hct
  go_wp2
  have hr2 := block_set_same (block_set_same (block_set_same hr 0 (.bool true)) 1 (.bool false)) 2 (.int .i64 0)
  have h2 := ((h1.set hr (by decide) (by decide) (by decide) (by decide) 0 (.bool true)).set (block_set_same hr 0 _) (by decide) (by decide) (by decide) (by decide) 1 (.bool false)).set (block_set_same (block_set_same hr 0 _) 1 _) (by decide) (by decide) (by decide) (by decide) 2 (.int .i64 0)
  have k2 := ((k1.setCell (p := ⟨w.heap.size, 0, none⟩) (.inr (Nat.le_refl _)) (.bool true)).setCell (p := ⟨w.heap.size, 1, none⟩) (.inr (Nat.le_refl _)) (.bool false)).setCell (p := ⟨w.heap.size, 2, none⟩) (.inr (Nat.le_refl _)) (.int .i64 0)
  refine door_unlock p.m _ (by rw [cell_of h2.m]; rfl) (by rw [frozen_of h2.m]) (res16 w.heap.size _ _ _ _ rfl rfl ?_ ?_ ?_) ⟨rfl, h2.lock 0, k2.setCell (.inl (by simp)) _⟩
  all_goals (rw [cell_of (block_set_ne hr2 (by omega) _ _)]; rfl)
end Go.Proofs.YtmnkphenobfbfaaGreat
namespace Go.Proofs.YtmnkphenobfbfaaGreat
open Go.RowKit

/-- Where a map of the document's answer lies. -/
structure RM where
  r : Nat
  tb : Nat
  n : Nat

def rCells (q : RM) (cl : Bool) : Array Value :=
  #[.slice none 0 0, .int .i64 (-1), .int .i64 (-1), .int .i64 (-1), .int .i64 (-1), .int .i64 (-1), .int .i64 (-1), .int .i64 (-1), .int .i64 (-1), .bool false, .bool false,
    .int .i64 (-1), .int .i64 (-1), .int .i64 (-1), .int .i64 (-1), .int .i64 (-1), .int .i64 (-1), .int .i64 (-1), .int .i64 (-1), .int .i64 0, .int .i64 (-1), .bool cl, .slice (some ⟨q.tb, 0, none⟩) q.n q.n]

def rThread (cs : Array Value) (i : Nat) : Option (Int × Int × Int) → Prop
  | none => cs[i * 9 + 4]? = some (.int .i64 0)
  | some (k, v, o) => cs[i * 9]? = some (.int .i64 0) ∧ cs[i * 9 + 1]? = some (.int .i64 k) ∧ cs[i * 9 + 2]? = some (.int .i64 v) ∧ cs[i * 9 + 3]? = some (.int .i64 o) ∧ cs[i * 9 + 4]? = some (.int .i64 1)

structure RAt (q : RM) (w : World) (cl : Bool) (th : Nat → Option (Int × Int × Int)) : Prop where
  len : q.n ≤ 6
  r : w.heap[q.r]? = some (.cells (rCells q cl) 59 (0, 0))
  tb : ∃ cs : Array Value, w.heap[q.tb]? = some (.cells cs 90 (0, 0)) ∧ cs.size = q.n * 9 ∧ ∀ i : Nat, i < q.n → rThread cs i (th i)

theorem RAt.kept {q : RM} {w w' : World} {cl : Bool} {th : Nat → Option (Int × Int × Int)} {F : List Nat} (h : RAt q w cl th) (k : Kept F w w') (h1 : q.r ∉ F) (h2 : q.tb ∉ F) : RAt q w' cl th := by
  obtain ⟨cs, g1, g2⟩ := h.tb
  exact ⟨h.len, k.at h.r h1, cs, k.at g1 h2, g2⟩
theorem RAt.keptNil {q : RM} {w w' : World} {cl : Bool} {th : Nat → Option (Int × Int × Int)} (h : RAt q w cl th) (k : Kept [] w w') : RAt q w' cl th := h.kept k (by simp) (by simp)
theorem RAt.alloc {q : RM} {w : World} {cl : Bool} {th : Nat → Option (Int × Int × Int)} (h : RAt q w cl th) (o : Obj) : RAt q (w.alloc o) cl th := h.keptNil ((Kept.refl [] w).alloc o)
theorem RAt.drew {q : RM} {w : World} {cl : Bool} {th : Nat → Option (Int × Int × Int)} (h : RAt q w cl th) : RAt q w.drew cl th := h.keptNil (Kept.refl [] w).drew

def zres : Value := .agg #[.bool false, .bool false, .int .i64 0]
set_option maxRecDepth 100000 in
set_option maxHeartbeats 800000 in
theorem rstep_closed (q : RM) (i : Int) (w : World) (th : Nat → Option (Int × Int × Int)) (h : RAt q w true th) :
    Calls Tryz.prog 19 #[.pointer (some ⟨q.r, 0, none⟩), .int .i64 i] w fun e w' => e = .returned (.tuple #[.agg #[.bool false, .bool false, .int .i64 0], .int .i64 5]) ∧ Kept [] w w' := by
  have hs := lt_of_block h.r
  have hc : w.cell? ⟨q.r, 21, none⟩ = some (.bool true) := cell_of h.r 21
  go_enter Tryz.func19, Tryz.ntmps19
  go_wp2
  exact bodyPost_ret (v := .tuple #[.agg #[.bool false, .bool false, .int .i64 0], .int .i64 5]) (by simp [results, Tryz.results19, go_sem]) rfl ⟨rfl, (Kept.refl [] w).alloc _⟩
set_option maxRecDepth 100000 in
set_option maxHeartbeats 800000 in
theorem rstep_arg (q : RM) (i : Int) (w : World) (th : Nat → Option (Int × Int × Int)) (h : RAt q w false th) (hi : i < 0 ∨ (q.n : Int) ≤ i) :
    Calls Tryz.prog 19 #[.pointer (some ⟨q.r, 0, none⟩), .int .i64 i] w fun e w' => e = .returned (.tuple #[.agg #[.bool false, .bool false, .int .i64 0], .int .i64 1]) ∧ Kept [] w w' := by
  have hs := lt_of_block h.r
  have hc : w.cell? ⟨q.r, 21, none⟩ = some (.bool false) := cell_of h.r 21
  have hc2 : w.cell? ⟨q.r, 22, none⟩ = some (.slice (some ⟨q.tb, 0, none⟩) q.n q.n) := cell_of h.r 22
  by_cases h0 : i < 0
  · clear hi
    go_enter Tryz.func19, Tryz.ntmps19
    go_wp2
    exact bodyPost_ret (v := .tuple #[.agg #[.bool false, .bool false, .int .i64 0], .int .i64 1]) (by simp [results, Tryz.results19, go_sem]) rfl ⟨rfl, (Kept.refl [] w).alloc _⟩
  · have hi2 : (q.n : Int) ≤ i := by omega
    clear hi
    go_enter Tryz.func19, Tryz.ntmps19
    go_wp2
    exact bodyPost_ret (v := .tuple #[.agg #[.bool false, .bool false, .int .i64 0], .int .i64 1]) (by simp [results, Tryz.results19, go_sem]) rfl ⟨rfl, (Kept.refl [] w).alloc _⟩
set_option maxRecDepth 100000 in
set_option maxHeartbeats 800000 in
theorem rstep_idle (q : RM) (i : Int) (w : World) (th : Nat → Option (Int × Int × Int)) (h : RAt q w false th) (h0 : 0 ≤ i) (hi : i < q.n) (hth : th i.toNat = none) :
    Calls Tryz.prog 19 #[.pointer (some ⟨q.r, 0, none⟩), .int .i64 i] w fun e w' => e = .returned (.tuple #[.agg #[.bool false, .bool false, .int .i64 0], .int .i64 3]) ∧ Kept [] w w' := by
  have hs := lt_of_block h.r
  have hc : w.cell? ⟨q.r, 21, none⟩ = some (.bool false) := cell_of h.r 21
  have hc2 : w.cell? ⟨q.r, 22, none⟩ = some (.slice (some ⟨q.tb, 0, none⟩) q.n q.n) := cell_of h.r 22
  obtain ⟨cs, g1, g2, g3⟩ := h.tb
  have g4 := g3 i.toNat (by omega)
  rw [hth] at g4
  have hc3 : w.cell? ⟨q.tb, i.toNat * 9 + 4, none⟩ = some (.int .i64 0) := by rw [cell_of g1]; exact g4
  have ht := lt_of_block g1
  clear hth g3 g4 g2
  go_enter Tryz.func19, Tryz.ntmps19
  go_wp2
  exact bodyPost_ret (v := .tuple #[.agg #[.bool false, .bool false, .int .i64 0], .int .i64 3]) (by simp [results, Tryz.results19, go_sem]) rfl ⟨rfl, (Kept.refl [] w).alloc _⟩
end Go.Proofs.YtmnkphenobfbfaaGreat
namespace Go.Proofs.YtmnkphenobfbfaaGreat
open Go.RowKit
set_option maxRecDepth 100000 in
set_option maxHeartbeats 800000 in
theorem rends (tb off : Nat) (f : Bool) (v : Int) (cs : Array Value) (w : World) (h : w.heap[tb]? = some (.cells cs 90 (0, 0))) {x : Value} (hx : cs[off + 4]? = some x) :
    Calls Tryz.prog 57 #[.pointer (some ⟨tb, off, none⟩), .bool f, .int .i64 v] w fun e w' => e = .returned (.agg #[.bool true, .bool f, .int .i64 v]) ∧
      w'.heap[tb]? = some (.cells (cs.setIfInBounds (off + 4) (.int .i64 0)) 90 (0, 0)) ∧ Kept [tb] w w' := by
  have hs := lt_of_block h
  have hc : w.cell? ⟨tb, off + 4, none⟩ = some x := by rw [cell_of h]; exact hx
  have hf : ∀ o, w.frozen? ⟨tb, o, none⟩ = false := frozen_of h
  have HX : Hid _ := hx
  clear hx
  go_enter Tryz.func57, Tryz.ntmps57
  go_wp2
  refine bodyPost_ret (v := .agg #[.bool true, .bool f, .int .i64 v]) (by simp [results, Tryz.results57, go_sem]) rfl ⟨rfl, ?_, ?_⟩
  · exact block_alloc_lt (block_set_same h _ _) _
  · exact ((Kept.refl _ w).setCell (.inl (by simp)) _).alloc _
theorem nth_neg (k : Int) (hk0 : 0 ≤ k) (hk7 : k < 8) (q : RM) (cl : Bool) : (rCells q cl)[1 + k.toNat]? = some (.int .i64 (-1)) := by
  obtain ⟨n, rfl⟩ := Int.eq_ofNat_of_zero_le hk0
  have hn : n < 8 := by omega
  simp only [Int.toNat_natCast]
  match n, hn with
  | 0, _ | 1, _ | 2, _ | 3, _ | 4, _ | 5, _ | 6, _ | 7, _ => rfl
set_option maxRecDepth 100000 in
set_option maxHeartbeats 800000 in
theorem rfirst (q : RM) (off : Nat) (k : Int) (cs : Array Value) (w : World) (hr : w.heap[q.r]? = some (.cells (rCells q false) 59 (0, 0))) (h : w.heap[q.tb]? = some (.cells cs 90 (0, 0)))
    (h1 : cs[off + 1]? = some (.int .i64 k)) {x y : Value} (h4 : cs[off + 4]? = some x) (h5 : cs[off + 5]? = some y) (hk0 : 0 ≤ k) (hk7 : k < 8) :
    Calls Tryz.prog 52 #[.pointer (some ⟨q.r, 0, none⟩), .pointer (some ⟨q.tb, off, none⟩), .int .i64 7] w fun e w' => e = .returned (.agg #[.bool true, .bool false, .int .i64 0]) ∧
      w'.heap[q.tb]? = some (.cells ((cs.setIfInBounds (off + 5) (.int .i64 (-1))).setIfInBounds (off + 4) (.int .i64 0)) 90 (0, 0)) ∧ Kept [q.tb] w w' := by
  have hs := lt_of_block h
  have hsr := lt_of_block hr
  have hne := ne_of_blocks hr h (by simp)
  have c1 : w.cell? ⟨q.tb, off + 1, none⟩ = some (.int .i64 k) := by rw [cell_of h]; exact h1
  have c5 : w.cell? ⟨q.tb, off + 5, none⟩ = some y := by rw [cell_of h]; exact h5
  have ck : w.cell? ⟨q.r, 1 + k.toNat, none⟩ = some (.int .i64 (-1)) := by rw [cell_of hr]; exact nth_neg k hk0 hk7 q false
  have c9 : w.cell? ⟨q.r, 9, none⟩ = some (.bool false) := cell_of hr 9
  have hf : ∀ o, w.frozen? ⟨q.tb, o, none⟩ = false := frozen_of h
  have H4 : Hid _ := h4
  clear h1 h4 h5
  go_enter Tryz.func52, Tryz.ntmps52
  go_wp2
  go_region
  go_wp2_with fail
  have hb1 : (((w.setCell ⟨q.tb, off + 5, none⟩ (.int .i64 (-1))).alloc (.cells #[.bool false, .bool false, .int .i64 0] 52)).drew).heap[q.tb]? = some (.cells (cs.setIfInBounds (off + 5) (.int .i64 (-1))) 90 (0, 0)) :=
    block_alloc_lt (block_set_same h _ _) _
  have hr1 : (((w.setCell ⟨q.tb, off + 5, none⟩ (.int .i64 (-1))).alloc (.cells #[.bool false, .bool false, .int .i64 0] 52)).drew).heap[w.heap.size]? = some (.cells #[.bool false, .bool false, .int .i64 0] 52 (0, 0)) := by
    have := block_alloc_new (w.setCell ⟨q.tb, off + 5, none⟩ (.int .i64 (-1))) (.cells #[.bool false, .bool false, .int .i64 0] 52)
    rw [show (w.setCell ⟨q.tb, off + 5, none⟩ (.int .i64 (-1))).heap.size = w.heap.size by simp [World.setCell]] at this
    exact this
  have k1 : Kept [q.tb] w ((w.setCell ⟨q.tb, off + 5, none⟩ (.int .i64 (-1))).alloc (.cells #[.bool false, .bool false, .int .i64 0] 52)).drew :=
    (((Kept.refl _ w).setCell (.inl (by simp)) _).alloc _).drew
  refine (rends q.tb off false 0 (cs.setIfInBounds (off + 5) (.int .i64 (-1))) _ hb1 (x := x) (by rw [Array.getElem?_setIfInBounds_ne (by omega)]; exact H4.out)).mono ?_
  rintro e w2 ⟨rfl, h2, k2⟩
  have r2 := k2.at hr1 (by simp; omega)
  have hc2 : ∀ o, w2.cell? ⟨w.heap.size, o, none⟩ = #[.bool false, .bool false, .int .i64 0][o]? := cell_of r2
  have hf2 : ∀ o, w2.frozen? ⟨w.heap.size, o, none⟩ = false := frozen_of r2
  replace k1 := k1.trans k2
  clear c1 c5 ck c9 hf hb1 hr1 k2
  go_wp2
  have hr3 := block_set_same (block_set_same (block_set_same r2 0 (.bool true)) 1 (.bool false)) 2 (.int .i64 0)
  refine bodyPost_ret (v := .agg #[.bool true, .bool false, .int .i64 0]) (by simp [results, Tryz.results52, go_sem, cell_of hr3]) rfl ⟨rfl, ?_, ?_⟩
  · exact block_set_ne (block_set_ne (block_set_ne h2 (by omega) _ _) (by omega) _ _) (by omega) _ _
  · exact ((k1.setCell (.inr (by simp)) _).setCell (.inr (by simp)) _).setCell (.inr (by simp)) _
set_option maxRecDepth 100000 in
set_option maxHeartbeats 800000 in
theorem rload (q : RM) (off : Nat) (k : Int) (cs : Array Value) (w : World) (hr : w.heap[q.r]? = some (.cells (rCells q false) 59 (0, 0))) (h : w.heap[q.tb]? = some (.cells cs 90 (0, 0)))
    (h1 : cs[off + 1]? = some (.int .i64 k)) {y : Value} (h4 : cs[off + 4]? = some (.int .i64 1)) (h5 : cs[off + 5]? = some y) (hk0 : 0 ≤ k) (hk7 : k < 8) :
    Calls Tryz.prog 36 #[.pointer (some ⟨q.r, 0, none⟩), .pointer (some ⟨q.tb, off, none⟩)] w fun e w' => e = .returned (.agg #[.bool true, .bool false, .int .i64 0]) ∧
      w'.heap[q.tb]? = some (.cells ((cs.setIfInBounds (off + 5) (.int .i64 (-1))).setIfInBounds (off + 4) (.int .i64 0)) 90 (0, 0)) ∧ Kept [q.tb] w w' := by
  have hs := lt_of_block h
  have hsr := lt_of_block hr
  have c4 : w.cell? ⟨q.tb, off + 4, none⟩ = some (.int .i64 1) := by rw [cell_of h]; exact h4
  have H1 : Hid _ := h1
  have H4 : Hid _ := h4
  have H5 : Hid _ := h5
  clear h1 h4 h5
  go_enter Tryz.func36, Tryz.ntmps36
  go_wp2_with fail
  refine (rfirst q off k cs _ (block_alloc_lt hr _) (block_alloc_lt h _) H1.out H4.out H5.out hk0 hk7).mono ?_
  rintro e w2 ⟨rfl, h2, k2⟩
  have r2 := k2.at (block_alloc_new _ _) (by simp; omega)
  have hc2 : ∀ o, w2.cell? ⟨w.heap.size, o, none⟩ = #[.bool false, .bool false, .int .i64 0][o]? := cell_of r2
  have hf2 : ∀ o, w2.frozen? ⟨w.heap.size, o, none⟩ = false := frozen_of r2
  have k1 := ((Kept.refl [q.tb] w).alloc (.cells #[.bool false, .bool false, .int .i64 0] 52)).trans k2
  clear k2 c4
  go_wp2
  have hr3 := block_set_same (block_set_same (block_set_same r2 0 (.bool true)) 1 (.bool false)) 2 (.int .i64 0)
  refine bodyPost_ret (v := .agg #[.bool true, .bool false, .int .i64 0]) (by simp [results, Tryz.results36, go_sem, cell_of hr3]) rfl ⟨rfl, ?_, ?_⟩
  · exact block_set_ne (block_set_ne (block_set_ne h2 (by omega) _ _) (by omega) _ _) (by omega) _ _
  · exact ((k1.setCell (.inr (by simp)) _).setCell (.inr (by simp)) _).setCell (.inr (by simp)) _
theorem rThread_keep {cs : Array Value} {i j a : Nat} {x : Option (Int × Int × Int)} (v : Value) (h : rThread cs j x) (hne : j ≠ i) (ha : a < 9) : rThread (cs.setIfInBounds (i * 9 + a) v) j x := by
  rcases x with _ | ⟨k, v', o⟩
  · simp only [rThread] at h ⊢
    rw [Array.getElem?_setIfInBounds_ne (by omega)]; exact h
  · simp only [rThread] at h ⊢
    rw [Array.getElem?_setIfInBounds_ne (by omega), Array.getElem?_setIfInBounds_ne (by omega), Array.getElem?_setIfInBounds_ne (by omega), Array.getElem?_setIfInBounds_ne (by omega), Array.getElem?_setIfInBounds_ne (by omega)]; exact h
set_option maxRecDepth 100000 in
set_option maxHeartbeats 800000 in
theorem rstep_load (q : RM) (i : Int) (w : World) (th : Nat → Option (Int × Int × Int)) (h : RAt q w false th) (h0 : 0 ≤ i) (hi : i < q.n) {k v o : Int} (hth : th i.toNat = some (k, v, o)) (hk0 : 0 ≤ k) (hk7 : k < 8) :
    Calls Tryz.prog 19 #[.pointer (some ⟨q.r, 0, none⟩), .int .i64 i] w fun e w' => e = .returned (.tuple #[.agg #[.bool true, .bool false, .int .i64 0], .int .i64 0]) ∧ RAt q w' false (upd th i.toNat none) ∧ Kept [q.tb] w w' := by
  have hs := lt_of_block h.r
  have hc : w.cell? ⟨q.r, 21, none⟩ = some (.bool false) := cell_of h.r 21
  have hc2 : w.cell? ⟨q.r, 22, none⟩ = some (.slice (some ⟨q.tb, 0, none⟩) q.n q.n) := cell_of h.r 22
  obtain ⟨cs, g1, g2, g3⟩ := h.tb
  have g4 := g3 i.toNat (by omega)
  rw [hth] at g4
  simp only [rThread] at g4
  obtain ⟨e0, e1, _, _, e4⟩ := g4
  have hsz : i.toNat * 9 + 8 < cs.size := by omega
  obtain ⟨y, e5⟩ : ∃ y, cs[i.toNat * 9 + 5]? = some y := ⟨_, Array.getElem?_eq_getElem (by omega)⟩
  have ht := lt_of_block g1
  have c0 : w.cell? ⟨q.tb, i.toNat * 9, none⟩ = some (.int .i64 0) := by rw [cell_of g1]; exact e0
  have c4 : w.cell? ⟨q.tb, i.toNat * 9 + 4, none⟩ = some (.int .i64 1) := by rw [cell_of g1]; exact e4
  have hrb := h.r
  have HH : Hid _ := h
  have E1 : Hid _ := e1
  have E4 : Hid _ := e4
  have E5 : Hid _ := e5
  have G3 : Hid _ := g3
  have G2 : Hid _ := g2
  clear hth g3 g2 e0 e1 e4 e5 h hsz
  go_enter Tryz.func19, Tryz.ntmps19
  go_wp2_with fail
  refine (rload q (i.toNat * 9) k cs _ (block_alloc_lt hrb _) (block_alloc_lt g1 _) E1.out E4.out E5.out hk0 hk7).mono ?_
  rintro e w2 ⟨rfl, h2, k2⟩
  have r2 := k2.at (block_alloc_new _ _) (by simp; omega)
  have b2 := k2.at (block_alloc_lt hrb _) (by simpa using ne_of_blocks hrb g1 (by simp))
  have hc3 : ∀ o, w2.cell? ⟨w.heap.size, o, none⟩ = #[.bool false, .bool false, .int .i64 0][o]? := cell_of r2
  have hf3 : ∀ o, w2.frozen? ⟨w.heap.size, o, none⟩ = false := frozen_of r2
  have k1 := ((Kept.refl [q.tb] w).alloc (.cells #[.bool false, .bool false, .int .i64 0] 52)).trans k2
  clear k2 c4 c0 hc hc2
  go_wp2
  have hr3 := block_set_same (block_set_same (block_set_same r2 0 (.bool true)) 1 (.bool false)) 2 (.int .i64 0)
  refine bodyPost_ret (v := .tuple #[.agg #[.bool true, .bool false, .int .i64 0], .int .i64 0]) (by simp [results, Tryz.results19, go_sem, cell_of hr3]) rfl ⟨rfl, ⟨HH.out.len, ?_, _, block_set_ne (block_set_ne (block_set_ne h2 (by omega) _ _) (by omega) _ _) (by omega) _ _, ?_, fun j hj => ?_⟩, ?_⟩
  · exact block_set_ne (block_set_ne (block_set_ne b2 (by omega) _ _) (by omega) _ _) (by omega) _ _
  · have := G2.out; simpa using this
  · by_cases hji : j = i.toNat
    · subst hji
      have := G2.out
      simp only [upd, if_true, rThread]
      rw [Array.getElem?_setIfInBounds_self_of_lt]
      simp; omega
    · simp only [upd, hji, if_false]
      exact rThread_keep _ (rThread_keep _ (G3.out j hj) hji (by omega)) hji (by omega)
  · exact ((k1.setCell (.inr (by simp)) _).setCell (.inr (by simp)) _).setCell (.inr (by simp)) _
end Go.Proofs.YtmnkphenobfbfaaGreat
namespace Go.Proofs.YtmnkphenobfbfaaGreat
open Go.RowKit
set_option maxHeartbeats 400000 in
theorem same0 (a b : Option Addr) (c d : Nat) (w : World) : Calls Tryz.prog 15 #[.slice a 0 c, .slice b 0 d] w fun e w' => e = .returned (.bool true) ∧ w' = w := by
  go_enter Tryz.func15, Tryz.ntmps15
  go_wp2
  go_loop [5] (fun i => i = .int .i64 0) (fun _ => 0)
  case atStart => rfl
  case round =>
    subst hrel
    go_wp2
    go_ret
    exact ⟨rfl, rfl⟩
def negTbl : Value := .agg #[.int .i64 (-1), .int .i64 (-1), .int .i64 (-1), .int .i64 (-1), .int .i64 (-1), .int .i64 (-1), .int .i64 (-1), .int .i64 (-1)]
theorem nth_neg8 (k : Nat) (h : k < [Value.int .i64 (-1), .int .i64 (-1), .int .i64 (-1), .int .i64 (-1), .int .i64 (-1), .int .i64 (-1), .int .i64 (-1), .int .i64 (-1)].length) : [Value.int .i64 (-1), .int .i64 (-1), .int .i64 (-1), .int .i64 (-1), .int .i64 (-1), .int .i64 (-1), .int .i64 (-1), .int .i64 (-1)][k]'h = .int .i64 (-1) := by
  match k, h with
  | 0, _ | 1, _ | 2, _ | 3, _ | 4, _ | 5, _ | 6, _ | 7, _ => rfl
set_option maxRecDepth 100000 in
set_option maxHeartbeats 800000 in
theorem entries0 (r : Option Addr) (w : World) : Calls Tryz.prog 29 #[.pointer r, negTbl] w fun e w' => e = .returned (.slice none 0 0) ∧ Kept [] w w' := by
  simp only [negTbl]
  go_enter Tryz.func29, Tryz.ntmps29
  go_wp2
  go_loop [5, 6] (fun x i => ∃ k : Nat, k ≤ 8 ∧ i = .int .i64 k ∧ x = .slice none 0 0) (fun _ i => 8 - (intOf i).toNat)
  case atStart => exact ⟨0, by omega, rfl, rfl⟩
  case round =>
    obtain ⟨k, hk, rfl, rfl⟩ := hrel
    by_cases hlt : k < 8
    · have hn := nth_neg8 k
      have hlt' : (k : Int) < 8 := by omega
      go_wp2
      go_round
      case rel => exact ⟨k + 1, by omega, by go_num, rfl⟩
      case measure => simp [intOf]; omega
    · go_wp2
      go_ret
      exact ⟨rfl, (Kept.refl [] w).alloc _⟩
end Go.Proofs.YtmnkphenobfbfaaGreat
