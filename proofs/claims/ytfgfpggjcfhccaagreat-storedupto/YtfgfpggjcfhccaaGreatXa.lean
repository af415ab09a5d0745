import Derived.Test.YtfgfpggjcfhccaaGreatLd
import Derived.Deep.RegionHeld3
import Derived.RegionTactic
import Derived.Deep.DeepCutAuto
namespace Go.Proofs.YtfgfpggjcfhccaaGreat
open Go.RowKit Go.MuLone
def upd (th : Nat → Option (Int × Int × Int)) (i : Nat) (x : Option (Int × Int × Int)) : Nat → Option (Int × Int × Int) := fun j => if j = i then x else th j
theorem thCells_head {i j s t t' : Nat} {x y : Option (Int × Int × Int)} (h : thCells i s t x = thCells j s t' y) : i = j := by
  have e : (thCells i s t x)[0]? = (thCells j s t' y)[0]? := by rw [h]
  rcases x with _ | ⟨a, b, c⟩ <;> rcases y with _ | ⟨a', b', c'⟩ <;> simp [thCells] at e <;> omega
theorem PAt.thread {p : PM} {l : Int} {w w' : World} {cl : Bool} {th : Nat → Option (Int × Int × Int)} (h : PAt p l w cl th) {i t : Nat} (ht : p.ts[i]? = some t) (x : Option (Int × Int × Int))
    (hb : w'.heap[t]? = some (.cells (thCells i p.s t x) 116 (0, 0))) (k : Kept [t] w w') : PAt p l w' cl (upd th i x) := by
  obtain ⟨cs', g1, g2⟩ := h.tb
  have hb0 := h.ts i t ht
  refine ⟨h.len, h.cap, ?_, ?_, ?_, ⟨cs', ?_, g2⟩, fun j t' hj => ?_⟩
  · exact k.at h.m (by simpa using ne_of_blocks h.m hb0 (by simp))
  · exact k.at h.c (by simpa using ne_of_blocks h.c hb0 (by simp))
  · exact k.at h.s (by simpa using ne_of_blocks h.s hb0 (by simp))
  · exact k.at g1 (by simpa using ne_of_blocks g1 hb0 (by simp))
  · by_cases hji : j = i
    · subst hji
      have : t' = t := Option.some.inj (hj.symm.trans ht)
      subst this
      simpa [upd] using hb
    · have hne : t' ≠ t := by
        rintro rfl
        have e := (h.ts j t' hj).symm.trans hb0
        simp only [Option.some.injEq, Obj.cells.injEq, and_true] at e
        exact hji (thCells_head e)
      simp only [upd, hji, if_false]
      exact k.at (h.ts j t' hj) (by simpa using hne)
set_option maxHeartbeats 800000 in
theorem step_arg (p : PM) (i : Int) (w : World) (th : Nat → Option (Int × Int × Int)) (h : PAt p 0 w false th) (hi : i < 0 ∨ (p.ts.length : Int) ≤ i) :
    Calls Tryz.prog 17 #[.pointer (some ⟨p.m, 0, none⟩), .int .i64 i] w fun e w' => e = .returned (.tuple #[.agg #[.bool false, .bool false, .int .i64 0], .int .i64 1]) ∧ PAt p 0 w' false th ∧ Kept [p.m] w w' := by
  have hs := lt_of_block h.m
  have h1 := (h.alloc (.cells #[.bool false, .bool false, .int .i64 0] 52)).lock 1
  have k1 : Kept [p.m] w ((w.alloc (.cells #[.bool false, .bool false, .int .i64 0] 52)).setCell ⟨p.m, 0, none⟩ (.int .i32 1)) := ((Kept.refl _ w).alloc _).setCell (.inl (by simp)) _
  have hr : ((w.alloc (.cells #[.bool false, .bool false, .int .i64 0] 52)).setCell ⟨p.m, 0, none⟩ (.int .i32 1)).heap[w.heap.size]? = some (.cells #[.bool false, .bool false, .int .i64 0] 52 (0, 0)) :=
    block_set_ne (block_alloc_new _ _) (by omega) _ _
  go_enter_defers Tryz.func17, Tryz.ntmps17
  go_wp2_with fail
  refine (lock_free Tryz.muLib ⟨p.m, 0, none⟩ _ ?_ ?_).mono ?_
  · rw [cell_of (h.alloc _).m]; rfl
  · rw [frozen_of (h.alloc _).m]
  rintro e w' ⟨rfl, rfl⟩
  generalize ((w.alloc (.cells #[.bool false, .bool false, .int .i64 0] 52)).setCell ⟨p.m, 0, none⟩ (.int .i32 1)) = W at *
  go_wp2_with fail
  refine (isClosed_no p.m p.c 0 0 _ (by rw [cell_of h1.m]; rfl) h1.c).mono ?_
  rintro e w' ⟨rfl, rfl⟩
  go_wp2_with fail
  refine (hasThread_no p.m (some ⟨p.tb, 0, none⟩) p.ts.length p.cap i _ (by rw [cell_of h1.m]; rfl) hi).mono ?_
  rintro e w' ⟨rfl, rfl⟩
  have c0 : w'.cell? ⟨w.heap.size, 0, none⟩ = some (.bool false) := cell_of hr 0
  have c1 : w'.cell? ⟨w.heap.size, 1, none⟩ = some (.bool false) := cell_of hr 1
  have c2 : w'.cell? ⟨w.heap.size, 2, none⟩ = some (.int .i64 0) := cell_of hr 2
  have f0 : ∀ o, w'.frozen? ⟨w.heap.size, o, none⟩ = false := frozen_of hr
  go_wp2
  have hr2 := block_set_same (block_set_same (block_set_same hr 0 (.bool false)) 1 (.bool false)) 2 (.int .i64 0)
  have h2 := ((h1.set hr (by decide) (by decide) (by decide) (by decide) 0 (.bool false)).set (block_set_same hr 0 _) (by decide) (by decide) (by decide) (by decide) 1 (.bool false)).set (block_set_same (block_set_same hr 0 _) 1 _) (by decide) (by decide) (by decide) (by decide) 2 (.int .i64 0)
  have k2 := ((k1.setCell (p := ⟨w.heap.size, 0, none⟩) (.inr (Nat.le_refl _)) (.bool false)).setCell (p := ⟨w.heap.size, 1, none⟩) (.inr (Nat.le_refl _)) (.bool false)).setCell (p := ⟨w.heap.size, 2, none⟩) (.inr (Nat.le_refl _)) (.int .i64 0)
  refine door_unlock p.m _ (by rw [cell_of h2.m]; rfl) (by rw [frozen_of h2.m]) (res16 w.heap.size _ _ _ _ rfl rfl ?_ ?_ ?_) ⟨rfl, h2.lock 0, k2.setCell (.inl (by simp)) _⟩
  all_goals (rw [cell_of (block_set_ne hr2 (by omega) _ _)]; rfl)
set_option maxHeartbeats 800000 in
theorem step_idle (p : PM) (i : Int) (w : World) (th : Nat → Option (Int × Int × Int)) (h : PAt p 0 w false th) (h0 : 0 ≤ i) (hi : i < p.ts.length) (hth : th i.toNat = none) :
    Calls Tryz.prog 17 #[.pointer (some ⟨p.m, 0, none⟩), .int .i64 i] w fun e w' => e = .returned (.tuple #[.agg #[.bool false, .bool false, .int .i64 0], .int .i64 3]) ∧ PAt p 0 w' false th ∧ Kept [p.m] w w' := by
  have hcap := h.cap
  have hs := lt_of_block h.m
  have h1 := (h.alloc (.cells #[.bool false, .bool false, .int .i64 0] 52)).lock 1
  have k1 : Kept [p.m] w ((w.alloc (.cells #[.bool false, .bool false, .int .i64 0] 52)).setCell ⟨p.m, 0, none⟩ (.int .i32 1)) := ((Kept.refl _ w).alloc _).setCell (.inl (by simp)) _
  have hr : ((w.alloc (.cells #[.bool false, .bool false, .int .i64 0] 52)).setCell ⟨p.m, 0, none⟩ (.int .i32 1)).heap[w.heap.size]? = some (.cells #[.bool false, .bool false, .int .i64 0] 52 (0, 0)) :=
    block_set_ne (block_alloc_new _ _) (by omega) _ _
  go_enter_defers Tryz.func17, Tryz.ntmps17
  go_wp2_with fail
  refine (lock_free Tryz.muLib ⟨p.m, 0, none⟩ _ ?_ ?_).mono ?_
  · rw [cell_of (h.alloc _).m]; rfl
  · rw [frozen_of (h.alloc _).m]
  rintro e w' ⟨rfl, rfl⟩
  generalize ((w.alloc (.cells #[.bool false, .bool false, .int .i64 0] 52)).setCell ⟨p.m, 0, none⟩ (.int .i32 1)) = W at *
  go_wp2_with fail
  refine (isClosed_no p.m p.c 0 0 _ (by rw [cell_of h1.m]; rfl) h1.c).mono ?_
  rintro e w' ⟨rfl, rfl⟩
  go_wp2_with fail
  refine (hasThread_yes p.m (some ⟨p.tb, 0, none⟩) p.ts.length p.cap i _ (by rw [cell_of h1.m]; rfl) h0 hi).mono ?_
  rintro e w' ⟨rfl, rfl⟩
  obtain ⟨t, ht, hct, hbt⟩ := h1.nth (i := i.toNat) (by omega)
  have c4 : w'.cell? ⟨p.m, 4, none⟩ = some (.slice (some ⟨p.tb, 0, none⟩) p.ts.length p.cap) := cell_of h1.m 4
  have HT : Hid _ := hth
  have HP : Hid _ := ht
  clear hth ht
  go_wp2_with fail
  refine (tstep_idle t _ hbt (by rw [HT.out]; rfl)).mono ?_
  rintro e w2 ⟨rfl, k2⟩
  replace hr := k2.at hr (by simp)
  replace h1 := h1.keptNil k2
  replace k1 := k1.trans (k2.mono (by simp))
  have hc2 : ∀ o, w2.cell? ⟨w.heap.size, o, none⟩ = #[.bool false, .bool false, .int .i64 0][o]? := cell_of hr
  have hf2 : ∀ o, w2.frozen? ⟨w.heap.size, o, none⟩ = false := frozen_of hr
  clear c4 hct
  go_wp2
  have hr2 := block_set_same (block_set_same (block_set_same hr 0 (.bool false)) 1 (.bool false)) 2 (.int .i64 0)
  have h2 := ((h1.set hr (by decide) (by decide) (by decide) (by decide) 0 (.bool false)).set (block_set_same hr 0 _) (by decide) (by decide) (by decide) (by decide) 1 (.bool false)).set (block_set_same (block_set_same hr 0 _) 1 _) (by decide) (by decide) (by decide) (by decide) 2 (.int .i64 0)
  have k2 := ((k1.setCell (p := ⟨w.heap.size, 0, none⟩) (.inr (Nat.le_refl _)) (.bool false)).setCell (p := ⟨w.heap.size, 1, none⟩) (.inr (Nat.le_refl _)) (.bool false)).setCell (p := ⟨w.heap.size, 2, none⟩) (.inr (Nat.le_refl _)) (.int .i64 0)
  refine door_unlock p.m _ (by rw [cell_of h2.m]; rfl) (by rw [frozen_of h2.m]) (res16 w.heap.size _ _ _ _ rfl rfl ?_ ?_ ?_) ⟨rfl, h2.lock 0, k2.setCell (.inl (by simp)) _⟩
  all_goals (rw [cell_of (block_set_ne hr2 (by omega) _ _)]; rfl)
set_option maxHeartbeats 800000 in
theorem step_load (p : PM) (i : Int) (w : World) (th : Nat → Option (Int × Int × Int)) (h : PAt p 0 w false th) (h0 : 0 ≤ i) (hi : i < p.ts.length) {k v o : Int} (hth : th i.toNat = some (k, v, o)) (hk0 : 0 ≤ k) (hk7 : k < 8) :
    Calls Tryz.prog 17 #[.pointer (some ⟨p.m, 0, none⟩), .int .i64 i] w fun e w' => e = .returned (.tuple #[.agg #[.bool true, .bool false, .int .i64 0], .int .i64 0]) ∧ PAt p 0 w' false (upd th i.toNat none) ∧ Kept (p.m :: p.ts) w w' := by
  have hcap := h.cap
  have hs := lt_of_block h.m
  have h1 := (h.alloc (.cells #[.bool false, .bool false, .int .i64 0] 52)).lock 1
  have k1 : Kept [p.m] w ((w.alloc (.cells #[.bool false, .bool false, .int .i64 0] 52)).setCell ⟨p.m, 0, none⟩ (.int .i32 1)) := ((Kept.refl _ w).alloc _).setCell (.inl (by simp)) _
  have hr : ((w.alloc (.cells #[.bool false, .bool false, .int .i64 0] 52)).setCell ⟨p.m, 0, none⟩ (.int .i32 1)).heap[w.heap.size]? = some (.cells #[.bool false, .bool false, .int .i64 0] 52 (0, 0)) :=
    block_set_ne (block_alloc_new _ _) (by omega) _ _
  go_enter_defers Tryz.func17, Tryz.ntmps17
  go_wp2_with fail
  refine (lock_free Tryz.muLib ⟨p.m, 0, none⟩ _ ?_ ?_).mono ?_
  · rw [cell_of (h.alloc _).m]; rfl
  · rw [frozen_of (h.alloc _).m]
  rintro e w' ⟨rfl, rfl⟩
  generalize ((w.alloc (.cells #[.bool false, .bool false, .int .i64 0] 52)).setCell ⟨p.m, 0, none⟩ (.int .i32 1)) = W at *
  go_wp2_with fail
  refine (isClosed_no p.m p.c 0 0 _ (by rw [cell_of h1.m]; rfl) h1.c).mono ?_
  rintro e w' ⟨rfl, rfl⟩
  go_wp2_with fail
  refine (hasThread_yes p.m (some ⟨p.tb, 0, none⟩) p.ts.length p.cap i _ (by rw [cell_of h1.m]; rfl) h0 hi).mono ?_
  rintro e w' ⟨rfl, rfl⟩
  obtain ⟨t, ht, hct, hbt⟩ := h1.nth (i := i.toNat) (by omega)
  have c4 : w'.cell? ⟨p.m, 4, none⟩ = some (.slice (some ⟨p.tb, 0, none⟩) p.ts.length p.cap) := cell_of h1.m 4
  have HT : Hid _ := hth
  have HP : Hid _ := ht
  clear hth ht
  go_wp2_with fail
  refine (tstep_load i.toNat p.s t k v o _ (by rw [← HT.out]; exact hbt) h1.s hk0 hk7).mono ?_
  rintro e w2 ⟨rfl, hb2, k2⟩
  have hne := ne_of_blocks hr hbt (by simp)
  replace hr := k2.at hr (by simpa using hne)
  replace h1 := h1.thread HP.out none hb2 k2
  replace k1 : Kept (p.m :: p.ts) w w2 := (k1.mono (by simp)).trans (k2.mono (fun x hx => by cases List.mem_singleton.1 hx; exact List.mem_cons_of_mem _ (List.mem_of_getElem? HP.out)))
  have hc2 : ∀ o, w2.cell? ⟨w.heap.size, o, none⟩ = #[.bool false, .bool false, .int .i64 0][o]? := cell_of hr
  have hf2 : ∀ o, w2.frozen? ⟨w.heap.size, o, none⟩ = false := frozen_of hr
  clear c4 hct
  go_wp2
  have hr2 := block_set_same (block_set_same (block_set_same hr 0 (.bool true)) 1 (.bool false)) 2 (.int .i64 0)
  have h2 := ((h1.set hr (by decide) (by decide) (by decide) (by decide) 0 (.bool true)).set (block_set_same hr 0 _) (by decide) (by decide) (by decide) (by decide) 1 (.bool false)).set (block_set_same (block_set_same hr 0 _) 1 _) (by decide) (by decide) (by decide) (by decide) 2 (.int .i64 0)
  have k2 := ((k1.setCell (p := ⟨w.heap.size, 0, none⟩) (.inr (Nat.le_refl _)) (.bool true)).setCell (p := ⟨w.heap.size, 1, none⟩) (.inr (Nat.le_refl _)) (.bool false)).setCell (p := ⟨w.heap.size, 2, none⟩) (.inr (Nat.le_refl _)) (.int .i64 0)
  refine door_unlock p.m _ (by rw [cell_of h2.m]; rfl) (by rw [frozen_of h2.m]) (res16 w.heap.size _ _ _ _ rfl rfl ?_ ?_ ?_) ⟨rfl, h2.lock 0, k2.setCell (.inl (by simp)) _⟩
  all_goals (rw [cell_of (block_set_ne hr2 (by omega) _ _)]; rfl)
end Go.Proofs.YtfgfpggjcfhccaaGreat
namespace Go.Proofs.YtfgfpggjcfhccaaGreat
open Go.RowKit

/-- Where a map of the document's answer lies. -/
structure RM where
  r : Nat
  tb : Nat
  n : Nat

def rCells (q : RM) (cl : Bool) : Array Value :=
  #[.slice none 0 0, .int .i64 (-1), .int .i64 (-1), .int .i64 (-1), .int .i64 (-1), .int .i64 (-1), .int .i64 (-1), .int .i64 (-1), .int .i64 (-1), .bool false, .bool false,
    .int .i64 (-1), .int .i64 (-1), .int .i64 (-1), .int .i64 (-1), .int .i64 (-1), .int .i64 (-1), .int .i64 (-1), .int .i64 (-1), .int .i64 0, .int .i64 (-1), .bool cl, .slice (some ⟨q.tb, 0, none⟩) q.n q.n]

def rThread (cs : Array Value) (i : Nat) : Option (Int × Int × Int) → Prop
  | none => cs[i * 9 + 4]? = some (.int .i64 0)
  | some (k, v, o) => cs[i * 9]? = some (.int .i64 0) ∧ cs[i * 9 + 1]? = some (.int .i64 k) ∧ cs[i * 9 + 2]? = some (.int .i64 v) ∧ cs[i * 9 + 3]? = some (.int .i64 o) ∧ cs[i * 9 + 4]? = some (.int .i64 1)

structure RAt (q : RM) (w : World) (cl : Bool) (th : Nat → Option (Int × Int × Int)) : Prop where
  len : q.n ≤ 6
  r : w.heap[q.r]? = some (.cells (rCells q cl) 59 (0, 0))
  tb : ∃ cs : Array Value, w.heap[q.tb]? = some (.cells cs 90 (0, 0)) ∧ cs.size = q.n * 9 ∧ ∀ i : Nat, i < q.n → rThread cs i (th i)

theorem RAt.kept {q : RM} {w w' : World} {cl : Bool} {th : Nat → Option (Int × Int × Int)} {F : List Nat} (h : RAt q w cl th) (k : Kept F w w') (h1 : q.r ∉ F) (h2 : q.tb ∉ F) : RAt q w' cl th := by
  obtain ⟨cs, g1, g2⟩ := h.tb
  exact ⟨h.len, k.at h.r h1, cs, k.at g1 h2, g2⟩
theorem RAt.keptNil {q : RM} {w w' : World} {cl : Bool} {th : Nat → Option (Int × Int × Int)} (h : RAt q w cl th) (k : Kept [] w w') : RAt q w' cl th := h.kept k (by simp) (by simp)
theorem RAt.alloc {q : RM} {w : World} {cl : Bool} {th : Nat → Option (Int × Int × Int)} (h : RAt q w cl th) (o : Obj) : RAt q (w.alloc o) cl th := h.keptNil ((Kept.refl [] w).alloc o)
theorem RAt.drew {q : RM} {w : World} {cl : Bool} {th : Nat → Option (Int × Int × Int)} (h : RAt q w cl th) : RAt q w.drew cl th := h.keptNil (Kept.refl [] w).drew

def zres : Value := .agg #[.bool false, .bool false, .int .i64 0]
set_option maxRecDepth 100000 in
set_option maxHeartbeats 800000 in
theorem rstep_closed (q : RM) (i : Int) (w : World) (th : Nat → Option (Int × Int × Int)) (h : RAt q w true th) :
    Calls Tryz.prog 18 #[.pointer (some ⟨q.r, 0, none⟩), .int .i64 i] w fun e w' => e = .returned (.tuple #[.agg #[.bool false, .bool false, .int .i64 0], .int .i64 5]) ∧ Kept [] w w' := by
  have hs := lt_of_block h.r
  have hc : w.cell? ⟨q.r, 21, none⟩ = some (.bool true) := cell_of h.r 21
  go_enter Tryz.func18, Tryz.ntmps18
  go_wp2
  exact bodyPost_ret (v := .tuple #[.agg #[.bool false, .bool false, .int .i64 0], .int .i64 5]) (by simp [results, Tryz.results18, go_sem]) rfl ⟨rfl, (Kept.refl [] w).alloc _⟩
set_option maxRecDepth 100000 in
set_option maxHeartbeats 800000 in
theorem rstep_arg (q : RM) (i : Int) (w : World) (th : Nat → Option (Int × Int × Int)) (h : RAt q w false th) (hi : i < 0 ∨ (q.n : Int) ≤ i) :
    Calls Tryz.prog 18 #[.pointer (some ⟨q.r, 0, none⟩), .int .i64 i] w fun e w' => e = .returned (.tuple #[.agg #[.bool false, .bool false, .int .i64 0], .int .i64 1]) ∧ Kept [] w w' := by
  have hs := lt_of_block h.r
  have hc : w.cell? ⟨q.r, 21, none⟩ = some (.bool false) := cell_of h.r 21
  have hc2 : w.cell? ⟨q.r, 22, none⟩ = some (.slice (some ⟨q.tb, 0, none⟩) q.n q.n) := cell_of h.r 22
  by_cases h0 : i < 0
  · clear hi
    go_enter Tryz.func18, Tryz.ntmps18
    go_wp2
    exact bodyPost_ret (v := .tuple #[.agg #[.bool false, .bool false, .int .i64 0], .int .i64 1]) (by simp [results, Tryz.results18, go_sem]) rfl ⟨rfl, (Kept.refl [] w).alloc _⟩
  · have hi2 : (q.n : Int) ≤ i := by omega
    clear hi
    go_enter Tryz.func18, Tryz.ntmps18
    go_wp2
    exact bodyPost_ret (v := .tuple #[.agg #[.bool false, .bool false, .int .i64 0], .int .i64 1]) (by simp [results, Tryz.results18, go_sem]) rfl ⟨rfl, (Kept.refl [] w).alloc _⟩
set_option maxRecDepth 100000 in
set_option maxHeartbeats 800000 in
theorem rstep_idle (q : RM) (i : Int) (w : World) (th : Nat → Option (Int × Int × Int)) (h : RAt q w false th) (h0 : 0 ≤ i) (hi : i < q.n) (hth : th i.toNat = none) :
    Calls Tryz.prog 18 #[.pointer (some ⟨q.r, 0, none⟩), .int .i64 i] w fun e w' => e = .returned (.tuple #[.agg #[.bool false, .bool false, .int .i64 0], .int .i64 3]) ∧ Kept [] w w' := by
  have hs := lt_of_block h.r
  have hc : w.cell? ⟨q.r, 21, none⟩ = some (.bool false) := cell_of h.r 21
  have hc2 : w.cell? ⟨q.r, 22, none⟩ = some (.slice (some ⟨q.tb, 0, none⟩) q.n q.n) := cell_of h.r 22
  obtain ⟨cs, g1, g2, g3⟩ := h.tb
  have g4 := g3 i.toNat (by omega)
  rw [hth] at g4
  have hc3 : w.cell? ⟨q.tb, i.toNat * 9 + 4, none⟩ = some (.int .i64 0) := by rw [cell_of g1]; exact g4
  have ht := lt_of_block g1
  clear hth g3 g4 g2
  go_enter Tryz.func18, Tryz.ntmps18
  go_wp2
  exact bodyPost_ret (v := .tuple #[.agg #[.bool false, .bool false, .int .i64 0], .int .i64 3]) (by simp [results, Tryz.results18, go_sem]) rfl ⟨rfl, (Kept.refl [] w).alloc _⟩
end Go.Proofs.YtfgfpggjcfhccaaGreat
namespace Go.Proofs.YtfgfpggjcfhccaaGreat
open Go.RowKit
set_option maxRecDepth 100000 in
set_option maxHeartbeats 800000 in
theorem rends (tb off : Nat) (f : Bool) (v : Int) (cs : Array Value) (w : World) (h : w.heap[tb]? = some (.cells cs 90 (0, 0))) {x : Value} (hx : cs[off + 4]? = some x) :
    Calls Tryz.prog 56 #[.pointer (some ⟨tb, off, none⟩), .bool f, .int .i64 v] w fun e w' => e = .returned (.agg #[.bool true, .bool f, .int .i64 v]) ∧
      w'.heap[tb]? = some (.cells (cs.setIfInBounds (off + 4) (.int .i64 0)) 90 (0, 0)) ∧ Kept [tb] w w' := by
  have hs := lt_of_block h
  have hc : w.cell? ⟨tb, off + 4, none⟩ = some x := by rw [cell_of h]; exact hx
  have hf : ∀ o, w.frozen? ⟨tb, o, none⟩ = false := frozen_of h
  have HX : Hid _ := hx
  clear hx
  go_enter Tryz.func56, Tryz.ntmps56
  go_wp2
  refine bodyPost_ret (v := .agg #[.bool true, .bool f, .int .i64 v]) (by simp [results, Tryz.results56, go_sem]) rfl ⟨rfl, ?_, ?_⟩
  · exact block_alloc_lt (block_set_same h _ _) _
  · exact ((Kept.refl _ w).setCell (.inl (by simp)) _).alloc _
theorem nth_neg (k : Int) (hk0 : 0 ≤ k) (hk7 : k < 8) (q : RM) (cl : Bool) : (rCells q cl)[1 + k.toNat]? = some (.int .i64 (-1)) := by
  obtain ⟨n, rfl⟩ := Int.eq_ofNat_of_zero_le hk0
  have hn : n < 8 := by omega
  simp only [Int.toNat_natCast]
  match n, hn with
  | 0, _ | 1, _ | 2, _ | 3, _ | 4, _ | 5, _ | 6, _ | 7, _ => rfl
set_option maxRecDepth 100000 in
set_option maxHeartbeats 800000 in
theorem rfirst (q : RM) (off : Nat) (k : Int) (cs : Array Value) (w : World) (hr : w.heap[q.r]? = some (.cells (rCells q false) 59 (0, 0))) (h : w.heap[q.tb]? = some (.cells cs 90 (0, 0)))
    (h1 : cs[off + 1]? = some (.int .i64 k)) {x y : Value} (h4 : cs[off + 4]? = some x) (h5 : cs[off + 5]? = some y) (hk0 : 0 ≤ k) (hk7 : k < 8) :
    Calls Tryz.prog 51 #[.pointer (some ⟨q.r, 0, none⟩), .pointer (some ⟨q.tb, off, none⟩), .int .i64 7] w fun e w' => e = .returned (.agg #[.bool true, .bool false, .int .i64 0]) ∧
      w'.heap[q.tb]? = some (.cells ((cs.setIfInBounds (off + 5) (.int .i64 (-1))).setIfInBounds (off + 4) (.int .i64 0)) 90 (0, 0)) ∧ Kept [q.tb] w w' := by
  have hs := lt_of_block h
  have hsr := lt_of_block hr
  have hne := ne_of_blocks hr h (by simp)
  have c1 : w.cell? ⟨q.tb, off + 1, none⟩ = some (.int .i64 k) := by rw [cell_of h]; exact h1
  have c5 : w.cell? ⟨q.tb, off + 5, none⟩ = some y := by rw [cell_of h]; exact h5
  have ck : w.cell? ⟨q.r, 1 + k.toNat, none⟩ = some (.int .i64 (-1)) := by rw [cell_of hr]; exact nth_neg k hk0 hk7 q false
  have c9 : w.cell? ⟨q.r, 9, none⟩ = some (.bool false) := cell_of hr 9
  have hf : ∀ o, w.frozen? ⟨q.tb, o, none⟩ = false := frozen_of h
  have H4 : Hid _ := h4
  clear h1 h4 h5
  go_enter Tryz.func51, Tryz.ntmps51
  go_wp2
  go_region
  go_wp2_with fail
  have hb1 : (((w.setCell ⟨q.tb, off + 5, none⟩ (.int .i64 (-1))).alloc (.cells #[.bool false, .bool false, .int .i64 0] 52)).drew).heap[q.tb]? = some (.cells (cs.setIfInBounds (off + 5) (.int .i64 (-1))) 90 (0, 0)) :=
    block_alloc_lt (block_set_same h _ _) _
  have hr1 : (((w.setCell ⟨q.tb, off + 5, none⟩ (.int .i64 (-1))).alloc (.cells #[.bool false, .bool false, .int .i64 0] 52)).drew).heap[w.heap.size]? = some (.cells #[.bool false, .bool false, .int .i64 0] 52 (0, 0)) := by
    have := block_alloc_new (w.setCell ⟨q.tb, off + 5, none⟩ (.int .i64 (-1))) (.cells #[.bool false, .bool false, .int .i64 0] 52)
    rw [show (w.setCell ⟨q.tb, off + 5, none⟩ (.int .i64 (-1))).heap.size = w.heap.size by simp [World.setCell]] at this
    exact this
  have k1 : Kept [q.tb] w ((w.setCell ⟨q.tb, off + 5, none⟩ (.int .i64 (-1))).alloc (.cells #[.bool false, .bool false, .int .i64 0] 52)).drew :=
    (((Kept.refl _ w).setCell (.inl (by simp)) _).alloc _).drew
  refine (rends q.tb off false 0 (cs.setIfInBounds (off + 5) (.int .i64 (-1))) _ hb1 (x := x) (by rw [Array.getElem?_setIfInBounds_ne (by omega)]; exact H4.out)).mono ?_
  rintro e w2 ⟨rfl, h2, k2⟩
  have r2 := k2.at hr1 (by simp; omega)
  have hc2 : ∀ o, w2.cell? ⟨w.heap.size, o, none⟩ = #[.bool false, .bool false, .int .i64 0][o]? := cell_of r2
  have hf2 : ∀ o, w2.frozen? ⟨w.heap.size, o, none⟩ = false := frozen_of r2
  replace k1 := k1.trans k2
  clear c1 c5 ck c9 hf hb1 hr1 k2
  go_wp2
  have hr3 := block_set_same (block_set_same (block_set_same r2 0 (.bool true)) 1 (.bool false)) 2 (.int .i64 0)
  refine bodyPost_ret (v := .agg #[.bool true, .bool false, .int .i64 0]) (by simp [results, Tryz.results51, go_sem, cell_of hr3]) rfl ⟨rfl, ?_, ?_⟩
  · exact block_set_ne (block_set_ne (block_set_ne h2 (by omega) _ _) (by omega) _ _) (by omega) _ _
  · exact ((k1.setCell (.inr (by simp)) _).setCell (.inr (by simp)) _).setCell (.inr (by simp)) _
set_option maxRecDepth 100000 in
set_option maxHeartbeats 800000 in
theorem rload (q : RM) (off : Nat) (k : Int) (cs : Array Value) (w : World) (hr : w.heap[q.r]? = some (.cells (rCells q false) 59 (0, 0))) (h : w.heap[q.tb]? = some (.cells cs 90 (0, 0)))
    (h1 : cs[off + 1]? = some (.int .i64 k)) {y : Value} (h4 : cs[off + 4]? = some (.int .i64 1)) (h5 : cs[off + 5]? = some y) (hk0 : 0 ≤ k) (hk7 : k < 8) :
    Calls Tryz.prog 35 #[.pointer (some ⟨q.r, 0, none⟩), .pointer (some ⟨q.tb, off, none⟩)] w fun e w' => e = .returned (.agg #[.bool true, .bool false, .int .i64 0]) ∧
      w'.heap[q.tb]? = some (.cells ((cs.setIfInBounds (off + 5) (.int .i64 (-1))).setIfInBounds (off + 4) (.int .i64 0)) 90 (0, 0)) ∧ Kept [q.tb] w w' := by
  have hs := lt_of_block h
  have hsr := lt_of_block hr
  have c4 : w.cell? ⟨q.tb, off + 4, none⟩ = some (.int .i64 1) := by rw [cell_of h]; exact h4
  have H1 : Hid _ := h1
  have H4 : Hid _ := h4
  have H5 : Hid _ := h5
  clear h1 h4 h5
  go_enter Tryz.func35, Tryz.ntmps35
  go_wp2_with fail
  refine (rfirst q off k cs _ (block_alloc_lt hr _) (block_alloc_lt h _) H1.out H4.out H5.out hk0 hk7).mono ?_
  rintro e w2 ⟨rfl, h2, k2⟩
  have r2 := k2.at (block_alloc_new _ _) (by simp; omega)
  have hc2 : ∀ o, w2.cell? ⟨w.heap.size, o, none⟩ = #[.bool false, .bool false, .int .i64 0][o]? := cell_of r2
  have hf2 : ∀ o, w2.frozen? ⟨w.heap.size, o, none⟩ = false := frozen_of r2
  have k1 := ((Kept.refl [q.tb] w).alloc (.cells #[.bool false, .bool false, .int .i64 0] 52)).trans k2
  clear k2 c4
  go_wp2
  have hr3 := block_set_same (block_set_same (block_set_same r2 0 (.bool true)) 1 (.bool false)) 2 (.int .i64 0)
  refine bodyPost_ret (v := .agg #[.bool true, .bool false, .int .i64 0]) (by simp [results, Tryz.results35, go_sem, cell_of hr3]) rfl ⟨rfl, ?_, ?_⟩
  · exact block_set_ne (block_set_ne (block_set_ne h2 (by omega) _ _) (by omega) _ _) (by omega) _ _
  · exact ((k1.setCell (.inr (by simp)) _).setCell (.inr (by simp)) _).setCell (.inr (by simp)) _
theorem rThread_keep {cs : Array Value} {i j a : Nat} {x : Option (Int × Int × Int)} (v : Value) (h : rThread cs j x) (hne : j ≠ i) (ha : a < 9) : rThread (cs.setIfInBounds (i * 9 + a) v) j x := by
  rcases x with _ | ⟨k, v', o⟩
  · simp only [rThread] at h ⊢
    rw [Array.getElem?_setIfInBounds_ne (by omega)]; exact h
  · simp only [rThread] at h ⊢
    rw [Array.getElem?_setIfInBounds_ne (by omega), Array.getElem?_setIfInBounds_ne (by omega), Array.getElem?_setIfInBounds_ne (by omega), Array.getElem?_setIfInBounds_ne (by omega), Array.getElem?_setIfInBounds_ne (by omega)]; exact h
set_option maxRecDepth 100000 in
set_option maxHeartbeats 800000 in
theorem rstep_load (q : RM) (i : Int) (w : World) (th : Nat → Option (Int × Int × Int)) (h : RAt q w false th) (h0 : 0 ≤ i) (hi : i < q.n) {k v o : Int} (hth : th i.toNat = some (k, v, o)) (hk0 : 0 ≤ k) (hk7 : k < 8) :
    Calls Tryz.prog 18 #[.pointer (some ⟨q.r, 0, none⟩), .int .i64 i] w fun e w' => e = .returned (.tuple #[.agg #[.bool true, .bool false, .int .i64 0], .int .i64 0]) ∧ RAt q w' false (upd th i.toNat none) ∧ Kept [q.tb] w w' := by
  have hs := lt_of_block h.r
  have hc : w.cell? ⟨q.r, 21, none⟩ = some (.bool false) := cell_of h.r 21
  have hc2 : w.cell? ⟨q.r, 22, none⟩ = some (.slice (some ⟨q.tb, 0, none⟩) q.n q.n) := cell_of h.r 22
  obtain ⟨cs, g1, g2, g3⟩ := h.tb
  have g4 := g3 i.toNat (by omega)
  rw [hth] at g4
  simp only [rThread] at g4
  obtain ⟨e0, e1, _, _, e4⟩ := g4
  have hsz : i.toNat * 9 + 8 < cs.size := by omega
  obtain ⟨y, e5⟩ : ∃ y, cs[i.toNat * 9 + 5]? = some y := ⟨_, Array.getElem?_eq_getElem (by omega)⟩
  have ht := lt_of_block g1
  have c0 : w.cell? ⟨q.tb, i.toNat * 9, none⟩ = some (.int .i64 0) := by rw [cell_of g1]; exact e0
  have c4 : w.cell? ⟨q.tb, i.toNat * 9 + 4, none⟩ = some (.int .i64 1) := by rw [cell_of g1]; exact e4
  have hrb := h.r
  have HH : Hid _ := h
  have E1 : Hid _ := e1
  have E4 : Hid _ := e4
  have E5 : Hid _ := e5
  have G3 : Hid _ := g3
  have G2 : Hid _ := g2
  clear hth g3 g2 e0 e1 e4 e5 h hsz
  go_enter Tryz.func18, Tryz.ntmps18
  go_wp2_with fail
  refine (rload q (i.toNat * 9) k cs _ (block_alloc_lt hrb _) (block_alloc_lt g1 _) E1.out E4.out E5.out hk0 hk7).mono ?_
  rintro e w2 ⟨rfl, h2, k2⟩
  have r2 := k2.at (block_alloc_new _ _) (by simp; omega)
  have b2 := k2.at (block_alloc_lt hrb _) (by simpa using ne_of_blocks hrb g1 (by simp))
  have hc3 : ∀ o, w2.cell? ⟨w.heap.size, o, none⟩ = #[.bool false, .bool false, .int .i64 0][o]? := cell_of r2
  have hf3 : ∀ o, w2.frozen? ⟨w.heap.size, o, none⟩ = false := frozen_of r2
  have k1 := ((Kept.refl [q.tb] w).alloc (.cells #[.bool false, .bool false, .int .i64 0] 52)).trans k2
  clear k2 c4 c0 hc hc2
  go_wp2
  have hr3 := block_set_same (block_set_same (block_set_same r2 0 (.bool true)) 1 (.bool false)) 2 (.int .i64 0)
  refine bodyPost_ret (v := .tuple #[.agg #[.bool true, .bool false, .int .i64 0], .int .i64 0]) (by simp [results, Tryz.results18, go_sem, cell_of hr3]) rfl ⟨rfl, ⟨HH.out.len, ?_, _, block_set_ne (block_set_ne (block_set_ne h2 (by omega) _ _) (by omega) _ _) (by omega) _ _, ?_, fun j hj => ?_⟩, ?_⟩
  · exact block_set_ne (block_set_ne (block_set_ne b2 (by omega) _ _) (by omega) _ _) (by omega) _ _
  · have := G2.out; simpa using this
  · by_cases hji : j = i.toNat
    · subst hji
      have := G2.out
      simp only [upd, if_true, rThread]
      rw [Array.getElem?_setIfInBounds_self_of_lt]
      simp; omega
    · simp only [upd, hji, if_false]
      exact rThread_keep _ (rThread_keep _ (G3.out j hj) hji (by omega)) hji (by omega)
  · exact ((k1.setCell (.inr (by simp)) _).setCell (.inr (by simp)) _).setCell (.inr (by simp)) _
end Go.Proofs.YtfgfpggjcfhccaaGreat
namespace Go.Proofs.YtfgfpggjcfhccaaGreat
open Go.RowKit
set_option maxHeartbeats 400000 in
theorem same0 (a b : Option Addr) (c d : Nat) (w : World) : Calls Tryz.prog 14 #[.slice a 0 c, .slice b 0 d] w fun e w' => e = .returned (.bool true) ∧ w' = w := by
  go_enter Tryz.func14, Tryz.ntmps14
  go_wp2
  go_loop [5] (fun i => i = .int .i64 0) (fun _ => 0)
  case atStart => rfl
  case round =>
    subst hrel
    go_wp2
    go_ret
    exact ⟨rfl, rfl⟩
def negTbl : Value := .agg #[.int .i64 (-1), .int .i64 (-1), .int .i64 (-1), .int .i64 (-1), .int .i64 (-1), .int .i64 (-1), .int .i64 (-1), .int .i64 (-1)]
theorem nth_neg8 (k : Nat) (h : k < [Value.int .i64 (-1), .int .i64 (-1), .int .i64 (-1), .int .i64 (-1), .int .i64 (-1), .int .i64 (-1), .int .i64 (-1), .int .i64 (-1)].length) : [Value.int .i64 (-1), .int .i64 (-1), .int .i64 (-1), .int .i64 (-1), .int .i64 (-1), .int .i64 (-1), .int .i64 (-1), .int .i64 (-1)][k]'h = .int .i64 (-1) := by
  match k, h with
  | 0, _ | 1, _ | 2, _ | 3, _ | 4, _ | 5, _ | 6, _ | 7, _ => rfl
set_option maxRecDepth 100000 in
set_option maxHeartbeats 800000 in
theorem entries0 (r : Option Addr) (w : World) : Calls Tryz.prog 28 #[.pointer r, negTbl] w fun e w' => e = .returned (.slice none 0 0) ∧ Kept [] w w' := by
  simp only [negTbl]
  go_enter Tryz.func28, Tryz.ntmps28
  go_wp2
  go_loop [5, 6] (fun x i => ∃ k : Nat, k ≤ 8 ∧ i = .int .i64 k ∧ x = .slice none 0 0) (fun _ i => 8 - (intOf i).toNat)
  case atStart => exact ⟨0, by omega, rfl, rfl⟩
  case round =>
    obtain ⟨k, hk, rfl, rfl⟩ := hrel
    by_cases hlt : k < 8
    · have hn := nth_neg8 k
      have hlt' : (k : Int) < 8 := by omega
      go_wp2
      go_round
      case rel => exact ⟨k + 1, by omega, by go_num, rfl⟩
      case measure => simp [intOf]; omega
    · go_wp2
      go_ret
      exact ⟨rfl, (Kept.refl [] w).alloc _⟩
end Go.Proofs.YtfgfpggjcfhccaaGreat
namespace Go.Proofs.YtfgfpggjcfhccaaGreat
open Go.RowKit
theorem five (w : World) (o0 o1 o2 o3 o4 : Obj) :
    (((((w.alloc o0).alloc o1).alloc o2).alloc o3).alloc o4).drew.heap[w.heap.size]? = some o0 ∧
    (((((w.alloc o0).alloc o1).alloc o2).alloc o3).alloc o4).drew.heap[w.heap.size + 1]? = some o1 ∧
    (((((w.alloc o0).alloc o1).alloc o2).alloc o3).alloc o4).drew.heap[w.heap.size + 1 + 1]? = some o2 ∧
    (((((w.alloc o0).alloc o1).alloc o2).alloc o3).alloc o4).drew.heap[w.heap.size + 1 + 1 + 1]? = some o3 ∧
    (((((w.alloc o0).alloc o1).alloc o2).alloc o3).alloc o4).drew.heap[w.heap.size + 1 + 1 + 1 + 1]? = some o4 := by
  have e0 := block_alloc_new w o0
  have e1 := block_alloc_new (w.alloc o0) o1
  have e2 := block_alloc_new ((w.alloc o0).alloc o1) o2
  have e3 := block_alloc_new (((w.alloc o0).alloc o1).alloc o2) o3
  have e4 := block_alloc_new ((((w.alloc o0).alloc o1).alloc o2).alloc o3) o4
  simp only [World.size_alloc] at e1 e2 e3 e4
  exact ⟨block_alloc_lt (block_alloc_lt (block_alloc_lt (block_alloc_lt e0 _) _) _) _, block_alloc_lt (block_alloc_lt (block_alloc_lt e1 _) _) _, block_alloc_lt (block_alloc_lt e2 _) _, block_alloc_lt e3 _, e4⟩
theorem lt_of_cell {w : World} {b o : Nat} {v : Value} (h : w.cell? ⟨b, o, none⟩ = some v) : b < w.heap.size := by
  rcases Nat.lt_or_ge b w.heap.size with h' | h'
  · exact h'
  · simp [World.cell?, Array.getElem?_eq_none h'] at h
def tblVal : Value := .agg #[.pointer none, .pointer none, .pointer none, .pointer none, .pointer none, .pointer none, .pointer none, .pointer none]
theorem nth_nil8 (k : Nat) (hk7 : k < 8) : #[Value.pointer none, .pointer none, .pointer none, .pointer none, .pointer none, .pointer none, .pointer none, .pointer none][k]? = some (.pointer none) := by
  match k, hk7 with
  | 0, _ | 1, _ | 2, _ | 3, _ | 4, _ | 5, _ | 6, _ | 7, _ => rfl
theorem idx_nil0 (w : World) : Sem.run Tryz.prog (Instr.index 99 (Value.agg #[Value.pointer none, .pointer none, .pointer none, .pointer none, .pointer none, .pointer none, .pointer none, .pointer none]) (Value.int IntKind.i64 (((0 : Nat) : Int)))) w = .ok (.pointer none) w := by kernel_rfl
theorem idx_nil1 (w : World) : Sem.run Tryz.prog (Instr.index 99 (Value.agg #[Value.pointer none, .pointer none, .pointer none, .pointer none, .pointer none, .pointer none, .pointer none, .pointer none]) (Value.int IntKind.i64 (((1 : Nat) : Int)))) w = .ok (.pointer none) w := by kernel_rfl
theorem idx_nil2 (w : World) : Sem.run Tryz.prog (Instr.index 99 (Value.agg #[Value.pointer none, .pointer none, .pointer none, .pointer none, .pointer none, .pointer none, .pointer none, .pointer none]) (Value.int IntKind.i64 (((2 : Nat) : Int)))) w = .ok (.pointer none) w := by kernel_rfl
theorem idx_nil3 (w : World) : Sem.run Tryz.prog (Instr.index 99 (Value.agg #[Value.pointer none, .pointer none, .pointer none, .pointer none, .pointer none, .pointer none, .pointer none, .pointer none]) (Value.int IntKind.i64 (((3 : Nat) : Int)))) w = .ok (.pointer none) w := by kernel_rfl
theorem idx_nil4 (w : World) : Sem.run Tryz.prog (Instr.index 99 (Value.agg #[Value.pointer none, .pointer none, .pointer none, .pointer none, .pointer none, .pointer none, .pointer none, .pointer none]) (Value.int IntKind.i64 (((4 : Nat) : Int)))) w = .ok (.pointer none) w := by kernel_rfl
theorem idx_nil5 (w : World) : Sem.run Tryz.prog (Instr.index 99 (Value.agg #[Value.pointer none, .pointer none, .pointer none, .pointer none, .pointer none, .pointer none, .pointer none, .pointer none]) (Value.int IntKind.i64 (((5 : Nat) : Int)))) w = .ok (.pointer none) w := by kernel_rfl
theorem idx_nil6 (w : World) : Sem.run Tryz.prog (Instr.index 99 (Value.agg #[Value.pointer none, .pointer none, .pointer none, .pointer none, .pointer none, .pointer none, .pointer none, .pointer none]) (Value.int IntKind.i64 (((6 : Nat) : Int)))) w = .ok (.pointer none) w := by kernel_rfl
theorem idx_nil7 (w : World) : Sem.run Tryz.prog (Instr.index 99 (Value.agg #[Value.pointer none, .pointer none, .pointer none, .pointer none, .pointer none, .pointer none, .pointer none, .pointer none]) (Value.int IntKind.i64 (((7 : Nat) : Int)))) w = .ok (.pointer none) w := by kernel_rfl
theorem idx_nil (k : Nat) (hk : k < 8) (w : World) : Sem.run Tryz.prog (Instr.index 99 (Value.agg #[Value.pointer none, .pointer none, .pointer none, .pointer none, .pointer none, .pointer none, .pointer none, .pointer none]) (Value.int IntKind.i64 k)) w = .ok (.pointer none) w := by
  have h : k = 0 ∨ k = 1 ∨ k = 2 ∨ k = 3 ∨ k = 4 ∨ k = 5 ∨ k = 6 ∨ k = 7 := by omega
  rcases h with rfl | rfl | rfl | rfl | rfl | rfl | rfl | rfl
  · exact idx_nil0 w
  · exact idx_nil1 w
  · exact idx_nil2 w
  · exact idx_nil3 w
  · exact idx_nil4 w
  · exact idx_nil5 w
  · exact idx_nil6 w
  · exact idx_nil7 w
set_option maxRecDepth 100000 in
set_option maxHeartbeats 800000 in
theorem count0 (w : World) : Calls Tryz.prog 66 #[tblVal] w fun e w' => e = .returned (.int .i64 0) ∧ w' = w.alloc (.cells #[.pointer none, .pointer none, .pointer none, .pointer none, .pointer none, .pointer none, .pointer none, .pointer none] 99) := by
  simp only [tblVal]
  go_enter Tryz.func66, Tryz.ntmps66
  go_wp2
  go_loop [3, 7] (fun n i => ∃ k : Nat, k ≤ 8 ∧ i = .int .i64 k ∧ n = .int .i64 0) (fun _ i => 8 - (intOf i).toNat)
  case atStart => exact ⟨0, by omega, rfl, rfl⟩
  case round =>
    obtain ⟨k, hk, rfl, rfl⟩ := hrel
    by_cases hlt : k < 8
    · have hn := idx_nil k hlt
      go_wp2
      go_round
      case rel => exact ⟨k + 1, by omega, by go_num, rfl⟩
      case measure => simp [intOf]; omega
    · go_wp2
      go_ret
      exact ⟨rfl, rfl⟩
theorem info84 : ∃ i, Tryz.prog.info? 84 = some i ∧ i.bytes = 24 ∧ i.size = 3 ∧ i.zero = some (.agg #[.int .i64 0, .int .i64 0, .int .i64 0]) := by
  have h : (Tryz.prog.info? 84).map (fun i => (i.bytes, i.size, i.zero)) = some (24, 3, some (.agg #[.int .i64 0, .int .i64 0, .int .i64 0])) := by kernel_rfl
  obtain ⟨i, hi, hb⟩ := Option.map_eq_some_iff.1 h
  simp only [Prod.mk.injEq] at hb
  exact ⟨i, hi, hb.1, hb.2.1, hb.2.2⟩
theorem mk_entries (w : World) : Sem.run Tryz.prog (Instr.makeSlice 25 (.int .i64 0) (.int .i64 0)) w = .ok (.slice (some ⟨w.heap.size, 0, none⟩) 0 0) (w.alloc (.cells #[] 84)) := by
  obtain ⟨i, hi, hb, hs, hz⟩ := info84
  have := run_make (P := Tryz.prog) w 25 84 i _ Tryz.underlying25 hi hz .i64 .i64 0 0 (by omega) (by omega) (by rw [hb]; omega) (by omega)
  rw [this]
  have e : ∀ f : Nat → Value, Array.map f (Array.range 0) = #[] := fun f => Array.eq_empty_of_size_eq_zero (by simp)
  simp only [Int.toNat_zero, Nat.zero_mul, madeCells, e]
set_option maxRecDepth 100000 in
set_option maxHeartbeats 800000 in
theorem list0 (w : World) : Calls Tryz.prog 47 #[tblVal] w fun e w' => e = .returned (.slice (some ⟨w.heap.size + 2, 0, none⟩) 0 0) ∧ w' = ((w.alloc (.cells #[.pointer none, .pointer none, .pointer none, .pointer none, .pointer none, .pointer none, .pointer none, .pointer none] 99)).alloc (.cells #[.pointer none, .pointer none, .pointer none, .pointer none, .pointer none, .pointer none, .pointer none, .pointer none] 99)).alloc (.cells #[] 84) := by
  simp only [tblVal]
  go_enter Tryz.func47, Tryz.ntmps47
  go_wp2_with fail
  refine (count0 _).mono ?_
  rintro e w1 ⟨rfl, rfl⟩
  have hmk := mk_entries ((w.alloc (.cells #[.pointer none, .pointer none, .pointer none, .pointer none, .pointer none, .pointer none, .pointer none, .pointer none] 99)).alloc (.cells #[.pointer none, .pointer none, .pointer none, .pointer none, .pointer none, .pointer none, .pointer none, .pointer none] 99))
  simp only [World.size_alloc, Nat.reduceAdd, Nat.add_assoc] at hmk
  go_wp2
  go_loop [3, 11] (fun x i => ∃ k : Nat, k ≤ 8 ∧ i = .int .i64 k ∧ x = .slice (some ⟨w.heap.size + 2, 0, none⟩) 0 0) (fun _ i => 8 - (intOf i).toNat)
  case atStart => exact ⟨0, by omega, rfl, rfl⟩
  case round =>
    obtain ⟨k, hk, rfl, rfl⟩ := hrel
    by_cases hlt : k < 8
    · have hn := idx_nil k hlt
      go_wp2
      go_round
      case rel => exact ⟨k + 1, by omega, by go_num, rfl⟩
      case measure => simp [intOf]; omega
    · go_wp2
      go_ret
      exact ⟨rfl, rfl⟩
set_option maxHeartbeats 400000 in
theorem lookInt (b o : Nat) (n : Int) (w : World) (h : w.cell? ⟨b, o, none⟩ = some (.int .i64 n)) :
    Calls Tryz.prog 48 #[.pointer (some ⟨b, o, none⟩)] w fun e w' => e = .returned (.int .i64 n) ∧ w' = w := by
  go_enter Tryz.func48, Tryz.ntmps48
  go_wp2
  go_ret
  exact ⟨rfl, rfl⟩
/-- A list of nothing, in memory of its own. -/
def nilList (w : World) (B : Nat) (x : Value) : Prop := ∃ b, x = .slice (some ⟨b, 0, none⟩) 0 0 ∧ w.heap[b]? = some (.cells #[] 84 (0, 0)) ∧ B ≤ b
theorem nilList.kept {w w' : World} {B : Nat} {x : Value} (h : nilList w B x) (k : Kept [] w w') : nilList w' B x := by
  obtain ⟨b, h1, h2, h3⟩ := h
  exact ⟨b, h1, k.at h2 (by simp), h3⟩
theorem nilList.mono {w : World} {B B' : Nat} {x : Value} (h : nilList w B x) (hB : B' ≤ B) : nilList w B' x := by
  obtain ⟨b, h1, h2, h3⟩ := h
  exact ⟨b, h1, h2, by omega⟩
set_option maxRecDepth 100000 in
set_option maxHeartbeats 800000 in
theorem lookReadX (s : Nat) (w : World) (hc : ∀ o, w.cell? ⟨s, o, none⟩ = shCells[o]?) :
    Calls Tryz.prog 45 #[.pointer (some ⟨s, 0, none⟩)] w fun e w' => e = .returned (.agg #[.pointer none, .pointer none, .pointer none, .pointer none, .pointer none, .pointer none, .pointer none, .pointer none, .bool false]) ∧ w' = w.alloc (.cells #[.pointer none, .pointer none, .pointer none, .pointer none, .pointer none, .pointer none, .pointer none, .pointer none, .bool false] 101) := by
  have hs : s < w.heap.size := lt_of_cell (hc 0)
  simp only [shCells] at hc
  go_enter Tryz.func45, Tryz.ntmps45
  go_wp2
  exact bodyPost_ret (v := .agg #[.pointer none, .pointer none, .pointer none, .pointer none, .pointer none, .pointer none, .pointer none, .pointer none, .bool false]) (by simp [results, Tryz.results45, go_sem]) rfl ⟨rfl, rfl⟩
set_option maxRecDepth 100000 in
set_option maxHeartbeats 800000 in
theorem lookDirtyX (s : Nat) (w : World) (hc : ∀ o, w.cell? ⟨s, o, none⟩ = shCells[o]?) :
    Calls Tryz.prog 46 #[.pointer (some ⟨s, 9, none⟩)] w fun e w' => e = .returned (.agg #[.pointer none, .pointer none, .pointer none, .pointer none, .pointer none, .pointer none, .pointer none, .pointer none, .bool false]) ∧ w' = w.alloc (.cells #[.pointer none, .pointer none, .pointer none, .pointer none, .pointer none, .pointer none, .pointer none, .pointer none, .bool false] 105) := by
  have hs : s < w.heap.size := lt_of_cell (hc 0)
  simp only [shCells] at hc
  go_enter Tryz.func46, Tryz.ntmps46
  go_wp2
  exact bodyPost_ret (v := .agg #[.pointer none, .pointer none, .pointer none, .pointer none, .pointer none, .pointer none, .pointer none, .pointer none, .bool false]) (by simp [results, Tryz.results46, go_sem]) rfl ⟨rfl, rfl⟩
end Go.Proofs.YtfgfpggjcfhccaaGreat
namespace Go.Proofs.YtfgfpggjcfhccaaGreat
open Go.RowKit
theorem cell_set6 {r b : Nat} (hne : r ≠ b) (W : World) (o : Nat) (v0 v1 v2 v3 v4 v5 : Value) :
    ((((((W.setCell ⟨r, 0, none⟩ v0).setCell ⟨r, 1, none⟩ v1).setCell ⟨r, 2, none⟩ v2).setCell ⟨r, 3, none⟩ v3).setCell ⟨r, 4, none⟩ v4).setCell ⟨r, 5, none⟩ v5).cell? ⟨b, o, none⟩ = W.cell? ⟨b, o, none⟩ := by
  have h : ∀ k, (⟨r, k, none⟩ : Addr) ≠ ⟨b, o, none⟩ := fun k e => hne (by injection e)
  rw [World.cell?_setCell_other _ _ _ _ (h _), World.cell?_setCell_other _ _ _ _ (h _), World.cell?_setCell_other _ _ _ _ (h _), World.cell?_setCell_other _ _ _ _ (h _), World.cell?_setCell_other _ _ _ _ (h _), World.cell?_setCell_other _ _ _ _ (h _)]
theorem block_set6 {W : World} {r b : Nat} {x : Obj} (h : W.heap[b]? = some x) (hne : b ≠ r) (v0 v1 v2 v3 v4 v5 : Value) :
    ((((((W.setCell ⟨r, 0, none⟩ v0).setCell ⟨r, 1, none⟩ v1).setCell ⟨r, 2, none⟩ v2).setCell ⟨r, 3, none⟩ v3).setCell ⟨r, 4, none⟩ v4).setCell ⟨r, 5, none⟩ v5).heap[b]? = some x :=
  block_set_ne (block_set_ne (block_set_ne (block_set_ne (block_set_ne (block_set_ne h hne _ _) hne _ _) hne _ _) hne _ _) hne _ _) hne _ _
theorem res26 {tmps : Array Value} {W : World} (r : Nat) (v0 v1 v2 v3 v4 v5 : Value) (h2 : tmps.getD 2 undef = .pointer (some ⟨r, 0, none⟩))
    (hc : ∀ o, W.cell? ⟨r, o, none⟩ = #[Value.slice none 0 0, .bool false, .bool false, .slice none 0 0, .int .i64 0, .int .i64 0][o]?) :
    (results Tryz.f27 tmps).run Tryz.prog ((((((W.setCell ⟨r, 0, none⟩ v0).setCell ⟨r, 1, none⟩ v1).setCell ⟨r, 2, none⟩ v2).setCell ⟨r, 3, none⟩ v3).setCell ⟨r, 4, none⟩ v4).setCell ⟨r, 5, none⟩ v5) =
      .ok (.agg #[v0, v1, v2, v3, v4, v5]) ((((((W.setCell ⟨r, 0, none⟩ v0).setCell ⟨r, 1, none⟩ v1).setCell ⟨r, 2, none⟩ v2).setCell ⟨r, 3, none⟩ v3).setCell ⟨r, 4, none⟩ v4).setCell ⟨r, 5, none⟩ v5) := by
  simp only [Array.getD_eq_getD_getElem?] at h2
  simp [results, Tryz.results27, go_sem, h2, hc]
theorem list0K (w : World) : Calls Tryz.prog 47 #[.agg #[.pointer none, .pointer none, .pointer none, .pointer none, .pointer none, .pointer none, .pointer none, .pointer none]] w fun e w' => ∃ b, e = .returned (.slice (some ⟨b, 0, none⟩) 0 0) ∧ w'.heap[b]? = some (.cells #[] 84 (0, 0)) ∧ w.heap.size ≤ b ∧ Kept [] w w' := by
  refine (list0 w).mono ?_
  rintro e w' ⟨rfl, rfl⟩
  refine ⟨_, rfl, ?_, by omega, (((Kept.refl [] w).alloc _).alloc _).alloc _⟩
  have := block_alloc_new ((w.alloc (.cells #[.pointer none, .pointer none, .pointer none, .pointer none, .pointer none, .pointer none, .pointer none, .pointer none] 99)).alloc (.cells #[.pointer none, .pointer none, .pointer none, .pointer none, .pointer none, .pointer none, .pointer none, .pointer none] 99)) (.cells #[] 84)
  simpa using this
set_option maxRecDepth 100000 in
set_option maxHeartbeats 4000000 in
theorem view0 (s : Nat) (w : World) (h : w.heap[s]? = some (.cells shCells 111 (0, 0))) :
    Calls Tryz.prog 27 #[.pointer (some ⟨s, 0, none⟩)] w fun e w' => ∃ l1 l2, e = .returned (.agg #[l1, .bool false, .bool false, l2, .int .i64 0, .int .i64 (-1)]) ∧
      nilList w' w.heap.size l1 ∧ nilList w' w.heap.size l2 ∧ Kept [] w w' := by
  have hs := lt_of_block h
  have hc : ∀ o, w.cell? ⟨s, o, none⟩ = shCells[o]? := cell_of h
  have hs1 : s < w.heap.size + 1 := by omega
  have hs2 : s < w.heap.size + 2 := by omega
  have hs3 : s < w.heap.size + 3 := by omega
  have hs4 : s < w.heap.size + 4 := by omega
  go_enter Tryz.func27, Tryz.ntmps27
  go_wp2_with fail
  go_cut [3, 4] (fun x y w' => ∃ b3 b4 : Nat, x = .pointer (some ⟨b3, 0, none⟩) ∧ y = .pointer (some ⟨b4, 0, none⟩) ∧ w'.heap[b3]? = some (.cells #[.pointer none, .pointer none, .pointer none, .pointer none, .pointer none, .pointer none, .pointer none, .pointer none, .bool false] 101 (0, 0)) ∧ w'.heap[b4]? = some (.cells #[.pointer none, .pointer none, .pointer none, .pointer none, .pointer none, .pointer none, .pointer none, .pointer none, .bool false] 105 (0, 0)) ∧
    w'.heap[w.heap.size]? = some (.cells #[.slice none 0 0, .bool false, .bool false, .slice none 0 0, .int .i64 0, .int .i64 0] 27 (0, 0)) ∧ Kept [] w w')
  case first =>
    go_region_held3 (fun w' => ∀ o, w'.cell? ⟨s, o, none⟩ = shCells[o]?) ((intro o; go_simp))
      (first | (go_at_call 45; refine (lookReadX s _ (by assumption)).mono ?_; rintro e w' ⟨rfl, rfl⟩) | (go_at_call 46; refine (lookDirtyX s _ (by assumption)).mono ?_; rintro e w' ⟨rfl, rfl⟩))
    all_goals go_wp2_with fail
    all_goals go_meet
    all_goals refine ⟨_, _, rfl, rfl, ?_, ?_, (five w _ _ _ _ _).1, (((((Kept.refl [] w).alloc _).alloc _).alloc _).alloc _).alloc _ |>.drew⟩
    all_goals first | exact (five w _ _ _ _ _).2.1 | exact (five w _ _ _ _ _).2.2.1 | exact (five w _ _ _ _ _).2.2.2.1 | exact (five w _ _ _ _ _).2.2.2.2
  case rest =>
    obtain ⟨b3, b4, rfl, rfl, h3, h4, hr, hK⟩ := hcut
    have hS := hK.at h (by simp)
    clear hc hs hs1 hs2 hs3 hs4 h
    have hs := lt_of_block hS
    have z3 := lt_of_block h3
    have z4 := lt_of_block h4
    have zr := lt_of_block hr
    have c3 : ∀ o, wc.cell? ⟨b3, o, none⟩ = #[.pointer none, .pointer none, .pointer none, .pointer none, .pointer none, .pointer none, .pointer none, .pointer none, .bool false][o]? := cell_of h3
    have c4 : ∀ o, wc.cell? ⟨b4, o, none⟩ = #[.pointer none, .pointer none, .pointer none, .pointer none, .pointer none, .pointer none, .pointer none, .pointer none, .bool false][o]? := cell_of h4
    have c5 : ∀ o, wc.cell? ⟨w.heap.size, o, none⟩ = #[Value.slice none 0 0, .bool false, .bool false, .slice none 0 0, .int .i64 0, .int .i64 0][o]? := cell_of hr
    have f5 : ∀ o, wc.frozen? ⟨w.heap.size, o, none⟩ = false := frozen_of hr
    have n3 : b3 ≠ w.heap.size := ne_of_blocks h3 hr (by simp)
    have n4 : b4 ≠ w.heap.size := ne_of_blocks h4 hr (by simp)
    have n3' : w.heap.size ≠ b3 := Ne.symm n3
    have n4' : w.heap.size ≠ b4 := Ne.symm n4
    have L : ∀ W, Kept [] wc W → Calls Tryz.prog 47 #[.agg #[.pointer none, .pointer none, .pointer none, .pointer none, .pointer none, .pointer none, .pointer none, .pointer none]] W fun e w' => ∃ b, e = .returned (.slice (some ⟨b, 0, none⟩) 0 0) ∧ (w'.heap[b]? = some (.cells #[] 84 (0, 0)) ∧ wc.heap.size ≤ b) ∧ Kept [] wc w' ∧
        (∀ o, w'.cell? ⟨b3, o, none⟩ = #[Value.pointer none, .pointer none, .pointer none, .pointer none, .pointer none, .pointer none, .pointer none, .pointer none, .bool false][o]?) ∧ (∀ o, w'.cell? ⟨b4, o, none⟩ = #[Value.pointer none, .pointer none, .pointer none, .pointer none, .pointer none, .pointer none, .pointer none, .pointer none, .bool false][o]?) ∧ (∀ o, w'.cell? ⟨w.heap.size, o, none⟩ = #[Value.slice none 0 0, .bool false, .bool false, .slice none 0 0, .int .i64 0, .int .i64 0][o]?) ∧ (∀ o, w'.frozen? ⟨w.heap.size, o, none⟩ = false) ∧ Kept [] W w' := by
      intro W hW
      refine (list0K W).mono ?_
      rintro e w' ⟨b, rfl, hb, hbz, hk⟩
      have hk' := hW.trans hk
      exact ⟨b, rfl, ⟨hb, Nat.le_trans hW.size hbz⟩, hk', cell_of (hk'.at h3 (by simp)), cell_of (hk'.at h4 (by simp)), cell_of (hk'.at hr (by simp)), frozen_of (hk'.at hr (by simp)), hk⟩
    have HL : Hid _ := L
    clear L c5 f5
    go_wp2_with fail
    go_region_held3 (fun w' => (∀ o, w'.cell? ⟨b3, o, none⟩ = #[Value.pointer none, .pointer none, .pointer none, .pointer none, .pointer none, .pointer none, .pointer none, .pointer none, .bool false][o]?) ∧ (∀ o, w'.cell? ⟨b4, o, none⟩ = #[Value.pointer none, .pointer none, .pointer none, .pointer none, .pointer none, .pointer none, .pointer none, .pointer none, .bool false][o]?))
      (first | (refine ⟨?_, ?_⟩ <;> intro o <;> first | (rw [cell_set6 n3']; exact g3 o) | (rw [cell_set6 n4']; exact g4 o)) | exact ⟨g3, g4⟩ | exact ⟨c3, c4⟩)
      (first | (go_at_call 47; refine (HL.out _ (by first | exact (Kept.refl _ _).drew | exact kk)).mono ?_; rintro e w' ⟨l, rfl, hl, kk, g3, g4, g5, g6, hk⟩) | (go_at_call_of 48 (Value.pointer (some (Addr.mk s 18 none))); refine (lookInt s 18 0 _ (cell_of (kk.at hS (by simp)) 18)).mono ?_; rintro e w' ⟨rfl, rfl⟩) | (go_at_call_of 48 (Value.pointer (some (Addr.mk s 19 none))); refine (lookInt s 19 (-1) _ (cell_of (kk.at hS (by simp)) 19)).mono ?_; rintro e w' ⟨rfl, rfl⟩))
    go_wp2
    refine bodyPost_ret (v := .agg #[_, .bool false, .bool false, _, .int .i64 0, .int .i64 (-1)]) (res26 w.heap.size _ _ _ _ _ _ rfl g5) rfl ⟨_, _, rfl, ⟨_, rfl, ?_, ?_⟩, ⟨_, rfl, ?_, ?_⟩, ?_⟩
    · exact block_set6 (Kept.at hk (And.left (by assumption)) (by simp)) (by have := And.right (by assumption); omega) _ _ _ _ _ _
    · have := hK.size; have := And.right (by assumption); omega
    · exact block_set6 hl.1 (by have := hl.2; omega) _ _ _ _ _ _
    · have := hK.size; have := hl.2; omega
    · exact (((((((hK.trans kk).setCell (.inr (Nat.le_refl _)) _).setCell (.inr (Nat.le_refl _)) _).setCell (.inr (Nat.le_refl _)) _).setCell (.inr (Nat.le_refl _)) _).setCell (.inr (Nat.le_refl _)) _).setCell (.inr (Nat.le_refl _)) _)
end Go.Proofs.YtfgfpggjcfhccaaGreat
namespace Go.Proofs.YtfgfpggjcfhccaaGreat
open Go.RowKit Go.MuLone
theorem PAt.set6 {p : PM} {l : Int} {w : World} {cl : Bool} {th : Nat → Option (Int × Int × Int)} (h : PAt p l w cl th) {b : Nat} {cs : Array Value} {T : TypeId} {z : Nat × Nat}
    (hb : w.heap[b]? = some (.cells cs T z)) (h1 : T ≠ 78) (h2 : T ≠ 111) (h3 : T ≠ 79) (h4 : T ≠ 116) (v0 v1 v2 v3 v4 v5 : Value) :
    PAt p l ((((((w.setCell ⟨b, 0, none⟩ v0).setCell ⟨b, 1, none⟩ v1).setCell ⟨b, 2, none⟩ v2).setCell ⟨b, 3, none⟩ v3).setCell ⟨b, 4, none⟩ v4).setCell ⟨b, 5, none⟩ v5) cl th := by
  have b0 := block_set_same hb 0 v0
  have b1 := block_set_same b0 1 v1
  have b2 := block_set_same b1 2 v2
  have b3 := block_set_same b2 3 v3
  have b4 := block_set_same b3 4 v4
  exact (((((h.set hb h1 h2 h3 h4 0 v0).set b0 h1 h2 h3 h4 1 v1).set b1 h1 h2 h3 h4 2 v2).set b2 h1 h2 h3 h4 3 v3).set b3 h1 h2 h3 h4 4 v4).set b4 h1 h2 h3 h4 5 v5
theorem res11 {tmps : Array Value} {W : World} (r : Nat) (v0 v1 v2 v3 v4 v5 : Value) (h2 : tmps.getD 2 undef = .pointer (some ⟨r, 0, none⟩))
    (h : W.heap[r]? = some (.cells #[v0, v1, v2, v3, v4, v5] 27 (0, 0))) :
    (results Tryz.f12 tmps).run Tryz.prog W = .ok (.agg #[v0, v1, v2, v3, v4, v5]) W := by
  have hc : ∀ o, W.cell? ⟨r, o, none⟩ = #[v0, v1, v2, v3, v4, v5][o]? := cell_of h
  simp only [Array.getD_eq_getD_getElem?] at h2
  simp [results, Tryz.results12, go_sem, h2, hc]
set_option maxRecDepth 100000 in
set_option maxHeartbeats 800000 in
theorem look_any (p : PM) (cl : Bool) (w : World) (th : Nat → Option (Int × Int × Int)) (h : PAt p 0 w cl th) :
    Calls Tryz.prog 12 #[.pointer (some ⟨p.m, 0, none⟩)] w fun e w' => ∃ b1 b2, e = .returned (.agg #[.slice (some ⟨b1, 0, none⟩) 0 0, .bool false, .bool false, .slice (some ⟨b2, 0, none⟩) 0 0, .int .i64 0, .int .i64 (-1)]) ∧
      w'.heap[b1]? = some (.cells #[] 84 (0, 0)) ∧ w.heap.size ≤ b1 ∧ w'.heap[b2]? = some (.cells #[] 84 (0, 0)) ∧ w.heap.size ≤ b2 ∧ PAt p 0 w' cl th ∧ Kept [p.m] w w' := by
  have hs := lt_of_block h.m
  have h1 := (h.alloc (.cells #[.slice none 0 0, .bool false, .bool false, .slice none 0 0, .int .i64 0, .int .i64 0] 27)).lock 1
  have k1 : Kept [p.m] w ((w.alloc (.cells #[.slice none 0 0, .bool false, .bool false, .slice none 0 0, .int .i64 0, .int .i64 0] 27)).setCell ⟨p.m, 0, none⟩ (.int .i32 1)) := ((Kept.refl _ w).alloc _).setCell (.inl (by simp)) _
  have hr : ((w.alloc (.cells #[.slice none 0 0, .bool false, .bool false, .slice none 0 0, .int .i64 0, .int .i64 0] 27)).setCell ⟨p.m, 0, none⟩ (.int .i32 1)).heap[w.heap.size]? = some (.cells #[.slice none 0 0, .bool false, .bool false, .slice none 0 0, .int .i64 0, .int .i64 0] 27 (0, 0)) :=
    block_set_ne (block_alloc_new _ _) (by omega) _ _
  go_enter_defers Tryz.func12, Tryz.ntmps12
  go_wp2_with fail
  refine (lock_free Tryz.muLib ⟨p.m, 0, none⟩ _ ?_ ?_).mono ?_
  · rw [cell_of (h.alloc _).m]; rfl
  · rw [frozen_of (h.alloc _).m]
  rintro e w' ⟨rfl, rfl⟩
  generalize ((w.alloc (.cells #[.slice none 0 0, .bool false, .bool false, .slice none 0 0, .int .i64 0, .int .i64 0] 27)).setCell ⟨p.m, 0, none⟩ (.int .i32 1)) = W at *
  have c3 : W.cell? ⟨p.m, 3, none⟩ = some (.pointer (some ⟨p.s, 0, none⟩)) := cell_of h1.m 3
  go_wp2_with fail
  refine (view0 p.s _ h1.s).mono ?_
  rintro e w2 ⟨l1, l2, rfl, ⟨b1, rfl, hb1, hz1⟩, ⟨b2, rfl, hb2, hz2⟩, k2⟩
  have zr0 := lt_of_block hr
  replace hr := k2.at hr (by simp)
  replace h1 := h1.keptNil k2
  have ksz := k1.size
  replace k1 := k1.trans (k2.mono (by simp))
  have zr := lt_of_block hr
  have hc2 : ∀ o, w2.cell? ⟨w.heap.size, o, none⟩ = #[Value.slice none 0 0, .bool false, .bool false, .slice none 0 0, .int .i64 0, .int .i64 0][o]? := cell_of hr
  have hf2 : ∀ o, w2.frozen? ⟨w.heap.size, o, none⟩ = false := frozen_of hr
  clear c3
  go_wp2
  have hr2 := block_set_same (block_set_same (block_set_same (block_set_same (block_set_same (block_set_same hr 0 (.slice (some ⟨b1, 0, none⟩) 0 0)) 1 (.bool false)) 2 (.bool false)) 3 (.slice (some ⟨b2, 0, none⟩) 0 0)) 4 (.int .i64 0)) 5 (.int .i64 (-1))
  have h2 := h1.set6 hr (by decide) (by decide) (by decide) (by decide) (.slice (some ⟨b1, 0, none⟩) 0 0) (.bool false) (.bool false) (.slice (some ⟨b2, 0, none⟩) 0 0) (.int .i64 0) (.int .i64 (-1))
  have k3 := (((((k1.setCell (p := ⟨w.heap.size, 0, none⟩) (.inr (Nat.le_refl _)) (.slice (some ⟨b1, 0, none⟩) 0 0)).setCell (p := ⟨w.heap.size, 1, none⟩) (.inr (Nat.le_refl _)) (.bool false)).setCell (p := ⟨w.heap.size, 2, none⟩) (.inr (Nat.le_refl _)) (.bool false)).setCell (p := ⟨w.heap.size, 3, none⟩) (.inr (Nat.le_refl _)) (.slice (some ⟨b2, 0, none⟩) 0 0)).setCell (p := ⟨w.heap.size, 4, none⟩) (.inr (Nat.le_refl _)) (.int .i64 0)).setCell (p := ⟨w.heap.size, 5, none⟩) (.inr (Nat.le_refl _)) (.int .i64 (-1))
  refine door_unlock p.m _ (by rw [cell_of h2.m]; rfl) (by rw [frozen_of h2.m]) (res11 w.heap.size _ _ _ _ _ _ rfl (block_set_ne hr2 (by omega) _ _)) ⟨b1, b2, rfl, ?_, by omega, ?_, by omega, h2.lock 0, k3.setCell (.inl (by simp)) _⟩
  · exact block_set_ne (block_set6 hb1 (by omega) _ _ _ _ _ _) (by omega) _ _
  · exact block_set_ne (block_set6 hb2 (by omega) _ _ _ _ _ _) (by omega) _ _
end Go.Proofs.YtfgfpggjcfhccaaGreat
