import Derived.Test.YtmnkphenobfbfaaXa
import Derived.Test.YtmnkphenobfbfaaXd
namespace Go.Proofs.Ytmnkphenobfbfaa
open Go.RowKit
theorem tabAt (f : Nat → Option Addr) (b : Bool) (x : Int) (h0 : 0 ≤ x) (h7 : x < 8) : #[Value.pointer (f 0), .pointer (f 1), .pointer (f 2), .pointer (f 3), .pointer (f 4), .pointer (f 5), .pointer (f 6), .pointer (f 7), .bool b][x.toNat]? = some (.pointer (f x.toNat)) := by
  obtain ⟨k, rfl⟩ := Int.eq_ofNat_of_zero_le h0
  have hk : k < 8 := by omega
  simp only [Int.toNat_natCast]
  match k, hk with
  | 0, _ | 1, _ | 2, _ | 3, _ | 4, _ | 5, _ | 6, _ | 7, _ => rfl
theorem g_lookReadk (sh : Sh) (s : Nat) (w : World) (h : w.heap[s]? = some (.cells sh.cells 97 (0, 0))) :
    Calls Try.prog 38 #[.pointer (some ⟨s, 0, none⟩)] w fun e w' => e = .returned (.agg (tabCells sh.R sh.am)) ∧ Kept [] w w' := by
  refine (g_lookRead sh s w h).mono ?_
  rintro e w' ⟨rfl, rfl⟩
  exact ⟨rfl, (Kept.refl [] w).alloc _⟩
set_option maxRecDepth 100000 in
set_option maxHeartbeats 800000 in
theorem g_firstAt (tc : Tc) (t : Nat) (w : World) (h : w.heap[t]? = some (.cells tc.cells 103 (0, 0))) :
    Calls Try.prog 64 #[.pointer (some ⟨t, 0, none⟩)] w fun e w' => e = .returned (.func (.func (firstAt tc.kind)) #[.pointer (some ⟨t, 0, none⟩)] #[]) ∧ w' = w := by
  have hc2 : w.cell? ⟨t, 2, none⟩ = some (.int .i64 tc.kind) := cell_of h 2
  clear h
  by_cases e2 : tc.kind = 2
  · rw [e2] at hc2 ⊢
    go_enter Try.func64, Try.ntmps64
    go_wp2
    go_ret
    exact ⟨rfl, rfl⟩
  · by_cases e3 : tc.kind = 3
    · rw [e3] at hc2 ⊢
      go_enter Try.func64, Try.ntmps64
      go_wp2
      go_ret
      exact ⟨rfl, rfl⟩
    · have q2 : (tc.kind == 2) = false := beq_eq_false_iff_ne.2 e2
      have q3 : (tc.kind == 3) = false := beq_eq_false_iff_ne.2 e3
      have hq : firstAt tc.kind = 72 := by unfold firstAt; rw [if_neg e2, if_neg e3]
      rw [hq]
      go_enter Try.func64, Try.ntmps64
      go_wp2
      go_ret
      exact ⟨rfl, rfl⟩
set_option maxRecDepth 100000 in
set_option maxHeartbeats 800000 in
theorem g_behindAt (tc : Tc) (t : Nat) (w : World) (h : w.heap[t]? = some (.cells tc.cells 103 (0, 0))) :
    Calls Try.prog 90 #[.pointer (some ⟨t, 0, none⟩)] w fun e w' => e = .returned (.func (.func (behindAt tc.kind tc.e)) #[.pointer (some ⟨t, 0, none⟩)] #[]) ∧ w' = w := by
  have hc2 : w.cell? ⟨t, 2, none⟩ = some (.int .i64 tc.kind) := cell_of h 2
  have hc6 : w.cell? ⟨t, 6, none⟩ = some (.pointer tc.e) := cell_of h 6
  clear h
  by_cases e2 : tc.kind = 2
  · rw [e2] at hc2 ⊢
    go_enter Try.func90, Try.ntmps90
    go_wp2
    go_ret
    exact ⟨rfl, rfl⟩
  · have q2 : (tc.kind == 2) = false := beq_eq_false_iff_ne.2 e2
    by_cases e3 : tc.kind = 3
    · rw [e3] at hc2 ⊢
      cases he : tc.e with
      | none =>
        rw [he] at hc6
        go_enter Try.func90, Try.ntmps90
        go_wp2
        go_ret
        exact ⟨rfl, rfl⟩
      | some a =>
        rw [he] at hc6
        have hq : behindAt 3 (some a) = 98 := by simp [behindAt]
        rw [hq]
        go_enter Try.func90, Try.ntmps90
        go_wp2
        go_ret
        exact ⟨rfl, rfl⟩
    · have q3 : (tc.kind == 3) = false := beq_eq_false_iff_ne.2 e3
      have hq : behindAt tc.kind tc.e = 98 := by unfold behindAt; rw [if_neg e2, if_neg (fun h => e3 h.1)]
      rw [hq]
      go_enter Try.func90, Try.ntmps90
      go_wp2
      go_ret
      exact ⟨rfl, rfl⟩
set_option maxRecDepth 100000 in
set_option maxHeartbeats 1600000 in
theorem p_l1_in (tc : Tc) (sh : Sh) (t : Nat) (a : Addr) (w : World) (h : w.heap[t]? = some (.cells tc.cells 103 (0, 0))) (hS : w.heap[tc.s]? = some (.cells sh.cells 97 (0, 0))) (hk0 : 0 ≤ tc.key) (hk7 : tc.key < 8) (hR : sh.R tc.key.toNat = some a) :
    Calls Try.prog 51 #[.pointer (some ⟨t, 0, none⟩)] w fun e w' => e = .returned (ans false false 0 0) ∧ w'.heap[t]? = some (.cells { tc with e := some a, nx := .func (.func (firstAt tc.kind)) #[.pointer (some ⟨t, 0, none⟩)] #[] }.cells 103 (0, 0)) ∧ Kept [t] w w' := by
  have hs := lt_of_block h
  have hs2 := lt_of_block hS
  have hne : t ≠ tc.s := ne_of_blocks h hS (by simp)
  have hne' : tc.s ≠ t := Ne.symm hne
  have hnt : t ≠ w.heap.size := Nat.ne_of_lt hs
  have hns : tc.s ≠ w.heap.size := Nat.ne_of_lt hs2
  have hnt' : w.heap.size ≠ t := Ne.symm hnt
  have hns' : w.heap.size ≠ tc.s := Ne.symm hns
  have hc : ∀ o, w.cell? ⟨t, o, none⟩ = tc.cells[o]? := cell_of h
  simp only [Tc.cells] at hc
  have hf : ∀ o, w.frozen? ⟨t, o, none⟩ = false := frozen_of h
  have hn := tabAt sh.R sh.am tc.key hk0 hk7
  rw [hR] at hn
  have H : Hid _ := h
  have HS : Hid _ := hS
  clear h hS hR
  go_enter Try.func51, Try.ntmps51
  go_wp2_with fail
  refine Calls.mono (g_lookReadk sh tc.s _ (by repeat (first | with_reducible exact HS.out | with_reducible refine blk_drew ?_ | with_reducible refine blk_drewN ?_ _ | with_reducible refine block_set_ne ?_ (by assumption) _ _ | with_reducible refine block_alloc_lt ?_ _))) ?_
  rintro e w1 ⟨rfl, k1⟩
  have t1 : w1.heap[t]? = some (.cells tc.cells 103 (0, 0)) := k1.at (by repeat (first | with_reducible exact H.out | with_reducible refine blk_drew ?_ | with_reducible refine blk_drewN ?_ _ | with_reducible refine block_set_ne ?_ (by assumption) _ _ | with_reducible refine block_alloc_lt ?_ _)) (by simp)
  have r1 : w1.heap[w.heap.size]? = some (.cells #[.bool false, .bool false, .int .i64 0] 30 (0, 0)) := k1.at (by repeat (first | with_reducible exact block_alloc_new _ _ | with_reducible refine blk_drew ?_ | with_reducible refine blk_drewN ?_ _ | with_reducible refine block_set_ne ?_ (by assumption) _ _ | with_reducible exact newBox (by with_reducible first | exact rfl | exact size_setP _ _ _ | exact (size_setP _ _ _).trans (size_setP _ _ _) | exact (size_setP _ _ _).trans ((size_setP _ _ _).trans (size_setP _ _ _))) _ | with_reducible refine block_alloc_lt ?_ _)) (by simp)
  have kk1 : Hid (Kept [t] w w1) := Kept.trans (by repeat (first | with_reducible exact Kept.refl _ _ | with_reducible refine Kept.drew ?_ | with_reducible refine Kept.drewN ?_ _ | with_reducible refine Kept.alloc ?_ _ | with_reducible refine Kept.setAt ?_ (.inl mem0) _ _ | with_reducible refine Kept.setAt ?_ (.inl mem1) _ _ | with_reducible refine Kept.setAt ?_ (.inl mem2) _ _ | with_reducible refine Kept.setAt ?_ (.inr (Nat.le_refl _)) _ _)) (k1.mono (by simp))
  clear hc hf k1
  have hc : ∀ o, w1.cell? ⟨t, o, none⟩ = tc.cells[o]? := cell_of t1
  simp only [Tc.cells] at hc
  have hf : ∀ o, w1.frozen? ⟨t, o, none⟩ = false := frozen_of t1
  have T1 : Hid _ := t1
  have R1 : Hid _ := r1
  have ht1 := lt_of_block t1
  have hr1 := lt_of_block r1
  have htn : t ≠ w1.heap.size := Nat.ne_of_lt ht1
  clear t1 r1 H HS
  simp only [tabCells]
  go_wp2_with fail
  clear hc hf hn
  refine Calls.mono (g_firstAt { tc with e := some a } t _ (by repeat (first | with_reducible refine blk_drew ?_ | with_reducible refine blk_drewN ?_ _ | with_reducible refine block_alloc_lt ?_ _ | exact (block_set_same T1.out _ _).trans (by simp [Tc.cells])))) ?_
  rintro e wf ⟨rfl, rfl⟩
  go_wp2_with fail
  refine Calls.mono (g_goOn { tc with e := some a } t (.func (firstAt tc.kind)) #[.pointer (some ⟨t, 0, none⟩)] #[] _ (by repeat (first | with_reducible refine blk_drew ?_ | with_reducible refine blk_drewN ?_ _ | with_reducible refine block_alloc_lt ?_ _ | exact (block_set_same T1.out _ _).trans (by simp [Tc.cells])))) ?_
  rintro e wz ⟨rfl, hz, kz⟩
  have rz : wz.heap[w.heap.size]? = some (.cells #[.bool false, .bool false, .int .i64 0] 30 (0, 0)) := kz.at (by repeat (first | with_reducible exact R1.out | with_reducible refine blk_drew ?_ | with_reducible refine blk_drewN ?_ _ | with_reducible refine block_set_ne ?_ (by assumption) _ _ | with_reducible refine block_alloc_lt ?_ _)) (by simp <;> omega)
  have KZ : Hid (Kept [t] w wz) := Kept.drop (by repeat (first | with_reducible exact kk1.out | with_reducible refine Kept.drew ?_ | with_reducible refine Kept.drewN ?_ _ | with_reducible refine Kept.alloc ?_ _ | with_reducible refine Kept.setAt ?_ (.inl mem0) _ _ | with_reducible refine Kept.setAt ?_ (.inl mem1) _ _ | with_reducible refine Kept.setAt ?_ (.inl mem2) _ _ | with_reducible refine Kept.setAt ?_ (.inr (Nat.le_refl _)) _ _)) kz (by simp)
  have hcz : ∀ o, wz.cell? ⟨w.heap.size, o, none⟩ = #[.bool false, .bool false, .int .i64 0][o]? := cell_of rz
  have hfz : ∀ o, wz.frozen? ⟨w.heap.size, o, none⟩ = false := frozen_of rz
  clear kz
  simp only [ans]
  go_wp2
  refine bodyPost_ret (v := ans false false 0 0) (by simp [results, Try.results51, go_sem, ans, cell_of (resLaidP rz false false 0)]) rfl ⟨rfl, blk_res hz (by omega) _ _ _, KZ.out.res (Nat.le_refl _) _ _ _⟩
set_option maxRecDepth 100000 in
set_option maxHeartbeats 1600000 in
theorem p_l1_end (tc : Tc) (sh : Sh) (t : Nat) (w : World) (h : w.heap[t]? = some (.cells tc.cells 103 (0, 0))) (hS : w.heap[tc.s]? = some (.cells sh.cells 97 (0, 0))) (hk0 : 0 ≤ tc.key) (hk7 : tc.key < 8) (hR : sh.R tc.key.toNat = none) (ha : sh.am = false) :
    Calls Try.prog 51 #[.pointer (some ⟨t, 0, none⟩)] w fun e w' => e = .returned (ans true false 0 0) ∧ w'.heap[t]? = some (.cells tc.idle.cells 103 (0, 0)) ∧ Kept [t] w w' := by
  have hs := lt_of_block h
  have hs2 := lt_of_block hS
  have hne : t ≠ tc.s := ne_of_blocks h hS (by simp)
  have hne' : tc.s ≠ t := Ne.symm hne
  have hnt : t ≠ w.heap.size := Nat.ne_of_lt hs
  have hns : tc.s ≠ w.heap.size := Nat.ne_of_lt hs2
  have hnt' : w.heap.size ≠ t := Ne.symm hnt
  have hns' : w.heap.size ≠ tc.s := Ne.symm hns
  have hc : ∀ o, w.cell? ⟨t, o, none⟩ = tc.cells[o]? := cell_of h
  simp only [Tc.cells] at hc
  have hf : ∀ o, w.frozen? ⟨t, o, none⟩ = false := frozen_of h
  have hn := tabAt sh.R sh.am tc.key hk0 hk7
  rw [hR, ha] at hn
  have H : Hid _ := h
  have HS : Hid _ := hS
  have HA : Hid _ := ha
  clear h hS hR ha
  go_enter Try.func51, Try.ntmps51
  go_wp2_with fail
  refine Calls.mono (g_lookReadk sh tc.s _ (by repeat (first | with_reducible exact HS.out | with_reducible refine blk_drew ?_ | with_reducible refine blk_drewN ?_ _ | with_reducible refine block_set_ne ?_ (by assumption) _ _ | with_reducible refine block_alloc_lt ?_ _))) ?_
  rintro e w1 ⟨rfl, k1⟩
  have t1 : w1.heap[t]? = some (.cells tc.cells 103 (0, 0)) := k1.at (by repeat (first | with_reducible exact H.out | with_reducible refine blk_drew ?_ | with_reducible refine blk_drewN ?_ _ | with_reducible refine block_set_ne ?_ (by assumption) _ _ | with_reducible refine block_alloc_lt ?_ _)) (by simp)
  have r1 : w1.heap[w.heap.size]? = some (.cells #[.bool false, .bool false, .int .i64 0] 30 (0, 0)) := k1.at (by repeat (first | with_reducible exact block_alloc_new _ _ | with_reducible refine blk_drew ?_ | with_reducible refine blk_drewN ?_ _ | with_reducible refine block_set_ne ?_ (by assumption) _ _ | with_reducible exact newBox (by with_reducible first | exact rfl | exact size_setP _ _ _ | exact (size_setP _ _ _).trans (size_setP _ _ _) | exact (size_setP _ _ _).trans ((size_setP _ _ _).trans (size_setP _ _ _))) _ | with_reducible refine block_alloc_lt ?_ _)) (by simp)
  have kk1 : Hid (Kept [t] w w1) := Kept.trans (by repeat (first | with_reducible exact Kept.refl _ _ | with_reducible refine Kept.drew ?_ | with_reducible refine Kept.drewN ?_ _ | with_reducible refine Kept.alloc ?_ _ | with_reducible refine Kept.setAt ?_ (.inl mem0) _ _ | with_reducible refine Kept.setAt ?_ (.inl mem1) _ _ | with_reducible refine Kept.setAt ?_ (.inl mem2) _ _ | with_reducible refine Kept.setAt ?_ (.inr (Nat.le_refl _)) _ _)) (k1.mono (by simp))
  clear hc hf k1
  have hc : ∀ o, w1.cell? ⟨t, o, none⟩ = tc.cells[o]? := cell_of t1
  simp only [Tc.cells] at hc
  have hf : ∀ o, w1.frozen? ⟨t, o, none⟩ = false := frozen_of t1
  have T1 : Hid _ := t1
  have R1 : Hid _ := r1
  have ht1 := lt_of_block t1
  have hr1 := lt_of_block r1
  have htn : t ≠ w1.heap.size := Nat.ne_of_lt ht1
  clear t1 r1 H HS
  simp only [tabCells, HA.out]
  go_wp2_with fail
  clear hc hf hn
  refine Calls.mono (g_doneNothing { tc with e := none } t _ (by repeat (first | with_reducible refine blk_drew ?_ | with_reducible refine blk_drewN ?_ _ | with_reducible refine block_alloc_lt ?_ _ | exact (block_set_same T1.out _ _).trans (by simp [Tc.cells])))) ?_
  rintro e wz ⟨rfl, hz, kz⟩
  have rz : wz.heap[w.heap.size]? = some (.cells #[.bool false, .bool false, .int .i64 0] 30 (0, 0)) := kz.at (by repeat (first | with_reducible exact R1.out | with_reducible refine blk_drew ?_ | with_reducible refine blk_drewN ?_ _ | with_reducible refine block_set_ne ?_ (by assumption) _ _ | with_reducible refine block_alloc_lt ?_ _)) (by simp <;> omega)
  have KZ : Hid (Kept [t] w wz) := Kept.drop (by repeat (first | with_reducible exact kk1.out | with_reducible refine Kept.drew ?_ | with_reducible refine Kept.drewN ?_ _ | with_reducible refine Kept.alloc ?_ _ | with_reducible refine Kept.setAt ?_ (.inl mem0) _ _ | with_reducible refine Kept.setAt ?_ (.inl mem1) _ _ | with_reducible refine Kept.setAt ?_ (.inl mem2) _ _ | with_reducible refine Kept.setAt ?_ (.inr (Nat.le_refl _)) _ _)) kz (by simp)
  have hcz : ∀ o, wz.cell? ⟨w.heap.size, o, none⟩ = #[.bool false, .bool false, .int .i64 0][o]? := cell_of rz
  have hfz : ∀ o, wz.frozen? ⟨w.heap.size, o, none⟩ = false := frozen_of rz
  clear kz
  simp only [ans]
  go_wp2
  refine bodyPost_ret (v := ans true false 0 0) (by simp [results, Try.results51, go_sem, ans, cell_of (resLaidP rz true false 0)]) rfl ⟨rfl, blk_res hz (by omega) _ _ _, KZ.out.res (Nat.le_refl _) _ _ _⟩
set_option maxRecDepth 100000 in
set_option maxHeartbeats 1600000 in
theorem p_l1_on (tc : Tc) (sh : Sh) (t : Nat) (w : World) (h : w.heap[t]? = some (.cells tc.cells 103 (0, 0))) (hS : w.heap[tc.s]? = some (.cells sh.cells 97 (0, 0))) (hk0 : 0 ≤ tc.key) (hk7 : tc.key < 8) (hR : sh.R tc.key.toNat = none) (ha : sh.am = true) :
    Calls Try.prog 51 #[.pointer (some ⟨t, 0, none⟩)] w fun e w' => e = .returned (ans false false 0 0) ∧ w'.heap[t]? = some (.cells { tc with e := none, nx := .func (.func 66) #[.pointer (some ⟨t, 0, none⟩)] #[] }.cells 103 (0, 0)) ∧ Kept [t] w w' := by
  have hs := lt_of_block h
  have hs2 := lt_of_block hS
  have hne : t ≠ tc.s := ne_of_blocks h hS (by simp)
  have hne' : tc.s ≠ t := Ne.symm hne
  have hnt : t ≠ w.heap.size := Nat.ne_of_lt hs
  have hns : tc.s ≠ w.heap.size := Nat.ne_of_lt hs2
  have hnt' : w.heap.size ≠ t := Ne.symm hnt
  have hns' : w.heap.size ≠ tc.s := Ne.symm hns
  have hc : ∀ o, w.cell? ⟨t, o, none⟩ = tc.cells[o]? := cell_of h
  simp only [Tc.cells] at hc
  have hf : ∀ o, w.frozen? ⟨t, o, none⟩ = false := frozen_of h
  have hn := tabAt sh.R sh.am tc.key hk0 hk7
  rw [hR, ha] at hn
  have H : Hid _ := h
  have HS : Hid _ := hS
  have HA : Hid _ := ha
  clear h hS hR ha
  go_enter Try.func51, Try.ntmps51
  go_wp2_with fail
  refine Calls.mono (g_lookReadk sh tc.s _ (by repeat (first | with_reducible exact HS.out | with_reducible refine blk_drew ?_ | with_reducible refine blk_drewN ?_ _ | with_reducible refine block_set_ne ?_ (by assumption) _ _ | with_reducible refine block_alloc_lt ?_ _))) ?_
  rintro e w1 ⟨rfl, k1⟩
  have t1 : w1.heap[t]? = some (.cells tc.cells 103 (0, 0)) := k1.at (by repeat (first | with_reducible exact H.out | with_reducible refine blk_drew ?_ | with_reducible refine blk_drewN ?_ _ | with_reducible refine block_set_ne ?_ (by assumption) _ _ | with_reducible refine block_alloc_lt ?_ _)) (by simp)
  have r1 : w1.heap[w.heap.size]? = some (.cells #[.bool false, .bool false, .int .i64 0] 30 (0, 0)) := k1.at (by repeat (first | with_reducible exact block_alloc_new _ _ | with_reducible refine blk_drew ?_ | with_reducible refine blk_drewN ?_ _ | with_reducible refine block_set_ne ?_ (by assumption) _ _ | with_reducible exact newBox (by with_reducible first | exact rfl | exact size_setP _ _ _ | exact (size_setP _ _ _).trans (size_setP _ _ _) | exact (size_setP _ _ _).trans ((size_setP _ _ _).trans (size_setP _ _ _))) _ | with_reducible refine block_alloc_lt ?_ _)) (by simp)
  have kk1 : Hid (Kept [t] w w1) := Kept.trans (by repeat (first | with_reducible exact Kept.refl _ _ | with_reducible refine Kept.drew ?_ | with_reducible refine Kept.drewN ?_ _ | with_reducible refine Kept.alloc ?_ _ | with_reducible refine Kept.setAt ?_ (.inl mem0) _ _ | with_reducible refine Kept.setAt ?_ (.inl mem1) _ _ | with_reducible refine Kept.setAt ?_ (.inl mem2) _ _ | with_reducible refine Kept.setAt ?_ (.inr (Nat.le_refl _)) _ _)) (k1.mono (by simp))
  clear hc hf k1
  have hc : ∀ o, w1.cell? ⟨t, o, none⟩ = tc.cells[o]? := cell_of t1
  simp only [Tc.cells] at hc
  have hf : ∀ o, w1.frozen? ⟨t, o, none⟩ = false := frozen_of t1
  have T1 : Hid _ := t1
  have R1 : Hid _ := r1
  have ht1 := lt_of_block t1
  have hr1 := lt_of_block r1
  have htn : t ≠ w1.heap.size := Nat.ne_of_lt ht1
  clear t1 r1 H HS
  simp only [tabCells, HA.out]
  go_wp2_with fail
  clear hc hf hn
  refine Calls.mono (g_goOn { tc with e := none } t (.func 66) #[.pointer (some ⟨t, 0, none⟩)] #[] _ (by repeat (first | with_reducible refine blk_drew ?_ | with_reducible refine blk_drewN ?_ _ | with_reducible refine block_alloc_lt ?_ _ | exact (block_set_same T1.out _ _).trans (by simp [Tc.cells])))) ?_
  rintro e wz ⟨rfl, hz, kz⟩
  have rz : wz.heap[w.heap.size]? = some (.cells #[.bool false, .bool false, .int .i64 0] 30 (0, 0)) := kz.at (by repeat (first | with_reducible exact R1.out | with_reducible refine blk_drew ?_ | with_reducible refine blk_drewN ?_ _ | with_reducible refine block_set_ne ?_ (by assumption) _ _ | with_reducible refine block_alloc_lt ?_ _)) (by simp <;> omega)
  have KZ : Hid (Kept [t] w wz) := Kept.drop (by repeat (first | with_reducible exact kk1.out | with_reducible refine Kept.drew ?_ | with_reducible refine Kept.drewN ?_ _ | with_reducible refine Kept.alloc ?_ _ | with_reducible refine Kept.setAt ?_ (.inl mem0) _ _ | with_reducible refine Kept.setAt ?_ (.inl mem1) _ _ | with_reducible refine Kept.setAt ?_ (.inl mem2) _ _ | with_reducible refine Kept.setAt ?_ (.inr (Nat.le_refl _)) _ _)) kz (by simp)
  have hcz : ∀ o, wz.cell? ⟨w.heap.size, o, none⟩ = #[.bool false, .bool false, .int .i64 0][o]? := cell_of rz
  have hfz : ∀ o, wz.frozen? ⟨w.heap.size, o, none⟩ = false := frozen_of rz
  clear kz
  simp only [ans]
  go_wp2
  refine bodyPost_ret (v := ans false false 0 0) (by simp [results, Try.results51, go_sem, ans, cell_of (resLaidP rz false false 0)]) rfl ⟨rfl, blk_res hz (by omega) _ _ _, KZ.out.res (Nat.le_refl _) _ _ _⟩
set_option maxRecDepth 100000 in
set_option maxHeartbeats 1600000 in
theorem p_l2_no (tc : Tc) (sh : Sh) (t : Nat) (w : World) (h : w.heap[t]? = some (.cells tc.cells 103 (0, 0))) (hS : w.heap[tc.s]? = some (.cells sh.cells 97 (0, 0))) (hl : ¬ sh.hol = -1) :
    Calls Try.prog 66 #[.pointer (some ⟨t, 0, none⟩)] w fun e w' => e = .returned (ans false false 0 4) ∧ Kept [] w w' := by
  have hs := lt_of_block h
  have hs2 := lt_of_block hS
  have hne : t ≠ tc.s := ne_of_blocks h hS (by simp)
  have hne' : tc.s ≠ t := Ne.symm hne
  have hnt : t ≠ w.heap.size := Nat.ne_of_lt hs
  have hns : tc.s ≠ w.heap.size := Nat.ne_of_lt hs2
  have hnt' : w.heap.size ≠ t := Ne.symm hnt
  have hns' : w.heap.size ≠ tc.s := Ne.symm hns
  have H : Hid _ := h
  have HS : Hid _ := hS
  clear h hS
  go_enter Try.func66, Try.ntmps66
  go_wp2_with fail
  refine Calls.mono (g_takeLock_no tc sh t _ _ (by repeat (first | with_reducible exact H.out | with_reducible refine blk_drew ?_ | with_reducible refine blk_drewN ?_ _ | with_reducible refine block_set_ne ?_ (by assumption) _ _ | with_reducible refine block_alloc_lt ?_ _)) (by repeat (first | with_reducible exact HS.out | with_reducible refine blk_drew ?_ | with_reducible refine blk_drewN ?_ _ | with_reducible refine block_set_ne ?_ (by assumption) _ _ | with_reducible refine block_alloc_lt ?_ _)) hl) ?_
  rintro e wz ⟨rfl, kz⟩
  have rz : wz.heap[w.heap.size]? = some (.cells #[.bool false, .bool false, .int .i64 0] 30 (0, 0)) := kz.at (by repeat (first | with_reducible exact block_alloc_new _ _ | with_reducible refine blk_drew ?_ | with_reducible refine blk_drewN ?_ _ | with_reducible refine block_set_ne ?_ (by assumption) _ _ | with_reducible exact newBox (by with_reducible first | exact rfl | exact size_setP _ _ _ | exact (size_setP _ _ _).trans (size_setP _ _ _) | exact (size_setP _ _ _).trans ((size_setP _ _ _).trans (size_setP _ _ _))) _ | with_reducible refine block_alloc_lt ?_ _)) (by simp <;> omega)
  have KZ : Hid (Kept [] w wz) := Kept.drop (by repeat (first | with_reducible exact Kept.refl _ _ | with_reducible refine Kept.drew ?_ | with_reducible refine Kept.drewN ?_ _ | with_reducible refine Kept.alloc ?_ _ | with_reducible refine Kept.setAt ?_ (.inl mem0) _ _ | with_reducible refine Kept.setAt ?_ (.inl mem1) _ _ | with_reducible refine Kept.setAt ?_ (.inl mem2) _ _ | with_reducible refine Kept.setAt ?_ (.inr (Nat.le_refl _)) _ _)) kz (by simp)
  have hcz : ∀ o, wz.cell? ⟨w.heap.size, o, none⟩ = #[.bool false, .bool false, .int .i64 0][o]? := cell_of rz
  have hfz : ∀ o, wz.frozen? ⟨w.heap.size, o, none⟩ = false := frozen_of rz
  clear kz
  simp only [ans]
  go_wp2
  refine bodyPost_ret (v := ans false false 0 4) (by simp [results, Try.results66, go_sem, ans, cell_of (resLaidP rz false false 0)]) rfl ⟨rfl, KZ.out.res (Nat.le_refl _) _ _ _⟩
set_option maxRecDepth 100000 in
set_option maxHeartbeats 1600000 in
theorem p_l2_yes (tc : Tc) (sh : Sh) (t : Nat) (w : World) (h : w.heap[t]? = some (.cells tc.cells 103 (0, 0))) (hS : w.heap[tc.s]? = some (.cells sh.cells 97 (0, 0))) (hl : sh.hol = -1) :
    Calls Try.prog 66 #[.pointer (some ⟨t, 0, none⟩)] w fun e w' => e = .returned (ans false false 0 0) ∧ w'.heap[t]? = some (.cells { tc with nx := .func (.func 74) #[.pointer (some ⟨t, 0, none⟩)] #[] }.cells 103 (0, 0)) ∧ w'.heap[tc.s]? = some (.cells { sh with hol := tc.i }.cells 97 (0, 0)) ∧ Kept [t, tc.s] w w' := by
  have hs := lt_of_block h
  have hs2 := lt_of_block hS
  have hne : t ≠ tc.s := ne_of_blocks h hS (by simp)
  have hne' : tc.s ≠ t := Ne.symm hne
  have hnt : t ≠ w.heap.size := Nat.ne_of_lt hs
  have hns : tc.s ≠ w.heap.size := Nat.ne_of_lt hs2
  have hnt' : w.heap.size ≠ t := Ne.symm hnt
  have hns' : w.heap.size ≠ tc.s := Ne.symm hns
  have H : Hid _ := h
  have HS : Hid _ := hS
  clear h hS
  go_enter Try.func66, Try.ntmps66
  go_wp2_with fail
  refine Calls.mono (g_takeLock_yes tc sh t (.func 74) #[.pointer (some ⟨t, 0, none⟩)] #[] _ (by repeat (first | with_reducible exact H.out | with_reducible refine blk_drew ?_ | with_reducible refine blk_drewN ?_ _ | with_reducible refine block_set_ne ?_ (by assumption) _ _ | with_reducible refine block_alloc_lt ?_ _)) (by repeat (first | with_reducible exact HS.out | with_reducible refine blk_drew ?_ | with_reducible refine blk_drewN ?_ _ | with_reducible refine block_set_ne ?_ (by assumption) _ _ | with_reducible refine block_alloc_lt ?_ _)) hl) ?_
  rintro e wz ⟨rfl, hz, sz0, kz⟩
  have rz : wz.heap[w.heap.size]? = some (.cells #[.bool false, .bool false, .int .i64 0] 30 (0, 0)) := kz.at (by repeat (first | with_reducible exact block_alloc_new _ _ | with_reducible refine blk_drew ?_ | with_reducible refine blk_drewN ?_ _ | with_reducible refine block_set_ne ?_ (by assumption) _ _ | with_reducible exact newBox (by with_reducible first | exact rfl | exact size_setP _ _ _ | exact (size_setP _ _ _).trans (size_setP _ _ _) | exact (size_setP _ _ _).trans ((size_setP _ _ _).trans (size_setP _ _ _))) _ | with_reducible refine block_alloc_lt ?_ _)) (by simp <;> omega)
  have KZ : Hid (Kept [t, tc.s] w wz) := Kept.drop (by repeat (first | with_reducible exact Kept.refl _ _ | with_reducible refine Kept.drew ?_ | with_reducible refine Kept.drewN ?_ _ | with_reducible refine Kept.alloc ?_ _ | with_reducible refine Kept.setAt ?_ (.inl mem0) _ _ | with_reducible refine Kept.setAt ?_ (.inl mem1) _ _ | with_reducible refine Kept.setAt ?_ (.inl mem2) _ _ | with_reducible refine Kept.setAt ?_ (.inr (Nat.le_refl _)) _ _)) kz (by simp)
  have hcz : ∀ o, wz.cell? ⟨w.heap.size, o, none⟩ = #[.bool false, .bool false, .int .i64 0][o]? := cell_of rz
  have hfz : ∀ o, wz.frozen? ⟨w.heap.size, o, none⟩ = false := frozen_of rz
  clear kz
  simp only [ans]
  go_wp2
  refine bodyPost_ret (v := ans false false 0 0) (by simp [results, Try.results66, go_sem, ans, cell_of (resLaidP rz false false 0)]) rfl ⟨rfl, blk_res hz (by omega) _ _ _, blk_res sz0 (by omega) _ _ _, KZ.out.res (Nat.le_refl _) _ _ _⟩
set_option maxRecDepth 100000 in
set_option maxHeartbeats 1600000 in
theorem p_l3_in (tc : Tc) (sh : Sh) (t : Nat) (a : Addr) (w : World) (h : w.heap[t]? = some (.cells tc.cells 103 (0, 0))) (hS : w.heap[tc.s]? = some (.cells sh.cells 97 (0, 0))) (hk0 : 0 ≤ tc.key) (hk7 : tc.key < 8) (hR : sh.R tc.key.toNat = some a) :
    Calls Try.prog 74 #[.pointer (some ⟨t, 0, none⟩)] w fun e w' => e = .returned (ans false false 0 0) ∧ w'.heap[t]? = some (.cells { tc with e := some a, nx := .func (.func 83) #[.pointer (some ⟨t, 0, none⟩)] #[] }.cells 103 (0, 0)) ∧ Kept [t] w w' := by
  have hs := lt_of_block h
  have hs2 := lt_of_block hS
  have hne : t ≠ tc.s := ne_of_blocks h hS (by simp)
  have hne' : tc.s ≠ t := Ne.symm hne
  have hnt : t ≠ w.heap.size := Nat.ne_of_lt hs
  have hns : tc.s ≠ w.heap.size := Nat.ne_of_lt hs2
  have hnt' : w.heap.size ≠ t := Ne.symm hnt
  have hns' : w.heap.size ≠ tc.s := Ne.symm hns
  have hc : ∀ o, w.cell? ⟨t, o, none⟩ = tc.cells[o]? := cell_of h
  simp only [Tc.cells] at hc
  have hf : ∀ o, w.frozen? ⟨t, o, none⟩ = false := frozen_of h
  have hn := tabAt sh.R sh.am tc.key hk0 hk7
  rw [hR] at hn
  have H : Hid _ := h
  have HS : Hid _ := hS
  clear h hS hR
  go_enter Try.func74, Try.ntmps74
  go_wp2_with fail
  refine Calls.mono (g_lookReadk sh tc.s _ (by repeat (first | with_reducible exact HS.out | with_reducible refine blk_drew ?_ | with_reducible refine blk_drewN ?_ _ | with_reducible refine block_set_ne ?_ (by assumption) _ _ | with_reducible refine block_alloc_lt ?_ _))) ?_
  rintro e w1 ⟨rfl, k1⟩
  have t1 : w1.heap[t]? = some (.cells tc.cells 103 (0, 0)) := k1.at (by repeat (first | with_reducible exact H.out | with_reducible refine blk_drew ?_ | with_reducible refine blk_drewN ?_ _ | with_reducible refine block_set_ne ?_ (by assumption) _ _ | with_reducible refine block_alloc_lt ?_ _)) (by simp)
  have r1 : w1.heap[w.heap.size]? = some (.cells #[.bool false, .bool false, .int .i64 0] 30 (0, 0)) := k1.at (by repeat (first | with_reducible exact block_alloc_new _ _ | with_reducible refine blk_drew ?_ | with_reducible refine blk_drewN ?_ _ | with_reducible refine block_set_ne ?_ (by assumption) _ _ | with_reducible exact newBox (by with_reducible first | exact rfl | exact size_setP _ _ _ | exact (size_setP _ _ _).trans (size_setP _ _ _) | exact (size_setP _ _ _).trans ((size_setP _ _ _).trans (size_setP _ _ _))) _ | with_reducible refine block_alloc_lt ?_ _)) (by simp)
  have kk1 : Hid (Kept [t] w w1) := Kept.trans (by repeat (first | with_reducible exact Kept.refl _ _ | with_reducible refine Kept.drew ?_ | with_reducible refine Kept.drewN ?_ _ | with_reducible refine Kept.alloc ?_ _ | with_reducible refine Kept.setAt ?_ (.inl mem0) _ _ | with_reducible refine Kept.setAt ?_ (.inl mem1) _ _ | with_reducible refine Kept.setAt ?_ (.inl mem2) _ _ | with_reducible refine Kept.setAt ?_ (.inr (Nat.le_refl _)) _ _)) (k1.mono (by simp))
  clear hc hf k1
  have hc : ∀ o, w1.cell? ⟨t, o, none⟩ = tc.cells[o]? := cell_of t1
  simp only [Tc.cells] at hc
  have hf : ∀ o, w1.frozen? ⟨t, o, none⟩ = false := frozen_of t1
  have T1 : Hid _ := t1
  have R1 : Hid _ := r1
  have ht1 := lt_of_block t1
  have hr1 := lt_of_block r1
  have htn : t ≠ w1.heap.size := Nat.ne_of_lt ht1
  clear t1 r1 H HS
  simp only [tabCells]
  go_wp2_with fail
  clear hc hf hn
  refine Calls.mono (g_goOn { tc with e := some a } t (.func 83) #[.pointer (some ⟨t, 0, none⟩)] #[] _ (by repeat (first | with_reducible refine blk_drew ?_ | with_reducible refine blk_drewN ?_ _ | with_reducible refine block_alloc_lt ?_ _ | exact (block_set_same T1.out _ _).trans (by simp [Tc.cells])))) ?_
  rintro e wz ⟨rfl, hz, kz⟩
  have rz : wz.heap[w.heap.size]? = some (.cells #[.bool false, .bool false, .int .i64 0] 30 (0, 0)) := kz.at (by repeat (first | with_reducible exact R1.out | with_reducible refine blk_drew ?_ | with_reducible refine blk_drewN ?_ _ | with_reducible refine block_set_ne ?_ (by assumption) _ _ | with_reducible refine block_alloc_lt ?_ _)) (by simp <;> omega)
  have KZ : Hid (Kept [t] w wz) := Kept.drop (by repeat (first | with_reducible exact kk1.out | with_reducible refine Kept.drew ?_ | with_reducible refine Kept.drewN ?_ _ | with_reducible refine Kept.alloc ?_ _ | with_reducible refine Kept.setAt ?_ (.inl mem0) _ _ | with_reducible refine Kept.setAt ?_ (.inl mem1) _ _ | with_reducible refine Kept.setAt ?_ (.inl mem2) _ _ | with_reducible refine Kept.setAt ?_ (.inr (Nat.le_refl _)) _ _)) kz (by simp)
  have hcz : ∀ o, wz.cell? ⟨w.heap.size, o, none⟩ = #[.bool false, .bool false, .int .i64 0][o]? := cell_of rz
  have hfz : ∀ o, wz.frozen? ⟨w.heap.size, o, none⟩ = false := frozen_of rz
  clear kz
  simp only [ans]
  go_wp2
  refine bodyPost_ret (v := ans false false 0 0) (by simp [results, Try.results74, go_sem, ans, cell_of (resLaidP rz false false 0)]) rfl ⟨rfl, blk_res hz (by omega) _ _ _, KZ.out.res (Nat.le_refl _) _ _ _⟩
set_option maxRecDepth 100000 in
set_option maxHeartbeats 1600000 in
theorem p_l3_out (tc : Tc) (sh : Sh) (t : Nat) (w : World) (h : w.heap[t]? = some (.cells tc.cells 103 (0, 0))) (hS : w.heap[tc.s]? = some (.cells sh.cells 97 (0, 0))) (hk0 : 0 ≤ tc.key) (hk7 : tc.key < 8) (hR : sh.R tc.key.toNat = none) (ha : sh.am = false) :
    Calls Try.prog 74 #[.pointer (some ⟨t, 0, none⟩)] w fun e w' => e = .returned (ans false false 0 0) ∧ w'.heap[t]? = some (.cells { tc with e := none, nx := .func (.func 83) #[.pointer (some ⟨t, 0, none⟩)] #[] }.cells 103 (0, 0)) ∧ Kept [t] w w' := by
  have hs := lt_of_block h
  have hs2 := lt_of_block hS
  have hne : t ≠ tc.s := ne_of_blocks h hS (by simp)
  have hne' : tc.s ≠ t := Ne.symm hne
  have hnt : t ≠ w.heap.size := Nat.ne_of_lt hs
  have hns : tc.s ≠ w.heap.size := Nat.ne_of_lt hs2
  have hnt' : w.heap.size ≠ t := Ne.symm hnt
  have hns' : w.heap.size ≠ tc.s := Ne.symm hns
  have hc : ∀ o, w.cell? ⟨t, o, none⟩ = tc.cells[o]? := cell_of h
  simp only [Tc.cells] at hc
  have hf : ∀ o, w.frozen? ⟨t, o, none⟩ = false := frozen_of h
  have hn := tabAt sh.R sh.am tc.key hk0 hk7
  rw [hR, ha] at hn
  have H : Hid _ := h
  have HS : Hid _ := hS
  have HA : Hid _ := ha
  clear h hS hR ha
  go_enter Try.func74, Try.ntmps74
  go_wp2_with fail
  refine Calls.mono (g_lookReadk sh tc.s _ (by repeat (first | with_reducible exact HS.out | with_reducible refine blk_drew ?_ | with_reducible refine blk_drewN ?_ _ | with_reducible refine block_set_ne ?_ (by assumption) _ _ | with_reducible refine block_alloc_lt ?_ _))) ?_
  rintro e w1 ⟨rfl, k1⟩
  have t1 : w1.heap[t]? = some (.cells tc.cells 103 (0, 0)) := k1.at (by repeat (first | with_reducible exact H.out | with_reducible refine blk_drew ?_ | with_reducible refine blk_drewN ?_ _ | with_reducible refine block_set_ne ?_ (by assumption) _ _ | with_reducible refine block_alloc_lt ?_ _)) (by simp)
  have r1 : w1.heap[w.heap.size]? = some (.cells #[.bool false, .bool false, .int .i64 0] 30 (0, 0)) := k1.at (by repeat (first | with_reducible exact block_alloc_new _ _ | with_reducible refine blk_drew ?_ | with_reducible refine blk_drewN ?_ _ | with_reducible refine block_set_ne ?_ (by assumption) _ _ | with_reducible exact newBox (by with_reducible first | exact rfl | exact size_setP _ _ _ | exact (size_setP _ _ _).trans (size_setP _ _ _) | exact (size_setP _ _ _).trans ((size_setP _ _ _).trans (size_setP _ _ _))) _ | with_reducible refine block_alloc_lt ?_ _)) (by simp)
  have kk1 : Hid (Kept [t] w w1) := Kept.trans (by repeat (first | with_reducible exact Kept.refl _ _ | with_reducible refine Kept.drew ?_ | with_reducible refine Kept.drewN ?_ _ | with_reducible refine Kept.alloc ?_ _ | with_reducible refine Kept.setAt ?_ (.inl mem0) _ _ | with_reducible refine Kept.setAt ?_ (.inl mem1) _ _ | with_reducible refine Kept.setAt ?_ (.inl mem2) _ _ | with_reducible refine Kept.setAt ?_ (.inr (Nat.le_refl _)) _ _)) (k1.mono (by simp))
  clear hc hf k1
  have hc : ∀ o, w1.cell? ⟨t, o, none⟩ = tc.cells[o]? := cell_of t1
  simp only [Tc.cells] at hc
  have hf : ∀ o, w1.frozen? ⟨t, o, none⟩ = false := frozen_of t1
  have T1 : Hid _ := t1
  have R1 : Hid _ := r1
  have ht1 := lt_of_block t1
  have hr1 := lt_of_block r1
  have htn : t ≠ w1.heap.size := Nat.ne_of_lt ht1
  clear t1 r1 H HS
  simp only [tabCells, HA.out]
  go_wp2_with fail
  clear hc hf hn
  refine Calls.mono (g_goOn { tc with e := none } t (.func 83) #[.pointer (some ⟨t, 0, none⟩)] #[] _ (by repeat (first | with_reducible refine blk_drew ?_ | with_reducible refine blk_drewN ?_ _ | with_reducible refine block_alloc_lt ?_ _ | exact (block_set_same T1.out _ _).trans (by simp [Tc.cells])))) ?_
  rintro e wz ⟨rfl, hz, kz⟩
  have rz : wz.heap[w.heap.size]? = some (.cells #[.bool false, .bool false, .int .i64 0] 30 (0, 0)) := kz.at (by repeat (first | with_reducible exact R1.out | with_reducible refine blk_drew ?_ | with_reducible refine blk_drewN ?_ _ | with_reducible refine block_set_ne ?_ (by assumption) _ _ | with_reducible refine block_alloc_lt ?_ _)) (by simp <;> omega)
  have KZ : Hid (Kept [t] w wz) := Kept.drop (by repeat (first | with_reducible exact kk1.out | with_reducible refine Kept.drew ?_ | with_reducible refine Kept.drewN ?_ _ | with_reducible refine Kept.alloc ?_ _ | with_reducible refine Kept.setAt ?_ (.inl mem0) _ _ | with_reducible refine Kept.setAt ?_ (.inl mem1) _ _ | with_reducible refine Kept.setAt ?_ (.inl mem2) _ _ | with_reducible refine Kept.setAt ?_ (.inr (Nat.le_refl _)) _ _)) kz (by simp)
  have hcz : ∀ o, wz.cell? ⟨w.heap.size, o, none⟩ = #[.bool false, .bool false, .int .i64 0][o]? := cell_of rz
  have hfz : ∀ o, wz.frozen? ⟨w.heap.size, o, none⟩ = false := frozen_of rz
  clear kz
  simp only [ans]
  go_wp2
  refine bodyPost_ret (v := ans false false 0 0) (by simp [results, Try.results74, go_sem, ans, cell_of (resLaidP rz false false 0)]) rfl ⟨rfl, blk_res hz (by omega) _ _ _, KZ.out.res (Nat.le_refl _) _ _ _⟩
set_option maxRecDepth 100000 in
set_option maxHeartbeats 1600000 in
theorem p_l3_on (tc : Tc) (sh : Sh) (t : Nat) (w : World) (h : w.heap[t]? = some (.cells tc.cells 103 (0, 0))) (hS : w.heap[tc.s]? = some (.cells sh.cells 97 (0, 0))) (hk0 : 0 ≤ tc.key) (hk7 : tc.key < 8) (hR : sh.R tc.key.toNat = none) (ha : sh.am = true) :
    Calls Try.prog 74 #[.pointer (some ⟨t, 0, none⟩)] w fun e w' => e = .returned (ans false false 0 0) ∧ w'.heap[t]? = some (.cells { tc with e := none, nx := .func (.func 84) #[.pointer (some ⟨t, 0, none⟩)] #[] }.cells 103 (0, 0)) ∧ Kept [t] w w' := by
  have hs := lt_of_block h
  have hs2 := lt_of_block hS
  have hne : t ≠ tc.s := ne_of_blocks h hS (by simp)
  have hne' : tc.s ≠ t := Ne.symm hne
  have hnt : t ≠ w.heap.size := Nat.ne_of_lt hs
  have hns : tc.s ≠ w.heap.size := Nat.ne_of_lt hs2
  have hnt' : w.heap.size ≠ t := Ne.symm hnt
  have hns' : w.heap.size ≠ tc.s := Ne.symm hns
  have hc : ∀ o, w.cell? ⟨t, o, none⟩ = tc.cells[o]? := cell_of h
  simp only [Tc.cells] at hc
  have hf : ∀ o, w.frozen? ⟨t, o, none⟩ = false := frozen_of h
  have hn := tabAt sh.R sh.am tc.key hk0 hk7
  rw [hR, ha] at hn
  have H : Hid _ := h
  have HS : Hid _ := hS
  have HA : Hid _ := ha
  clear h hS hR ha
  go_enter Try.func74, Try.ntmps74
  go_wp2_with fail
  refine Calls.mono (g_lookReadk sh tc.s _ (by repeat (first | with_reducible exact HS.out | with_reducible refine blk_drew ?_ | with_reducible refine blk_drewN ?_ _ | with_reducible refine block_set_ne ?_ (by assumption) _ _ | with_reducible refine block_alloc_lt ?_ _))) ?_
  rintro e w1 ⟨rfl, k1⟩
  have t1 : w1.heap[t]? = some (.cells tc.cells 103 (0, 0)) := k1.at (by repeat (first | with_reducible exact H.out | with_reducible refine blk_drew ?_ | with_reducible refine blk_drewN ?_ _ | with_reducible refine block_set_ne ?_ (by assumption) _ _ | with_reducible refine block_alloc_lt ?_ _)) (by simp)
  have r1 : w1.heap[w.heap.size]? = some (.cells #[.bool false, .bool false, .int .i64 0] 30 (0, 0)) := k1.at (by repeat (first | with_reducible exact block_alloc_new _ _ | with_reducible refine blk_drew ?_ | with_reducible refine blk_drewN ?_ _ | with_reducible refine block_set_ne ?_ (by assumption) _ _ | with_reducible exact newBox (by with_reducible first | exact rfl | exact size_setP _ _ _ | exact (size_setP _ _ _).trans (size_setP _ _ _) | exact (size_setP _ _ _).trans ((size_setP _ _ _).trans (size_setP _ _ _))) _ | with_reducible refine block_alloc_lt ?_ _)) (by simp)
  have kk1 : Hid (Kept [t] w w1) := Kept.trans (by repeat (first | with_reducible exact Kept.refl _ _ | with_reducible refine Kept.drew ?_ | with_reducible refine Kept.drewN ?_ _ | with_reducible refine Kept.alloc ?_ _ | with_reducible refine Kept.setAt ?_ (.inl mem0) _ _ | with_reducible refine Kept.setAt ?_ (.inl mem1) _ _ | with_reducible refine Kept.setAt ?_ (.inl mem2) _ _ | with_reducible refine Kept.setAt ?_ (.inr (Nat.le_refl _)) _ _)) (k1.mono (by simp))
  clear hc hf k1
  have hc : ∀ o, w1.cell? ⟨t, o, none⟩ = tc.cells[o]? := cell_of t1
  simp only [Tc.cells] at hc
  have hf : ∀ o, w1.frozen? ⟨t, o, none⟩ = false := frozen_of t1
  have T1 : Hid _ := t1
  have R1 : Hid _ := r1
  have ht1 := lt_of_block t1
  have hr1 := lt_of_block r1
  have htn : t ≠ w1.heap.size := Nat.ne_of_lt ht1
  clear t1 r1 H HS
  simp only [tabCells, HA.out]
  go_wp2_with fail
  clear hc hf hn
  refine Calls.mono (g_goOn { tc with e := none } t (.func 84) #[.pointer (some ⟨t, 0, none⟩)] #[] _ (by repeat (first | with_reducible refine blk_drew ?_ | with_reducible refine blk_drewN ?_ _ | with_reducible refine block_alloc_lt ?_ _ | exact (block_set_same T1.out _ _).trans (by simp [Tc.cells])))) ?_
  rintro e wz ⟨rfl, hz, kz⟩
  have rz : wz.heap[w.heap.size]? = some (.cells #[.bool false, .bool false, .int .i64 0] 30 (0, 0)) := kz.at (by repeat (first | with_reducible exact R1.out | with_reducible refine blk_drew ?_ | with_reducible refine blk_drewN ?_ _ | with_reducible refine block_set_ne ?_ (by assumption) _ _ | with_reducible refine block_alloc_lt ?_ _)) (by simp <;> omega)
  have KZ : Hid (Kept [t] w wz) := Kept.drop (by repeat (first | with_reducible exact kk1.out | with_reducible refine Kept.drew ?_ | with_reducible refine Kept.drewN ?_ _ | with_reducible refine Kept.alloc ?_ _ | with_reducible refine Kept.setAt ?_ (.inl mem0) _ _ | with_reducible refine Kept.setAt ?_ (.inl mem1) _ _ | with_reducible refine Kept.setAt ?_ (.inl mem2) _ _ | with_reducible refine Kept.setAt ?_ (.inr (Nat.le_refl _)) _ _)) kz (by simp)
  have hcz : ∀ o, wz.cell? ⟨w.heap.size, o, none⟩ = #[.bool false, .bool false, .int .i64 0][o]? := cell_of rz
  have hfz : ∀ o, wz.frozen? ⟨w.heap.size, o, none⟩ = false := frozen_of rz
  clear kz
  simp only [ans]
  go_wp2
  refine bodyPost_ret (v := ans false false 0 0) (by simp [results, Try.results74, go_sem, ans, cell_of (resLaidP rz false false 0)]) rfl ⟨rfl, blk_res hz (by omega) _ _ _, KZ.out.res (Nat.le_refl _) _ _ _⟩
end Go.Proofs.Ytmnkphenobfbfaa
namespace Go.Proofs.Ytmnkphenobfbfaa
open Go.RowKit
set_option maxRecDepth 100000 in
set_option maxHeartbeats 1600000 in
theorem p_l4 (tc : Tc) (sh : Sh) (t : Nat) (w : World) (h : w.heap[t]? = some (.cells tc.cells 103 (0, 0))) (hS : w.heap[tc.s]? = some (.cells sh.cells 97 (0, 0))) (hk0 : 0 ≤ tc.key) (hk7 : tc.key < 8) :
    Calls Try.prog 84 #[.pointer (some ⟨t, 0, none⟩)] w fun e w' => e = .returned (ans false false 0 0) ∧ w'.heap[t]? = some (.cells { tc with e := sh.D tc.key.toNat, nx := .func (.func (behindAt tc.kind (sh.D tc.key.toNat))) #[.pointer (some ⟨t, 0, none⟩)] #[] }.cells 103 (0, 0)) ∧ Kept [t] w w' := by
  have hs := lt_of_block h
  have hs2 := lt_of_block hS
  have hne : t ≠ tc.s := ne_of_blocks h hS (by simp)
  have hne' : tc.s ≠ t := Ne.symm hne
  have hnt : t ≠ w.heap.size := Nat.ne_of_lt hs
  have hns : tc.s ≠ w.heap.size := Nat.ne_of_lt hs2
  have hnt' : w.heap.size ≠ t := Ne.symm hnt
  have hns' : w.heap.size ≠ tc.s := Ne.symm hns
  have hc : ∀ o, w.cell? ⟨t, o, none⟩ = tc.cells[o]? := cell_of h
  simp only [Tc.cells] at hc
  have hn := idx_pI sh.D tc.key hk0 hk7
  generalize sh.D tc.key.toNat = e0 at *
  have hf : ∀ o, w.frozen? ⟨t, o, none⟩ = false := frozen_of h
  have hfl := fld105 sh.D sh.hd
  have H : Hid _ := h
  have HS : Hid _ := hS
  clear h hS
  go_enter Try.func84, Try.ntmps84
  go_wp2_with fail
  go_region_held3 (fun w' => w'.cell? ⟨t, 1, none⟩ = some (Value.pointer (some ⟨tc.s, 0, none⟩)) ∧ w'.cell? ⟨t, 3, none⟩ = some (Value.int IntKind.i64 tc.key)) (first | (refine ⟨?_, ?_⟩ <;> go_simp)) ((go_at_call 39; refine (g_lookDirty sh tc.s _ (by repeat (first | with_reducible exact HS.out | with_reducible refine blk_drew ?_ | with_reducible refine blk_drewN ?_ _ | with_reducible refine block_set_ne ?_ (by assumption) _ _ | with_reducible refine block_alloc_lt ?_ _))).mono ?_; rintro e w' ⟨rfl, rfl⟩; simp only [tabCells]))
  clear hn hfl
  go_wp2_with fail
  clear hc hf
  refine Calls.mono (g_behindAt { tc with e := e0 } t _ (by repeat (first | with_reducible refine blk_drew ?_ | with_reducible refine blk_drewN ?_ _ | with_reducible refine block_alloc_lt ?_ _ | exact (block_set_same H.out _ _).trans (by simp [Tc.cells])))) ?_
  rintro e wf ⟨rfl, rfl⟩
  go_wp2_with fail
  refine Calls.mono (g_goOn { tc with e := e0 } t (.func (behindAt tc.kind e0)) #[.pointer (some ⟨t, 0, none⟩)] #[] _ (by repeat (first | with_reducible refine blk_drew ?_ | with_reducible refine blk_drewN ?_ _ | with_reducible refine block_alloc_lt ?_ _ | exact (block_set_same H.out _ _).trans (by simp [Tc.cells])))) ?_
  rintro e wz ⟨rfl, hz, kz⟩
  have rz : wz.heap[w.heap.size]? = some (.cells #[.bool false, .bool false, .int .i64 0] 30 (0, 0)) := kz.at (by repeat (first | with_reducible exact block_alloc_new _ _ | with_reducible refine blk_drew ?_ | with_reducible refine blk_drewN ?_ _ | with_reducible refine block_set_ne ?_ (by assumption) _ _ | with_reducible exact newBox (by with_reducible first | exact rfl | exact size_setP _ _ _ | exact (size_setP _ _ _).trans (size_setP _ _ _) | exact (size_setP _ _ _).trans ((size_setP _ _ _).trans (size_setP _ _ _))) _ | with_reducible refine block_alloc_lt ?_ _)) (by simp <;> omega)
  have KZ : Hid (Kept [t] w wz) := Kept.drop (by repeat (first | with_reducible exact Kept.refl _ _ | with_reducible refine Kept.drew ?_ | with_reducible refine Kept.drewN ?_ _ | with_reducible refine Kept.alloc ?_ _ | with_reducible refine Kept.setAt ?_ (.inl mem0) _ _ | with_reducible refine Kept.setAt ?_ (.inl mem1) _ _ | with_reducible refine Kept.setAt ?_ (.inl mem2) _ _ | with_reducible refine Kept.setAt ?_ (.inr (Nat.le_refl _)) _ _)) kz (by simp)
  have hcz : ∀ o, wz.cell? ⟨w.heap.size, o, none⟩ = #[.bool false, .bool false, .int .i64 0][o]? := cell_of rz
  have hfz : ∀ o, wz.frozen? ⟨w.heap.size, o, none⟩ = false := frozen_of rz
  clear kz
  simp only [ans]
  go_wp2
  refine bodyPost_ret (v := ans false false 0 0) (by simp [results, Try.results84, go_sem, ans, cell_of (resLaidP rz false false 0)]) rfl ⟨rfl, blk_res hz (by omega) _ _ _, KZ.out.res (Nat.le_refl _) _ _ _⟩
set_option maxRecDepth 100000 in
set_option maxHeartbeats 1600000 in
theorem p_l6_end (tc : Tc) (sh : Sh) (t : Nat) (w : World) (h : w.heap[t]? = some (.cells tc.cells 103 (0, 0))) (hS : w.heap[tc.s]? = some (.cells sh.cells 97 (0, 0))) (he : tc.e = none) :
    Calls Try.prog 83 #[.pointer (some ⟨t, 0, none⟩)] w fun e w' => e = .returned (ans true false 0 0) ∧ w'.heap[t]? = some (.cells tc.idle.cells 103 (0, 0)) ∧ w'.heap[tc.s]? = some (.cells { sh with hol := -1 }.cells 97 (0, 0)) ∧ Kept [t, tc.s] w w' := by
  have hs := lt_of_block h
  have hs2 := lt_of_block hS
  have hne : t ≠ tc.s := ne_of_blocks h hS (by simp)
  have hne' : tc.s ≠ t := Ne.symm hne
  have hnt : t ≠ w.heap.size := Nat.ne_of_lt hs
  have hns : tc.s ≠ w.heap.size := Nat.ne_of_lt hs2
  have hnt' : w.heap.size ≠ t := Ne.symm hnt
  have hns' : w.heap.size ≠ tc.s := Ne.symm hns
  have hc : ∀ o, w.cell? ⟨t, o, none⟩ = tc.cells[o]? := cell_of h
  simp only [Tc.cells] at hc
  have H : Hid _ := h
  have HS : Hid _ := hS
  have HEE : Hid _ := he
  clear h hS he
  go_enter Try.func83, Try.ntmps83
  go_wp2_with fail
  refine Calls.mono (g_freeLock tc sh t _ (by repeat (first | with_reducible exact H.out | with_reducible refine blk_drew ?_ | with_reducible refine blk_drewN ?_ _ | with_reducible refine block_set_ne ?_ (by assumption) _ _ | with_reducible refine block_alloc_lt ?_ _)) (by repeat (first | with_reducible exact HS.out | with_reducible refine blk_drew ?_ | with_reducible refine blk_drewN ?_ _ | with_reducible refine block_set_ne ?_ (by assumption) _ _ | with_reducible refine block_alloc_lt ?_ _))) ?_
  rintro e w9 ⟨rfl, s9, k9⟩
  have t9 : w9.heap[t]? = some (.cells tc.cells 103 (0, 0)) := k9.at (by repeat (first | with_reducible exact H.out | with_reducible refine blk_drew ?_ | with_reducible refine blk_drewN ?_ _ | with_reducible refine block_set_ne ?_ (by assumption) _ _ | with_reducible refine block_alloc_lt ?_ _)) (by simp <;> omega)
  have c96 : w9.cell? ⟨t, 6, none⟩ = some (.pointer (none)) := (cell_of t9 6).trans (by simp [Tc.cells, HEE.out])
  clear hc
  go_wp2_with fail
  refine Calls.mono (g_doneNothing tc t _ t9) ?_
  rintro e wz ⟨rfl, hz, kz⟩
  have rz : wz.heap[w.heap.size]? = some (.cells #[.bool false, .bool false, .int .i64 0] 30 (0, 0)) := kz.at (k9.at (by repeat (first | with_reducible exact block_alloc_new _ _ | with_reducible refine blk_drew ?_ | with_reducible refine blk_drewN ?_ _ | with_reducible refine block_set_ne ?_ (by assumption) _ _ | with_reducible exact newBox (by with_reducible first | exact rfl | exact size_setP _ _ _ | exact (size_setP _ _ _).trans (size_setP _ _ _) | exact (size_setP _ _ _).trans ((size_setP _ _ _).trans (size_setP _ _ _))) _ | with_reducible refine block_alloc_lt ?_ _)) (by simp <;> omega)) (by simp <;> omega)
  have sz0 : wz.heap[tc.s]? = some (.cells { sh with hol := -1 }.cells 97 (0, 0)) := kz.at s9 (by simp <;> omega)
  have KZ : Hid (Kept [t, tc.s] w wz) := Kept.drop (Kept.trans (by repeat (first | with_reducible exact Kept.refl _ _ | with_reducible refine Kept.drew ?_ | with_reducible refine Kept.drewN ?_ _ | with_reducible refine Kept.alloc ?_ _ | with_reducible refine Kept.setAt ?_ (.inl mem0) _ _ | with_reducible refine Kept.setAt ?_ (.inl mem1) _ _ | with_reducible refine Kept.setAt ?_ (.inl mem2) _ _ | with_reducible refine Kept.setAt ?_ (.inr (Nat.le_refl _)) _ _)) (k9.mono (by simp))) kz (by simp)
  have hcz : ∀ o, wz.cell? ⟨w.heap.size, o, none⟩ = #[.bool false, .bool false, .int .i64 0][o]? := cell_of rz
  have hfz : ∀ o, wz.frozen? ⟨w.heap.size, o, none⟩ = false := frozen_of rz
  clear kz
  simp only [ans]
  go_wp2
  refine bodyPost_ret (v := ans true false 0 0) (by simp [results, Try.results83, go_sem, ans, cell_of (resLaidP rz true false 0)]) rfl ⟨rfl, blk_res hz (by omega) _ _ _, blk_res sz0 (by omega) _ _ _, KZ.out.res (Nat.le_refl _) _ _ _⟩
set_option maxRecDepth 100000 in
set_option maxHeartbeats 1600000 in
theorem p_l6_on (tc : Tc) (sh : Sh) (t : Nat) (a : Addr) (w : World) (h : w.heap[t]? = some (.cells tc.cells 103 (0, 0))) (hS : w.heap[tc.s]? = some (.cells sh.cells 97 (0, 0))) (he : tc.e = some a) :
    Calls Try.prog 83 #[.pointer (some ⟨t, 0, none⟩)] w fun e w' => e = .returned (ans false false 0 0) ∧ w'.heap[t]? = some (.cells { tc with nx := .func (.func (firstAt tc.kind)) #[.pointer (some ⟨t, 0, none⟩)] #[] }.cells 103 (0, 0)) ∧ w'.heap[tc.s]? = some (.cells { sh with hol := -1 }.cells 97 (0, 0)) ∧ Kept [t, tc.s] w w' := by
  have hs := lt_of_block h
  have hs2 := lt_of_block hS
  have hne : t ≠ tc.s := ne_of_blocks h hS (by simp)
  have hne' : tc.s ≠ t := Ne.symm hne
  have hnt : t ≠ w.heap.size := Nat.ne_of_lt hs
  have hns : tc.s ≠ w.heap.size := Nat.ne_of_lt hs2
  have hnt' : w.heap.size ≠ t := Ne.symm hnt
  have hns' : w.heap.size ≠ tc.s := Ne.symm hns
  have hc : ∀ o, w.cell? ⟨t, o, none⟩ = tc.cells[o]? := cell_of h
  simp only [Tc.cells] at hc
  have H : Hid _ := h
  have HS : Hid _ := hS
  have HEE : Hid _ := he
  clear h hS he
  go_enter Try.func83, Try.ntmps83
  go_wp2_with fail
  refine Calls.mono (g_freeLock tc sh t _ (by repeat (first | with_reducible exact H.out | with_reducible refine blk_drew ?_ | with_reducible refine blk_drewN ?_ _ | with_reducible refine block_set_ne ?_ (by assumption) _ _ | with_reducible refine block_alloc_lt ?_ _)) (by repeat (first | with_reducible exact HS.out | with_reducible refine blk_drew ?_ | with_reducible refine blk_drewN ?_ _ | with_reducible refine block_set_ne ?_ (by assumption) _ _ | with_reducible refine block_alloc_lt ?_ _))) ?_
  rintro e w9 ⟨rfl, s9, k9⟩
  have t9 : w9.heap[t]? = some (.cells tc.cells 103 (0, 0)) := k9.at (by repeat (first | with_reducible exact H.out | with_reducible refine blk_drew ?_ | with_reducible refine blk_drewN ?_ _ | with_reducible refine block_set_ne ?_ (by assumption) _ _ | with_reducible refine block_alloc_lt ?_ _)) (by simp <;> omega)
  have c96 : w9.cell? ⟨t, 6, none⟩ = some (.pointer (some a)) := (cell_of t9 6).trans (by simp [Tc.cells, HEE.out])
  clear hc
  go_wp2_with fail
  refine Calls.mono (g_firstAt tc t _ t9) ?_
  rintro e wf ⟨rfl, rfl⟩
  go_wp2_with fail
  refine Calls.mono (g_goOn tc t (.func (firstAt tc.kind)) #[.pointer (some ⟨t, 0, none⟩)] #[] _ t9) ?_
  rintro e wz ⟨rfl, hz, kz⟩
  have rz : wz.heap[w.heap.size]? = some (.cells #[.bool false, .bool false, .int .i64 0] 30 (0, 0)) := kz.at (k9.at (by repeat (first | with_reducible exact block_alloc_new _ _ | with_reducible refine blk_drew ?_ | with_reducible refine blk_drewN ?_ _ | with_reducible refine block_set_ne ?_ (by assumption) _ _ | with_reducible exact newBox (by with_reducible first | exact rfl | exact size_setP _ _ _ | exact (size_setP _ _ _).trans (size_setP _ _ _) | exact (size_setP _ _ _).trans ((size_setP _ _ _).trans (size_setP _ _ _))) _ | with_reducible refine block_alloc_lt ?_ _)) (by simp <;> omega)) (by simp <;> omega)
  have sz0 : wz.heap[tc.s]? = some (.cells { sh with hol := -1 }.cells 97 (0, 0)) := kz.at s9 (by simp <;> omega)
  have KZ : Hid (Kept [t, tc.s] w wz) := Kept.drop (Kept.trans (by repeat (first | with_reducible exact Kept.refl _ _ | with_reducible refine Kept.drew ?_ | with_reducible refine Kept.drewN ?_ _ | with_reducible refine Kept.alloc ?_ _ | with_reducible refine Kept.setAt ?_ (.inl mem0) _ _ | with_reducible refine Kept.setAt ?_ (.inl mem1) _ _ | with_reducible refine Kept.setAt ?_ (.inl mem2) _ _ | with_reducible refine Kept.setAt ?_ (.inr (Nat.le_refl _)) _ _)) (k9.mono (by simp))) kz (by simp)
  have hcz : ∀ o, wz.cell? ⟨w.heap.size, o, none⟩ = #[.bool false, .bool false, .int .i64 0][o]? := cell_of rz
  have hfz : ∀ o, wz.frozen? ⟨w.heap.size, o, none⟩ = false := frozen_of rz
  clear kz
  simp only [ans]
  go_wp2
  refine bodyPost_ret (v := ans false false 0 0) (by simp [results, Try.results83, go_sem, ans, cell_of (resLaidP rz false false 0)]) rfl ⟨rfl, blk_res hz (by omega) _ _ _, blk_res sz0 (by omega) _ _ _, KZ.out.res (Nat.le_refl _) _ _ _⟩
set_option maxRecDepth 100000 in
set_option maxHeartbeats 1600000 in
theorem p_l7_value (tc : Tc) (t : Nat) (g : Nat) (x y : Int) (w : World) (h : w.heap[t]? = some (.cells tc.cells 103 (0, 0))) (hE : w.heap[g]? = some (.cells #[.int .i64 x, .int .i64 y] 124 (0, 0))) (he : tc.e = some ⟨g, 0, none⟩) (hx : x = 0) :
    Calls Try.prog 72 #[.pointer (some ⟨t, 0, none⟩)] w fun e w' => e = .returned (ans true true y 0) ∧ w'.heap[t]? = some (.cells tc.idle.cells 103 (0, 0)) ∧ Kept [t] w w' := by
  have hs := lt_of_block h
  have hnt : t ≠ w.heap.size := Nat.ne_of_lt hs
  have hnt' : w.heap.size ≠ t := Ne.symm hnt
  have hc : ∀ o, w.cell? ⟨t, o, none⟩ = tc.cells[o]? := cell_of h
  simp only [Tc.cells] at hc
  have hg := lt_of_block hE
  have hgt : g ≠ t := ne_of_blocks hE h (by simp)
  have hgt' : t ≠ g := Ne.symm hgt
  have hgn : g ≠ w.heap.size := Nat.ne_of_lt hg
  have hgn' : w.heap.size ≠ g := Ne.symm hgn
  simp only [he] at hc
  have H : Hid _ := h
  have HE : Hid _ := hE
  clear h hE he
  subst hx
  go_enter Try.func72, Try.ntmps72
  go_wp2_with fail
  refine Calls.mono (g_lookC g 0 y _ (by repeat (first | with_reducible exact HE.out | with_reducible refine blk_drew ?_ | with_reducible refine blk_drewN ?_ _ | with_reducible refine block_set_ne ?_ (by assumption) _ _ | with_reducible refine block_alloc_lt ?_ _))) ?_
  rintro e w1 ⟨rfl, rfl⟩
  go_wp2_with fail
  clear hc
  refine Calls.mono (g_doneWith tc t y _ (by repeat (first | with_reducible exact H.out | with_reducible refine blk_drew ?_ | with_reducible refine blk_drewN ?_ _ | with_reducible refine block_set_ne ?_ (by assumption) _ _ | with_reducible refine block_alloc_lt ?_ _))) ?_
  rintro e wz ⟨rfl, hz, kz⟩
  have rz : wz.heap[w.heap.size]? = some (.cells #[.bool false, .bool false, .int .i64 0] 30 (0, 0)) := kz.at (by repeat (first | with_reducible exact block_alloc_new _ _ | with_reducible refine blk_drew ?_ | with_reducible refine blk_drewN ?_ _ | with_reducible refine block_set_ne ?_ (by assumption) _ _ | with_reducible exact newBox (by with_reducible first | exact rfl | exact size_setP _ _ _ | exact (size_setP _ _ _).trans (size_setP _ _ _) | exact (size_setP _ _ _).trans ((size_setP _ _ _).trans (size_setP _ _ _))) _ | with_reducible refine block_alloc_lt ?_ _)) (by simp <;> omega)
  have KZ : Hid (Kept [t] w wz) := Kept.drop (by repeat (first | with_reducible exact Kept.refl _ _ | with_reducible refine Kept.drew ?_ | with_reducible refine Kept.drewN ?_ _ | with_reducible refine Kept.alloc ?_ _ | with_reducible refine Kept.setAt ?_ (.inl mem0) _ _ | with_reducible refine Kept.setAt ?_ (.inl mem1) _ _ | with_reducible refine Kept.setAt ?_ (.inl mem2) _ _ | with_reducible refine Kept.setAt ?_ (.inr (Nat.le_refl _)) _ _)) kz (by simp)
  have hcz : ∀ o, wz.cell? ⟨w.heap.size, o, none⟩ = #[.bool false, .bool false, .int .i64 0][o]? := cell_of rz
  have hfz : ∀ o, wz.frozen? ⟨w.heap.size, o, none⟩ = false := frozen_of rz
  clear kz
  simp only [ans]
  go_wp2
  refine bodyPost_ret (v := ans true true y 0) (by simp [results, Try.results72, go_sem, ans, cell_of (resLaidP rz true true y)]) rfl ⟨rfl, blk_res hz (by omega) _ _ _, KZ.out.res (Nat.le_refl _) _ _ _⟩
set_option maxRecDepth 100000 in
set_option maxHeartbeats 1600000 in
theorem p_l7_none (tc : Tc) (t : Nat) (g : Nat) (x y : Int) (w : World) (h : w.heap[t]? = some (.cells tc.cells 103 (0, 0))) (hE : w.heap[g]? = some (.cells #[.int .i64 x, .int .i64 y] 124 (0, 0))) (he : tc.e = some ⟨g, 0, none⟩) (hx : ¬ x = 0) :
    Calls Try.prog 72 #[.pointer (some ⟨t, 0, none⟩)] w fun e w' => e = .returned (ans true false 0 0) ∧ w'.heap[t]? = some (.cells tc.idle.cells 103 (0, 0)) ∧ Kept [t] w w' := by
  have hs := lt_of_block h
  have hnt : t ≠ w.heap.size := Nat.ne_of_lt hs
  have hnt' : w.heap.size ≠ t := Ne.symm hnt
  have hc : ∀ o, w.cell? ⟨t, o, none⟩ = tc.cells[o]? := cell_of h
  simp only [Tc.cells] at hc
  have hg := lt_of_block hE
  have hgt : g ≠ t := ne_of_blocks hE h (by simp)
  have hgt' : t ≠ g := Ne.symm hgt
  have hgn : g ≠ w.heap.size := Nat.ne_of_lt hg
  have hgn' : w.heap.size ≠ g := Ne.symm hgn
  simp only [he] at hc
  have H : Hid _ := h
  have HE : Hid _ := hE
  clear h hE he
  go_enter Try.func72, Try.ntmps72
  go_wp2_with fail
  refine Calls.mono (g_lookC g x y _ (by repeat (first | with_reducible exact HE.out | with_reducible refine blk_drew ?_ | with_reducible refine blk_drewN ?_ _ | with_reducible refine block_set_ne ?_ (by assumption) _ _ | with_reducible refine block_alloc_lt ?_ _))) ?_
  rintro e w1 ⟨rfl, rfl⟩
  go_wp2_with fail
  clear hc
  refine Calls.mono (g_doneNothing tc t _ (by repeat (first | with_reducible exact H.out | with_reducible refine blk_drew ?_ | with_reducible refine blk_drewN ?_ _ | with_reducible refine block_set_ne ?_ (by assumption) _ _ | with_reducible refine block_alloc_lt ?_ _))) ?_
  rintro e wz ⟨rfl, hz, kz⟩
  have rz : wz.heap[w.heap.size]? = some (.cells #[.bool false, .bool false, .int .i64 0] 30 (0, 0)) := kz.at (by repeat (first | with_reducible exact block_alloc_new _ _ | with_reducible refine blk_drew ?_ | with_reducible refine blk_drewN ?_ _ | with_reducible refine block_set_ne ?_ (by assumption) _ _ | with_reducible exact newBox (by with_reducible first | exact rfl | exact size_setP _ _ _ | exact (size_setP _ _ _).trans (size_setP _ _ _) | exact (size_setP _ _ _).trans ((size_setP _ _ _).trans (size_setP _ _ _))) _ | with_reducible refine block_alloc_lt ?_ _)) (by simp <;> omega)
  have KZ : Hid (Kept [t] w wz) := Kept.drop (by repeat (first | with_reducible exact Kept.refl _ _ | with_reducible refine Kept.drew ?_ | with_reducible refine Kept.drewN ?_ _ | with_reducible refine Kept.alloc ?_ _ | with_reducible refine Kept.setAt ?_ (.inl mem0) _ _ | with_reducible refine Kept.setAt ?_ (.inl mem1) _ _ | with_reducible refine Kept.setAt ?_ (.inl mem2) _ _ | with_reducible refine Kept.setAt ?_ (.inr (Nat.le_refl _)) _ _)) kz (by simp)
  have hcz : ∀ o, wz.cell? ⟨w.heap.size, o, none⟩ = #[.bool false, .bool false, .int .i64 0][o]? := cell_of rz
  have hfz : ∀ o, wz.frozen? ⟨w.heap.size, o, none⟩ = false := frozen_of rz
  clear kz
  simp only [ans]
  go_wp2
  refine bodyPost_ret (v := ans true false 0 0) (by simp [results, Try.results72, go_sem, ans, cell_of (resLaidP rz true false 0)]) rfl ⟨rfl, blk_res hz (by omega) _ _ _, KZ.out.res (Nat.le_refl _) _ _ _⟩
set_option maxRecDepth 100000 in
set_option maxHeartbeats 1600000 in
theorem p_l52 (tc : Tc) (sh : Sh) (t : Nat) (w : World) (h : w.heap[t]? = some (.cells tc.cells 103 (0, 0))) (hS : w.heap[tc.s]? = some (.cells sh.cells 97 (0, 0)))  :
    Calls Try.prog 105 #[.pointer (some ⟨t, 0, none⟩)] w fun e w' => e = .returned (ans false false 0 0) ∧ w'.heap[t]? = some (.cells { tc with nx := .func (.func 106) #[.pointer (some ⟨t, 0, none⟩)] #[] }.cells 103 (0, 0)) ∧ w'.heap[tc.s]? = some (.cells { sh with D := fun _ => none, hd := false }.cells 97 (0, 0)) ∧ Kept [t, tc.s] w w' := by
  have hs := lt_of_block h
  have hs2 := lt_of_block hS
  have hne : t ≠ tc.s := ne_of_blocks h hS (by simp)
  have hne' : tc.s ≠ t := Ne.symm hne
  have hnt : t ≠ w.heap.size := Nat.ne_of_lt hs
  have hns : tc.s ≠ w.heap.size := Nat.ne_of_lt hs2
  have hnt' : w.heap.size ≠ t := Ne.symm hnt
  have hns' : w.heap.size ≠ tc.s := Ne.symm hns
  have hc : ∀ o, w.cell? ⟨t, o, none⟩ = tc.cells[o]? := cell_of h
  simp only [Tc.cells] at hc
  have H : Hid _ := h
  have HS : Hid _ := hS
  clear h hS
  go_enter Try.func105, Try.ntmps105
  go_wp2_with fail
  refine Calls.mono (g_setDirty sh tc.s (fun _ => none) false _ (by repeat (first | with_reducible exact HS.out | with_reducible refine blk_drew ?_ | with_reducible refine blk_drewN ?_ _ | with_reducible refine block_set_ne ?_ (by assumption) _ _ | with_reducible refine block_alloc_lt ?_ _))) ?_
  rintro e w9 ⟨rfl, s9, k9⟩
  have t9 : w9.heap[t]? = some (.cells tc.cells 103 (0, 0)) := k9.at (by repeat (first | with_reducible exact H.out | with_reducible refine blk_drew ?_ | with_reducible refine blk_drewN ?_ _ | with_reducible refine block_set_ne ?_ (by assumption) _ _ | with_reducible refine block_alloc_lt ?_ _)) (by simp <;> omega)
  clear hc
  go_wp2_with fail
  refine Calls.mono (g_goOn tc t (.func 106) #[.pointer (some ⟨t, 0, none⟩)] #[] _ t9) ?_
  rintro e wz ⟨rfl, hz, kz⟩
  have rz : wz.heap[w.heap.size]? = some (.cells #[.bool false, .bool false, .int .i64 0] 30 (0, 0)) := kz.at (k9.at (by repeat (first | with_reducible exact block_alloc_new _ _ | with_reducible refine blk_drew ?_ | with_reducible refine blk_drewN ?_ _ | with_reducible refine block_set_ne ?_ (by assumption) _ _ | with_reducible exact newBox (by with_reducible first | exact rfl | exact size_setP _ _ _ | exact (size_setP _ _ _).trans (size_setP _ _ _) | exact (size_setP _ _ _).trans ((size_setP _ _ _).trans (size_setP _ _ _))) _ | with_reducible refine block_alloc_lt ?_ _)) (by simp <;> omega)) (by simp <;> omega)
  have sz0 : wz.heap[tc.s]? = some (.cells { sh with D := fun _ => none, hd := false }.cells 97 (0, 0)) := kz.at s9 (by simp <;> omega)
  have KZ : Hid (Kept [t, tc.s] w wz) := Kept.drop (Kept.trans (by repeat (first | with_reducible exact Kept.refl _ _ | with_reducible refine Kept.drew ?_ | with_reducible refine Kept.drewN ?_ _ | with_reducible refine Kept.alloc ?_ _ | with_reducible refine Kept.setAt ?_ (.inl mem0) _ _ | with_reducible refine Kept.setAt ?_ (.inl mem1) _ _ | with_reducible refine Kept.setAt ?_ (.inl mem2) _ _ | with_reducible refine Kept.setAt ?_ (.inr (Nat.le_refl _)) _ _)) (k9.mono (by simp))) kz (by simp)
  have hcz : ∀ o, wz.cell? ⟨w.heap.size, o, none⟩ = #[.bool false, .bool false, .int .i64 0][o]? := cell_of rz
  have hfz : ∀ o, wz.frozen? ⟨w.heap.size, o, none⟩ = false := frozen_of rz
  clear kz
  simp only [ans]
  go_wp2
  refine bodyPost_ret (v := ans false false 0 0) (by simp [results, Try.results105, go_sem, ans, cell_of (resLaidP rz false false 0)]) rfl ⟨rfl, blk_res hz (by omega) _ _ _, blk_res sz0 (by omega) _ _ _, KZ.out.res (Nat.le_refl _) _ _ _⟩
set_option maxRecDepth 100000 in
set_option maxHeartbeats 1600000 in
theorem p_l53 (tc : Tc) (sh : Sh) (t : Nat) (w : World) (h : w.heap[t]? = some (.cells tc.cells 103 (0, 0))) (hS : w.heap[tc.s]? = some (.cells sh.cells 97 (0, 0)))  :
    Calls Try.prog 106 #[.pointer (some ⟨t, 0, none⟩)] w fun e w' => e = .returned (ans false false 0 0) ∧ w'.heap[t]? = some (.cells { tc with nx := .func (.func 83) #[.pointer (some ⟨t, 0, none⟩)] #[] }.cells 103 (0, 0)) ∧ w'.heap[tc.s]? = some (.cells { sh with mis := 0 }.cells 97 (0, 0)) ∧ Kept [t, tc.s] w w' := by
  have hs := lt_of_block h
  have hs2 := lt_of_block hS
  have hne : t ≠ tc.s := ne_of_blocks h hS (by simp)
  have hne' : tc.s ≠ t := Ne.symm hne
  have hnt : t ≠ w.heap.size := Nat.ne_of_lt hs
  have hns : tc.s ≠ w.heap.size := Nat.ne_of_lt hs2
  have hnt' : w.heap.size ≠ t := Ne.symm hnt
  have hns' : w.heap.size ≠ tc.s := Ne.symm hns
  have hc : ∀ o, w.cell? ⟨t, o, none⟩ = tc.cells[o]? := cell_of h
  simp only [Tc.cells] at hc
  have H : Hid _ := h
  have HS : Hid _ := hS
  clear h hS
  go_enter Try.func106, Try.ntmps106
  go_wp2_with fail
  refine Calls.mono (g_setInt tc.s 18 sh.mis 0 _ (cell_of (block_alloc_lt HS.out _) 18) (frozen_of (block_alloc_lt HS.out _) 18)) ?_
  rintro e w9 ⟨rfl, rfl⟩
  clear hc
  go_wp2_with fail
  refine Calls.mono (g_goOn tc t (.func 83) #[.pointer (some ⟨t, 0, none⟩)] #[] _ (by repeat (first | with_reducible exact H.out | with_reducible refine blk_drew ?_ | with_reducible refine blk_drewN ?_ _ | with_reducible refine block_set_ne ?_ (by assumption) _ _ | with_reducible refine block_alloc_lt ?_ _))) ?_
  rintro e wz ⟨rfl, hz, kz⟩
  have rz : wz.heap[w.heap.size]? = some (.cells #[.bool false, .bool false, .int .i64 0] 30 (0, 0)) := kz.at (by repeat (first | with_reducible exact block_alloc_new _ _ | with_reducible refine blk_drew ?_ | with_reducible refine blk_drewN ?_ _ | with_reducible refine block_set_ne ?_ (by assumption) _ _ | with_reducible exact newBox (by with_reducible first | exact rfl | exact size_setP _ _ _ | exact (size_setP _ _ _).trans (size_setP _ _ _) | exact (size_setP _ _ _).trans ((size_setP _ _ _).trans (size_setP _ _ _))) _ | with_reducible refine block_alloc_lt ?_ _)) (by simp <;> omega)
  have sz0 : wz.heap[tc.s]? = some (.cells { sh with mis := 0 }.cells 97 (0, 0)) := kz.at (by repeat (first | with_reducible refine blk_drew ?_ | with_reducible refine blk_drewN ?_ _ | with_reducible refine block_alloc_lt ?_ _ | exact (block_set_same HS.out _ _).trans (by simp [Sh.cells]))) (by simp <;> omega)
  have KZ : Hid (Kept [t, tc.s] w wz) := Kept.drop (by repeat (first | with_reducible exact Kept.refl _ _ | with_reducible refine Kept.drew ?_ | with_reducible refine Kept.drewN ?_ _ | with_reducible refine Kept.alloc ?_ _ | with_reducible refine Kept.setAt ?_ (.inl mem0) _ _ | with_reducible refine Kept.setAt ?_ (.inl mem1) _ _ | with_reducible refine Kept.setAt ?_ (.inl mem2) _ _ | with_reducible refine Kept.setAt ?_ (.inr (Nat.le_refl _)) _ _)) kz (by simp)
  have hcz : ∀ o, wz.cell? ⟨w.heap.size, o, none⟩ = #[.bool false, .bool false, .int .i64 0][o]? := cell_of rz
  have hfz : ∀ o, wz.frozen? ⟨w.heap.size, o, none⟩ = false := frozen_of rz
  clear kz
  simp only [ans]
  go_wp2
  refine bodyPost_ret (v := ans false false 0 0) (by simp [results, Try.results106, go_sem, ans, cell_of (resLaidP rz false false 0)]) rfl ⟨rfl, blk_res hz (by omega) _ _ _, blk_res sz0 (by omega) _ _ _, KZ.out.res (Nat.le_refl _) _ _ _⟩
end Go.Proofs.Ytmnkphenobfbfaa
namespace Go.Proofs.Ytmnkphenobfbfaa
open Go.RowKit
theorem g_lookDirtyk (sh : Sh) (s : Nat) (w : World) (h : w.heap[s]? = some (.cells sh.cells 97 (0, 0))) :
    Calls Try.prog 39 #[.pointer (some ⟨s, 9, none⟩)] w fun e w' => e = .returned (.agg (tabCells sh.D sh.hd)) ∧ Kept [] w w' := by
  refine (g_lookDirty sh s w h).mono ?_
  rintro e w' ⟨rfl, rfl⟩
  exact ⟨rfl, (Kept.refl [] w).alloc _⟩
set_option maxRecDepth 100000 in
set_option maxHeartbeats 1600000 in
theorem p_l5_few (tc : Tc) (sh : Sh) (t : Nat) (w : World) (h : w.heap[t]? = some (.cells tc.cells 103 (0, 0))) (hS : w.heap[tc.s]? = some (.cells sh.cells 97 (0, 0))) (hm0 : 0 ≤ sh.mis) (hm1 : sh.mis < 1000000) (hx : sh.mis + 1 < (cntP sh.D 8 : Int)) :
    Calls Try.prog 98 #[.pointer (some ⟨t, 0, none⟩)] w fun e w' => e = .returned (ans false false 0 0) ∧ w'.heap[t]? = some (.cells { tc with nx := .func (.func 83) #[.pointer (some ⟨t, 0, none⟩)] #[] }.cells 103 (0, 0)) ∧ w'.heap[tc.s]? = some (.cells { sh with mis := sh.mis + 1 }.cells 97 (0, 0)) ∧ Kept [t, tc.s] w w' := by
  have hs := lt_of_block h
  have hs2 := lt_of_block hS
  have hne : t ≠ tc.s := ne_of_blocks h hS (by simp)
  have hne' : tc.s ≠ t := Ne.symm hne
  have hnt : t ≠ w.heap.size := Nat.ne_of_lt hs
  have hns : tc.s ≠ w.heap.size := Nat.ne_of_lt hs2
  have hnt' : w.heap.size ≠ t := Ne.symm hnt
  have hns' : w.heap.size ≠ tc.s := Ne.symm hns
  have hc : ∀ o, w.cell? ⟨t, o, none⟩ = tc.cells[o]? := cell_of h
  simp only [Tc.cells] at hc
  have hfl := fld105 sh.D sh.hd
  have hle := cntP_le sh.D 8
  have H : Hid _ := h
  have HS : Hid _ := hS
  clear h hS
  go_enter Try.func98, Try.ntmps98
  go_wp2_with fail
  refine Calls.mono (g_lookInt tc.s 18 sh.mis _ (cell_of (block_alloc_lt HS.out _) 18)) ?_
  rintro e w1 ⟨rfl, rfl⟩
  go_wp2_with fail
  refine Calls.mono (g_setInt tc.s 18 sh.mis (sh.mis + 1) _ (cell_of (block_alloc_lt HS.out _) 18) (frozen_of (block_alloc_lt HS.out _) 18)) ?_
  rintro e w1 ⟨rfl, rfl⟩
  go_wp2_with fail
  refine Calls.mono (g_lookDirtyk { sh with mis := sh.mis + 1 } tc.s _ (by repeat (first | with_reducible refine block_alloc_lt ?_ _ | exact (block_set_same HS.out _ _).trans (by simp [Sh.cells]) | exact (block_set_same (block_alloc_lt HS.out _) _ _).trans (by simp [Sh.cells])))) ?_
  rintro e w2 ⟨rfl, k2⟩
  have t2 : w2.heap[t]? = some (.cells tc.cells 103 (0, 0)) := k2.at (by repeat (first | with_reducible exact H.out | with_reducible refine blk_drew ?_ | with_reducible refine blk_drewN ?_ _ | with_reducible refine block_set_ne ?_ (by assumption) _ _ | with_reducible refine block_alloc_lt ?_ _)) (by simp)
  have r2 : w2.heap[w.heap.size]? = some (.cells #[.bool false, .bool false, .int .i64 0] 30 (0, 0)) := k2.at (by repeat (first | with_reducible exact block_alloc_new _ _ | with_reducible refine blk_drew ?_ | with_reducible refine blk_drewN ?_ _ | with_reducible refine block_set_ne ?_ (by assumption) _ _ | with_reducible exact newBox (by with_reducible first | exact rfl | exact size_setP _ _ _ | exact (size_setP _ _ _).trans (size_setP _ _ _) | exact (size_setP _ _ _).trans ((size_setP _ _ _).trans (size_setP _ _ _))) _ | with_reducible refine block_alloc_lt ?_ _)) (by simp)
  have s2 : w2.heap[tc.s]? = some (.cells { sh with mis := sh.mis + 1 }.cells 97 (0, 0)) := k2.at (by repeat (first | with_reducible refine block_alloc_lt ?_ _ | exact (block_set_same HS.out _ _).trans (by simp [Sh.cells]) | exact (block_set_same (block_alloc_lt HS.out _) _ _).trans (by simp [Sh.cells]))) (by simp)
  have kk2 : Hid (Kept [t, tc.s] w w2) := Kept.trans (by repeat (first | with_reducible exact Kept.refl _ _ | with_reducible refine Kept.drew ?_ | with_reducible refine Kept.drewN ?_ _ | with_reducible refine Kept.alloc ?_ _ | with_reducible refine Kept.setAt ?_ (.inl mem0) _ _ | with_reducible refine Kept.setAt ?_ (.inl mem1) _ _ | with_reducible refine Kept.setAt ?_ (.inl mem2) _ _ | with_reducible refine Kept.setAt ?_ (.inr (Nat.le_refl _)) _ _)) (k2.mono (by simp))
  clear hc k2
  simp only [tabCells]
  go_wp2_with fail
  refine Calls.mono (g_count sh.D _) ?_
  rintro e w9 ⟨rfl, k9⟩
  have t9 := k9.at t2 (by simp)
  have r9 := k9.at r2 (by simp)
  have s9 := k9.at s2 (by simp)
  have kk9 : Hid (Kept [t, tc.s] w w9) := kk2.out.trans (k9.mono (by simp))
  clear k9 t2 r2 s2
  go_wp2_with fail
  refine Calls.mono (g_goOn tc t (.func 83) #[.pointer (some ⟨t, 0, none⟩)] #[] _ t9) ?_
  rintro e wz ⟨rfl, hz, kz⟩
  have rz : wz.heap[w.heap.size]? = some (.cells #[.bool false, .bool false, .int .i64 0] 30 (0, 0)) := kz.at r9 (by simp <;> omega)
  have sz0 : wz.heap[tc.s]? = some (.cells { sh with mis := sh.mis + 1 }.cells 97 (0, 0)) := kz.at s9 (by simp <;> omega)
  have KZ : Hid (Kept [t, tc.s] w wz) := Kept.drop kk9.out kz (by simp)
  have hcz : ∀ o, wz.cell? ⟨w.heap.size, o, none⟩ = #[.bool false, .bool false, .int .i64 0][o]? := cell_of rz
  have hfz : ∀ o, wz.frozen? ⟨w.heap.size, o, none⟩ = false := frozen_of rz
  clear kz
  simp only [ans]
  go_wp2
  refine bodyPost_ret (v := ans false false 0 0) (by simp [results, Try.results98, go_sem, ans, cell_of (resLaidP rz false false 0)]) rfl ⟨rfl, blk_res hz (by omega) _ _ _, blk_res sz0 (by omega) _ _ _, KZ.out.res (Nat.le_refl _) _ _ _⟩
set_option maxRecDepth 100000 in
set_option maxHeartbeats 1600000 in
theorem p_l5_all (tc : Tc) (sh : Sh) (t : Nat) (w : World) (h : w.heap[t]? = some (.cells tc.cells 103 (0, 0))) (hS : w.heap[tc.s]? = some (.cells sh.cells 97 (0, 0))) (hm0 : 0 ≤ sh.mis) (hm1 : sh.mis < 1000000) (hx : ¬ sh.mis + 1 < (cntP sh.D 8 : Int)) :
    Calls Try.prog 98 #[.pointer (some ⟨t, 0, none⟩)] w fun e w' => e = .returned (ans false false 0 0) ∧ w'.heap[t]? = some (.cells { tc with nx := .func (.func 103) #[.pointer (some ⟨t, 0, none⟩)] #[] }.cells 103 (0, 0)) ∧ w'.heap[tc.s]? = some (.cells { sh with mis := sh.mis + 1 }.cells 97 (0, 0)) ∧ Kept [t, tc.s] w w' := by
  have hs := lt_of_block h
  have hs2 := lt_of_block hS
  have hne : t ≠ tc.s := ne_of_blocks h hS (by simp)
  have hne' : tc.s ≠ t := Ne.symm hne
  have hnt : t ≠ w.heap.size := Nat.ne_of_lt hs
  have hns : tc.s ≠ w.heap.size := Nat.ne_of_lt hs2
  have hnt' : w.heap.size ≠ t := Ne.symm hnt
  have hns' : w.heap.size ≠ tc.s := Ne.symm hns
  have hc : ∀ o, w.cell? ⟨t, o, none⟩ = tc.cells[o]? := cell_of h
  simp only [Tc.cells] at hc
  have hfl := fld105 sh.D sh.hd
  have hle := cntP_le sh.D 8
  have H : Hid _ := h
  have HS : Hid _ := hS
  clear h hS
  go_enter Try.func98, Try.ntmps98
  go_wp2_with fail
  refine Calls.mono (g_lookInt tc.s 18 sh.mis _ (cell_of (block_alloc_lt HS.out _) 18)) ?_
  rintro e w1 ⟨rfl, rfl⟩
  go_wp2_with fail
  refine Calls.mono (g_setInt tc.s 18 sh.mis (sh.mis + 1) _ (cell_of (block_alloc_lt HS.out _) 18) (frozen_of (block_alloc_lt HS.out _) 18)) ?_
  rintro e w1 ⟨rfl, rfl⟩
  go_wp2_with fail
  refine Calls.mono (g_lookDirtyk { sh with mis := sh.mis + 1 } tc.s _ (by repeat (first | with_reducible refine block_alloc_lt ?_ _ | exact (block_set_same HS.out _ _).trans (by simp [Sh.cells]) | exact (block_set_same (block_alloc_lt HS.out _) _ _).trans (by simp [Sh.cells])))) ?_
  rintro e w2 ⟨rfl, k2⟩
  have t2 : w2.heap[t]? = some (.cells tc.cells 103 (0, 0)) := k2.at (by repeat (first | with_reducible exact H.out | with_reducible refine blk_drew ?_ | with_reducible refine blk_drewN ?_ _ | with_reducible refine block_set_ne ?_ (by assumption) _ _ | with_reducible refine block_alloc_lt ?_ _)) (by simp)
  have r2 : w2.heap[w.heap.size]? = some (.cells #[.bool false, .bool false, .int .i64 0] 30 (0, 0)) := k2.at (by repeat (first | with_reducible exact block_alloc_new _ _ | with_reducible refine blk_drew ?_ | with_reducible refine blk_drewN ?_ _ | with_reducible refine block_set_ne ?_ (by assumption) _ _ | with_reducible exact newBox (by with_reducible first | exact rfl | exact size_setP _ _ _ | exact (size_setP _ _ _).trans (size_setP _ _ _) | exact (size_setP _ _ _).trans ((size_setP _ _ _).trans (size_setP _ _ _))) _ | with_reducible refine block_alloc_lt ?_ _)) (by simp)
  have s2 : w2.heap[tc.s]? = some (.cells { sh with mis := sh.mis + 1 }.cells 97 (0, 0)) := k2.at (by repeat (first | with_reducible refine block_alloc_lt ?_ _ | exact (block_set_same HS.out _ _).trans (by simp [Sh.cells]) | exact (block_set_same (block_alloc_lt HS.out _) _ _).trans (by simp [Sh.cells]))) (by simp)
  have kk2 : Hid (Kept [t, tc.s] w w2) := Kept.trans (by repeat (first | with_reducible exact Kept.refl _ _ | with_reducible refine Kept.drew ?_ | with_reducible refine Kept.drewN ?_ _ | with_reducible refine Kept.alloc ?_ _ | with_reducible refine Kept.setAt ?_ (.inl mem0) _ _ | with_reducible refine Kept.setAt ?_ (.inl mem1) _ _ | with_reducible refine Kept.setAt ?_ (.inl mem2) _ _ | with_reducible refine Kept.setAt ?_ (.inr (Nat.le_refl _)) _ _)) (k2.mono (by simp))
  clear hc k2
  simp only [tabCells]
  go_wp2_with fail
  refine Calls.mono (g_count sh.D _) ?_
  rintro e w9 ⟨rfl, k9⟩
  have t9 := k9.at t2 (by simp)
  have r9 := k9.at r2 (by simp)
  have s9 := k9.at s2 (by simp)
  have kk9 : Hid (Kept [t, tc.s] w w9) := kk2.out.trans (k9.mono (by simp))
  clear k9 t2 r2 s2
  go_wp2_with fail
  refine Calls.mono (g_goOn tc t (.func 103) #[.pointer (some ⟨t, 0, none⟩)] #[] _ t9) ?_
  rintro e wz ⟨rfl, hz, kz⟩
  have rz : wz.heap[w.heap.size]? = some (.cells #[.bool false, .bool false, .int .i64 0] 30 (0, 0)) := kz.at r9 (by simp <;> omega)
  have sz0 : wz.heap[tc.s]? = some (.cells { sh with mis := sh.mis + 1 }.cells 97 (0, 0)) := kz.at s9 (by simp <;> omega)
  have KZ : Hid (Kept [t, tc.s] w wz) := Kept.drop kk9.out kz (by simp)
  have hcz : ∀ o, wz.cell? ⟨w.heap.size, o, none⟩ = #[.bool false, .bool false, .int .i64 0][o]? := cell_of rz
  have hfz : ∀ o, wz.frozen? ⟨w.heap.size, o, none⟩ = false := frozen_of rz
  clear kz
  simp only [ans]
  go_wp2
  refine bodyPost_ret (v := ans false false 0 0) (by simp [results, Try.results98, go_sem, ans, cell_of (resLaidP rz false false 0)]) rfl ⟨rfl, blk_res hz (by omega) _ _ _, blk_res sz0 (by omega) _ _ _, KZ.out.res (Nat.le_refl _) _ _ _⟩
set_option maxRecDepth 100000 in
set_option maxHeartbeats 1600000 in
theorem p_l51 (tc : Tc) (sh : Sh) (t : Nat) (w : World) (h : w.heap[t]? = some (.cells tc.cells 103 (0, 0))) (hS : w.heap[tc.s]? = some (.cells sh.cells 97 (0, 0)))  :
    Calls Try.prog 103 #[.pointer (some ⟨t, 0, none⟩)] w fun e w' => e = .returned (ans false false 0 0) ∧ w'.heap[t]? = some (.cells { tc with nx := .func (.func 105) #[.pointer (some ⟨t, 0, none⟩)] #[] }.cells 103 (0, 0)) ∧ w'.heap[tc.s]? = some (.cells { sh with R := sh.D, am := false }.cells 97 (0, 0)) ∧ Kept [t, tc.s] w w' := by
  have hs := lt_of_block h
  have hs2 := lt_of_block hS
  have hne : t ≠ tc.s := ne_of_blocks h hS (by simp)
  have hne' : tc.s ≠ t := Ne.symm hne
  have hnt : t ≠ w.heap.size := Nat.ne_of_lt hs
  have hns : tc.s ≠ w.heap.size := Nat.ne_of_lt hs2
  have hnt' : w.heap.size ≠ t := Ne.symm hnt
  have hns' : w.heap.size ≠ tc.s := Ne.symm hns
  have hc : ∀ o, w.cell? ⟨t, o, none⟩ = tc.cells[o]? := cell_of h
  simp only [Tc.cells] at hc
  have hfl := fld105 sh.D sh.hd
  have H : Hid _ := h
  have HS : Hid _ := hS
  clear h hS
  go_enter Try.func103, Try.ntmps103
  go_wp2_with fail
  go_region_held3 (fun w' => w'.cell? ⟨t, 1, none⟩ = some (Value.pointer (some ⟨tc.s, 0, none⟩))) (first | exact c91 | (go_simp)) (first | (go_at_call 39; refine (g_lookDirty sh tc.s _ (by repeat (first | with_reducible exact HS.out | with_reducible refine blk_drew ?_ | with_reducible refine blk_drewN ?_ _ | with_reducible refine block_set_ne ?_ (by assumption) _ _ | with_reducible refine block_alloc_lt ?_ _))).mono ?_; rintro e w' ⟨rfl, rfl⟩; simp only [tabCells]) | (go_at_call 104; refine Calls.mono (g_setRead sh tc.s sh.D false _ (by repeat (first | with_reducible exact HS.out | with_reducible refine blk_drew ?_ | with_reducible refine blk_drewN ?_ _ | with_reducible refine block_set_ne ?_ (by assumption) _ _ | with_reducible refine block_alloc_lt ?_ _))) ?_; rintro e w9 ⟨rfl, s9, k9⟩; have t9 : w9.heap[t]? = some (.cells tc.cells 103 (0, 0)) := k9.at (by repeat (first | with_reducible exact H.out | with_reducible refine blk_drew ?_ | with_reducible refine blk_drewN ?_ _ | with_reducible refine block_set_ne ?_ (by assumption) _ _ | with_reducible refine block_alloc_lt ?_ _)) (by simp <;> omega); have c91 : w9.cell? ⟨t, 1, none⟩ = some (Value.pointer (some ⟨tc.s, 0, none⟩)) := cell_of t9 1))
  clear hc
  go_wp2_with fail
  refine Calls.mono (g_goOn tc t (.func 105) #[.pointer (some ⟨t, 0, none⟩)] #[] _ t9) ?_
  rintro e wz ⟨rfl, hz, kz⟩
  have rz : wz.heap[w.heap.size]? = some (.cells #[.bool false, .bool false, .int .i64 0] 30 (0, 0)) := kz.at (k9.at (by repeat (first | with_reducible exact block_alloc_new _ _ | with_reducible refine blk_drew ?_ | with_reducible refine blk_drewN ?_ _ | with_reducible refine block_set_ne ?_ (by assumption) _ _ | with_reducible exact newBox (by with_reducible first | exact rfl | exact size_setP _ _ _ | exact (size_setP _ _ _).trans (size_setP _ _ _) | exact (size_setP _ _ _).trans ((size_setP _ _ _).trans (size_setP _ _ _))) _ | with_reducible refine block_alloc_lt ?_ _)) (by simp <;> omega)) (by simp <;> omega)
  have sz0 : wz.heap[tc.s]? = some (.cells { sh with R := sh.D, am := false }.cells 97 (0, 0)) := kz.at s9 (by simp <;> omega)
  have KZ : Hid (Kept [t, tc.s] w wz) := Kept.drop (Kept.trans (by repeat (first | with_reducible exact Kept.refl _ _ | with_reducible refine Kept.drew ?_ | with_reducible refine Kept.drewN ?_ _ | with_reducible refine Kept.alloc ?_ _ | with_reducible refine Kept.setAt ?_ (.inl mem0) _ _ | with_reducible refine Kept.setAt ?_ (.inl mem1) _ _ | with_reducible refine Kept.setAt ?_ (.inl mem2) _ _ | with_reducible refine Kept.setAt ?_ (.inr (Nat.le_refl _)) _ _)) (k9.mono (by simp))) kz (by simp)
  have hcz : ∀ o, wz.cell? ⟨w.heap.size, o, none⟩ = #[.bool false, .bool false, .int .i64 0][o]? := cell_of rz
  have hfz : ∀ o, wz.frozen? ⟨w.heap.size, o, none⟩ = false := frozen_of rz
  clear kz
  simp only [ans]
  go_wp2
  refine bodyPost_ret (v := ans false false 0 0) (by simp [results, Try.results103, go_sem, ans, cell_of (resLaidP rz false false 0)]) rfl ⟨rfl, blk_res hz (by omega) _ _ _, blk_res sz0 (by omega) _ _ _, KZ.out.res (Nat.le_refl _) _ _ _⟩
end Go.Proofs.Ytmnkphenobfbfaa
