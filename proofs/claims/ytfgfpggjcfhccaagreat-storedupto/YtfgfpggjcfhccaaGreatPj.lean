import Derived.Test.YtfgfpggjcfhccaaGreatPi
namespace Go.Proofs.YtfgfpggjcfhccaaGreat
open Go.RowKit
theorem tabAt (f : Nat → Option Addr) (b : Bool) (x : Int) (h0 : 0 ≤ x) (h7 : x < 8) : #[Value.pointer (f 0), .pointer (f 1), .pointer (f 2), .pointer (f 3), .pointer (f 4), .pointer (f 5), .pointer (f 6), .pointer (f 7), .bool b][x.toNat]? = some (.pointer (f x.toNat)) := by
  obtain ⟨k, rfl⟩ := Int.eq_ofNat_of_zero_le h0
  have hk : k < 8 := by omega
  simp only [Int.toNat_natCast]
  match k, hk with
  | 0, _ | 1, _ | 2, _ | 3, _ | 4, _ | 5, _ | 6, _ | 7, _ => rfl
theorem g_lookReadk (sh : Sh) (s : Nat) (w : World) (h : w.heap[s]? = some (.cells sh.cells 111 (0, 0))) :
    Calls Tryz.prog 45 #[.pointer (some ⟨s, 0, none⟩)] w fun e w' => e = .returned (.agg (tabCells sh.R sh.am)) ∧ Kept [] w w' := by
  refine (g_lookRead sh s w h).mono ?_
  rintro e w' ⟨rfl, rfl⟩
  exact ⟨rfl, (Kept.refl [] w).alloc _⟩
set_option maxRecDepth 100000 in
set_option maxHeartbeats 1600000 in
theorem p_l1_in (tc : Tc) (sh : Sh) (t : Nat) (a : Addr) (w : World) (h : w.heap[t]? = some (.cells tc.cells 116 (0, 0))) (hS : w.heap[tc.s]? = some (.cells sh.cells 111 (0, 0))) (hk0 : 0 ≤ tc.key) (hk7 : tc.key < 8) (hR : sh.R tc.key.toNat = some a) :
    Calls Tryz.prog 68 #[.pointer (some ⟨t, 0, none⟩)] w fun e w' => e = .returned (ans false false 0 0) ∧ w'.heap[t]? = some (.cells { tc with e := some a, nx := .func (.func 80) #[.pointer (some ⟨t, 0, none⟩)] #[] }.cells 116 (0, 0)) ∧ Kept [t] w w' := by
  have hs := lt_of_block h
  have hs2 := lt_of_block hS
  have hne : t ≠ tc.s := ne_of_blocks h hS (by simp)
  have hne' : tc.s ≠ t := Ne.symm hne
  have hnt : t ≠ w.heap.size := Nat.ne_of_lt hs
  have hns : tc.s ≠ w.heap.size := Nat.ne_of_lt hs2
  have hnt' : w.heap.size ≠ t := Ne.symm hnt
  have hns' : w.heap.size ≠ tc.s := Ne.symm hns
  have hc : ∀ o, w.cell? ⟨t, o, none⟩ = tc.cells[o]? := cell_of h
  simp only [Tc.cells] at hc
  have hf : ∀ o, w.frozen? ⟨t, o, none⟩ = false := frozen_of h
  have hn := tabAt sh.R sh.am tc.key hk0 hk7
  rw [hR] at hn
  have H : Hid _ := h
  have HS : Hid _ := hS
  clear h hS hR
  go_enter Tryz.func68, Tryz.ntmps68
  go_wp2_with fail
  refine Calls.mono (g_lookReadk sh tc.s _ (by repeat (first | with_reducible exact HS.out | with_reducible refine blk_drew ?_ | with_reducible refine blk_drewN ?_ _ | with_reducible refine block_set_ne ?_ (by assumption) _ _ | with_reducible refine block_alloc_lt ?_ _))) ?_
  rintro e w1 ⟨rfl, k1⟩
  have t1 : w1.heap[t]? = some (.cells tc.cells 116 (0, 0)) := k1.at (by repeat (first | with_reducible exact H.out | with_reducible refine blk_drew ?_ | with_reducible refine blk_drewN ?_ _ | with_reducible refine block_set_ne ?_ (by assumption) _ _ | with_reducible refine block_alloc_lt ?_ _)) (by simp)
  have r1 : w1.heap[w.heap.size]? = some (.cells #[.bool false, .bool false, .int .i64 0] 52 (0, 0)) := k1.at (by repeat (first | with_reducible exact block_alloc_new _ _ | with_reducible refine blk_drew ?_ | with_reducible refine blk_drewN ?_ _ | with_reducible refine block_set_ne ?_ (by assumption) _ _ | with_reducible exact newBox (by with_reducible first | exact rfl | exact size_setP _ _ _ | exact (size_setP _ _ _).trans (size_setP _ _ _) | exact (size_setP _ _ _).trans ((size_setP _ _ _).trans (size_setP _ _ _))) _ | with_reducible refine block_alloc_lt ?_ _)) (by simp)
  have kk1 : Hid (Kept [t] w w1) := Kept.trans (by repeat (first | with_reducible exact Kept.refl _ _ | with_reducible refine Kept.drew ?_ | with_reducible refine Kept.drewN ?_ _ | with_reducible refine Kept.alloc ?_ _ | with_reducible refine Kept.setAt ?_ (.inl mem0) _ _ | with_reducible refine Kept.setAt ?_ (.inl mem1) _ _ | with_reducible refine Kept.setAt ?_ (.inl mem2) _ _ | with_reducible refine Kept.setAt ?_ (.inr (Nat.le_refl _)) _ _)) (k1.mono (by simp))
  clear hc hf k1
  have hc : ∀ o, w1.cell? ⟨t, o, none⟩ = tc.cells[o]? := cell_of t1
  simp only [Tc.cells] at hc
  have hf : ∀ o, w1.frozen? ⟨t, o, none⟩ = false := frozen_of t1
  have T1 : Hid _ := t1
  have R1 : Hid _ := r1
  have ht1 := lt_of_block t1
  have hr1 := lt_of_block r1
  have htn : t ≠ w1.heap.size := Nat.ne_of_lt ht1
  clear t1 r1 H HS
  simp only [tabCells]
  go_wp2_with fail
  clear hc hf hn
  refine Calls.mono (g_goOn { tc with e := some a } t (.func 80) #[.pointer (some ⟨t, 0, none⟩)] #[] _ (by repeat (first | with_reducible refine blk_drew ?_ | with_reducible refine blk_drewN ?_ _ | with_reducible refine block_alloc_lt ?_ _ | exact (block_set_same T1.out _ _).trans (by simp [Tc.cells])))) ?_
  rintro e wz ⟨rfl, hz, kz⟩
  have rz : wz.heap[w.heap.size]? = some (.cells #[.bool false, .bool false, .int .i64 0] 52 (0, 0)) := kz.at (by repeat (first | with_reducible exact R1.out | with_reducible refine blk_drew ?_ | with_reducible refine blk_drewN ?_ _ | with_reducible refine block_set_ne ?_ (by assumption) _ _ | with_reducible refine block_alloc_lt ?_ _)) (by simp <;> omega)
  have KZ : Hid (Kept [t] w wz) := Kept.drop (by repeat (first | with_reducible exact kk1.out | with_reducible refine Kept.drew ?_ | with_reducible refine Kept.drewN ?_ _ | with_reducible refine Kept.alloc ?_ _ | with_reducible refine Kept.setAt ?_ (.inl mem0) _ _ | with_reducible refine Kept.setAt ?_ (.inl mem1) _ _ | with_reducible refine Kept.setAt ?_ (.inl mem2) _ _ | with_reducible refine Kept.setAt ?_ (.inr (Nat.le_refl _)) _ _)) kz (by simp)
  have hcz : ∀ o, wz.cell? ⟨w.heap.size, o, none⟩ = #[.bool false, .bool false, .int .i64 0][o]? := cell_of rz
  have hfz : ∀ o, wz.frozen? ⟨w.heap.size, o, none⟩ = false := frozen_of rz
  clear kz
  simp only [ans]
  go_wp2
  refine bodyPost_ret (v := ans false false 0 0) (by simp [results, Tryz.results68, go_sem, ans, cell_of (resLaidP rz false false 0)]) rfl ⟨rfl, blk_res hz (by omega) _ _ _, KZ.out.res (Nat.le_refl _) _ _ _⟩
set_option maxRecDepth 100000 in
set_option maxHeartbeats 1600000 in
theorem p_l1_end (tc : Tc) (sh : Sh) (t : Nat) (w : World) (h : w.heap[t]? = some (.cells tc.cells 116 (0, 0))) (hS : w.heap[tc.s]? = some (.cells sh.cells 111 (0, 0))) (hk0 : 0 ≤ tc.key) (hk7 : tc.key < 8) (hR : sh.R tc.key.toNat = none) (ha : sh.am = false) :
    Calls Tryz.prog 68 #[.pointer (some ⟨t, 0, none⟩)] w fun e w' => e = .returned (ans true false 0 0) ∧ w'.heap[t]? = some (.cells tc.idle.cells 116 (0, 0)) ∧ Kept [t] w w' := by
  have hs := lt_of_block h
  have hs2 := lt_of_block hS
  have hne : t ≠ tc.s := ne_of_blocks h hS (by simp)
  have hne' : tc.s ≠ t := Ne.symm hne
  have hnt : t ≠ w.heap.size := Nat.ne_of_lt hs
  have hns : tc.s ≠ w.heap.size := Nat.ne_of_lt hs2
  have hnt' : w.heap.size ≠ t := Ne.symm hnt
  have hns' : w.heap.size ≠ tc.s := Ne.symm hns
  have hc : ∀ o, w.cell? ⟨t, o, none⟩ = tc.cells[o]? := cell_of h
  simp only [Tc.cells] at hc
  have hf : ∀ o, w.frozen? ⟨t, o, none⟩ = false := frozen_of h
  have hn := tabAt sh.R sh.am tc.key hk0 hk7
  rw [hR, ha] at hn
  have H : Hid _ := h
  have HS : Hid _ := hS
  have HA : Hid _ := ha
  clear h hS hR ha
  go_enter Tryz.func68, Tryz.ntmps68
  go_wp2_with fail
  refine Calls.mono (g_lookReadk sh tc.s _ (by repeat (first | with_reducible exact HS.out | with_reducible refine blk_drew ?_ | with_reducible refine blk_drewN ?_ _ | with_reducible refine block_set_ne ?_ (by assumption) _ _ | with_reducible refine block_alloc_lt ?_ _))) ?_
  rintro e w1 ⟨rfl, k1⟩
  have t1 : w1.heap[t]? = some (.cells tc.cells 116 (0, 0)) := k1.at (by repeat (first | with_reducible exact H.out | with_reducible refine blk_drew ?_ | with_reducible refine blk_drewN ?_ _ | with_reducible refine block_set_ne ?_ (by assumption) _ _ | with_reducible refine block_alloc_lt ?_ _)) (by simp)
  have r1 : w1.heap[w.heap.size]? = some (.cells #[.bool false, .bool false, .int .i64 0] 52 (0, 0)) := k1.at (by repeat (first | with_reducible exact block_alloc_new _ _ | with_reducible refine blk_drew ?_ | with_reducible refine blk_drewN ?_ _ | with_reducible refine block_set_ne ?_ (by assumption) _ _ | with_reducible exact newBox (by with_reducible first | exact rfl | exact size_setP _ _ _ | exact (size_setP _ _ _).trans (size_setP _ _ _) | exact (size_setP _ _ _).trans ((size_setP _ _ _).trans (size_setP _ _ _))) _ | with_reducible refine block_alloc_lt ?_ _)) (by simp)
  have kk1 : Hid (Kept [t] w w1) := Kept.trans (by repeat (first | with_reducible exact Kept.refl _ _ | with_reducible refine Kept.drew ?_ | with_reducible refine Kept.drewN ?_ _ | with_reducible refine Kept.alloc ?_ _ | with_reducible refine Kept.setAt ?_ (.inl mem0) _ _ | with_reducible refine Kept.setAt ?_ (.inl mem1) _ _ | with_reducible refine Kept.setAt ?_ (.inl mem2) _ _ | with_reducible refine Kept.setAt ?_ (.inr (Nat.le_refl _)) _ _)) (k1.mono (by simp))
  clear hc hf k1
  have hc : ∀ o, w1.cell? ⟨t, o, none⟩ = tc.cells[o]? := cell_of t1
  simp only [Tc.cells] at hc
  have hf : ∀ o, w1.frozen? ⟨t, o, none⟩ = false := frozen_of t1
  have T1 : Hid _ := t1
  have R1 : Hid _ := r1
  have ht1 := lt_of_block t1
  have hr1 := lt_of_block r1
  have htn : t ≠ w1.heap.size := Nat.ne_of_lt ht1
  clear t1 r1 H HS
  simp only [tabCells, HA.out]
  go_wp2_with fail
  clear hc hf hn
  refine Calls.mono (g_doneNothing { tc with e := none } t _ (by repeat (first | with_reducible refine blk_drew ?_ | with_reducible refine blk_drewN ?_ _ | with_reducible refine block_alloc_lt ?_ _ | exact (block_set_same T1.out _ _).trans (by simp [Tc.cells])))) ?_
  rintro e wz ⟨rfl, hz, kz⟩
  have rz : wz.heap[w.heap.size]? = some (.cells #[.bool false, .bool false, .int .i64 0] 52 (0, 0)) := kz.at (by repeat (first | with_reducible exact R1.out | with_reducible refine blk_drew ?_ | with_reducible refine blk_drewN ?_ _ | with_reducible refine block_set_ne ?_ (by assumption) _ _ | with_reducible refine block_alloc_lt ?_ _)) (by simp <;> omega)
  have KZ : Hid (Kept [t] w wz) := Kept.drop (by repeat (first | with_reducible exact kk1.out | with_reducible refine Kept.drew ?_ | with_reducible refine Kept.drewN ?_ _ | with_reducible refine Kept.alloc ?_ _ | with_reducible refine Kept.setAt ?_ (.inl mem0) _ _ | with_reducible refine Kept.setAt ?_ (.inl mem1) _ _ | with_reducible refine Kept.setAt ?_ (.inl mem2) _ _ | with_reducible refine Kept.setAt ?_ (.inr (Nat.le_refl _)) _ _)) kz (by simp)
  have hcz : ∀ o, wz.cell? ⟨w.heap.size, o, none⟩ = #[.bool false, .bool false, .int .i64 0][o]? := cell_of rz
  have hfz : ∀ o, wz.frozen? ⟨w.heap.size, o, none⟩ = false := frozen_of rz
  clear kz
  simp only [ans]
  go_wp2
  refine bodyPost_ret (v := ans true false 0 0) (by simp [results, Tryz.results68, go_sem, ans, cell_of (resLaidP rz true false 0)]) rfl ⟨rfl, blk_res hz (by omega) _ _ _, KZ.out.res (Nat.le_refl _) _ _ _⟩
set_option maxRecDepth 100000 in
set_option maxHeartbeats 1600000 in
theorem p_l1_on (tc : Tc) (sh : Sh) (t : Nat) (w : World) (h : w.heap[t]? = some (.cells tc.cells 116 (0, 0))) (hS : w.heap[tc.s]? = some (.cells sh.cells 111 (0, 0))) (hk0 : 0 ≤ tc.key) (hk7 : tc.key < 8) (hR : sh.R tc.key.toNat = none) (ha : sh.am = true) :
    Calls Tryz.prog 68 #[.pointer (some ⟨t, 0, none⟩)] w fun e w' => e = .returned (ans false false 0 0) ∧ w'.heap[t]? = some (.cells { tc with e := none, nx := .func (.func 82) #[.pointer (some ⟨t, 0, none⟩)] #[] }.cells 116 (0, 0)) ∧ Kept [t] w w' := by
  have hs := lt_of_block h
  have hs2 := lt_of_block hS
  have hne : t ≠ tc.s := ne_of_blocks h hS (by simp)
  have hne' : tc.s ≠ t := Ne.symm hne
  have hnt : t ≠ w.heap.size := Nat.ne_of_lt hs
  have hns : tc.s ≠ w.heap.size := Nat.ne_of_lt hs2
  have hnt' : w.heap.size ≠ t := Ne.symm hnt
  have hns' : w.heap.size ≠ tc.s := Ne.symm hns
  have hc : ∀ o, w.cell? ⟨t, o, none⟩ = tc.cells[o]? := cell_of h
  simp only [Tc.cells] at hc
  have hf : ∀ o, w.frozen? ⟨t, o, none⟩ = false := frozen_of h
  have hn := tabAt sh.R sh.am tc.key hk0 hk7
  rw [hR, ha] at hn
  have H : Hid _ := h
  have HS : Hid _ := hS
  have HA : Hid _ := ha
  clear h hS hR ha
  go_enter Tryz.func68, Tryz.ntmps68
  go_wp2_with fail
  refine Calls.mono (g_lookReadk sh tc.s _ (by repeat (first | with_reducible exact HS.out | with_reducible refine blk_drew ?_ | with_reducible refine blk_drewN ?_ _ | with_reducible refine block_set_ne ?_ (by assumption) _ _ | with_reducible refine block_alloc_lt ?_ _))) ?_
  rintro e w1 ⟨rfl, k1⟩
  have t1 : w1.heap[t]? = some (.cells tc.cells 116 (0, 0)) := k1.at (by repeat (first | with_reducible exact H.out | with_reducible refine blk_drew ?_ | with_reducible refine blk_drewN ?_ _ | with_reducible refine block_set_ne ?_ (by assumption) _ _ | with_reducible refine block_alloc_lt ?_ _)) (by simp)
  have r1 : w1.heap[w.heap.size]? = some (.cells #[.bool false, .bool false, .int .i64 0] 52 (0, 0)) := k1.at (by repeat (first | with_reducible exact block_alloc_new _ _ | with_reducible refine blk_drew ?_ | with_reducible refine blk_drewN ?_ _ | with_reducible refine block_set_ne ?_ (by assumption) _ _ | with_reducible exact newBox (by with_reducible first | exact rfl | exact size_setP _ _ _ | exact (size_setP _ _ _).trans (size_setP _ _ _) | exact (size_setP _ _ _).trans ((size_setP _ _ _).trans (size_setP _ _ _))) _ | with_reducible refine block_alloc_lt ?_ _)) (by simp)
  have kk1 : Hid (Kept [t] w w1) := Kept.trans (by repeat (first | with_reducible exact Kept.refl _ _ | with_reducible refine Kept.drew ?_ | with_reducible refine Kept.drewN ?_ _ | with_reducible refine Kept.alloc ?_ _ | with_reducible refine Kept.setAt ?_ (.inl mem0) _ _ | with_reducible refine Kept.setAt ?_ (.inl mem1) _ _ | with_reducible refine Kept.setAt ?_ (.inl mem2) _ _ | with_reducible refine Kept.setAt ?_ (.inr (Nat.le_refl _)) _ _)) (k1.mono (by simp))
  clear hc hf k1
  have hc : ∀ o, w1.cell? ⟨t, o, none⟩ = tc.cells[o]? := cell_of t1
  simp only [Tc.cells] at hc
  have hf : ∀ o, w1.frozen? ⟨t, o, none⟩ = false := frozen_of t1
  have T1 : Hid _ := t1
  have R1 : Hid _ := r1
  have ht1 := lt_of_block t1
  have hr1 := lt_of_block r1
  have htn : t ≠ w1.heap.size := Nat.ne_of_lt ht1
  clear t1 r1 H HS
  simp only [tabCells, HA.out]
  go_wp2_with fail
  clear hc hf hn
  refine Calls.mono (g_goOn { tc with e := none } t (.func 82) #[.pointer (some ⟨t, 0, none⟩)] #[] _ (by repeat (first | with_reducible refine blk_drew ?_ | with_reducible refine blk_drewN ?_ _ | with_reducible refine block_alloc_lt ?_ _ | exact (block_set_same T1.out _ _).trans (by simp [Tc.cells])))) ?_
  rintro e wz ⟨rfl, hz, kz⟩
  have rz : wz.heap[w.heap.size]? = some (.cells #[.bool false, .bool false, .int .i64 0] 52 (0, 0)) := kz.at (by repeat (first | with_reducible exact R1.out | with_reducible refine blk_drew ?_ | with_reducible refine blk_drewN ?_ _ | with_reducible refine block_set_ne ?_ (by assumption) _ _ | with_reducible refine block_alloc_lt ?_ _)) (by simp <;> omega)
  have KZ : Hid (Kept [t] w wz) := Kept.drop (by repeat (first | with_reducible exact kk1.out | with_reducible refine Kept.drew ?_ | with_reducible refine Kept.drewN ?_ _ | with_reducible refine Kept.alloc ?_ _ | with_reducible refine Kept.setAt ?_ (.inl mem0) _ _ | with_reducible refine Kept.setAt ?_ (.inl mem1) _ _ | with_reducible refine Kept.setAt ?_ (.inl mem2) _ _ | with_reducible refine Kept.setAt ?_ (.inr (Nat.le_refl _)) _ _)) kz (by simp)
  have hcz : ∀ o, wz.cell? ⟨w.heap.size, o, none⟩ = #[.bool false, .bool false, .int .i64 0][o]? := cell_of rz
  have hfz : ∀ o, wz.frozen? ⟨w.heap.size, o, none⟩ = false := frozen_of rz
  clear kz
  simp only [ans]
  go_wp2
  refine bodyPost_ret (v := ans false false 0 0) (by simp [results, Tryz.results68, go_sem, ans, cell_of (resLaidP rz false false 0)]) rfl ⟨rfl, blk_res hz (by omega) _ _ _, KZ.out.res (Nat.le_refl _) _ _ _⟩
set_option maxRecDepth 100000 in
set_option maxHeartbeats 1600000 in
theorem p_l2_no (tc : Tc) (sh : Sh) (t : Nat) (w : World) (h : w.heap[t]? = some (.cells tc.cells 116 (0, 0))) (hS : w.heap[tc.s]? = some (.cells sh.cells 111 (0, 0))) (hl : ¬ sh.hol = -1) :
    Calls Tryz.prog 82 #[.pointer (some ⟨t, 0, none⟩)] w fun e w' => e = .returned (ans false false 0 4) ∧ Kept [] w w' := by
  have hs := lt_of_block h
  have hs2 := lt_of_block hS
  have hne : t ≠ tc.s := ne_of_blocks h hS (by simp)
  have hne' : tc.s ≠ t := Ne.symm hne
  have hnt : t ≠ w.heap.size := Nat.ne_of_lt hs
  have hns : tc.s ≠ w.heap.size := Nat.ne_of_lt hs2
  have hnt' : w.heap.size ≠ t := Ne.symm hnt
  have hns' : w.heap.size ≠ tc.s := Ne.symm hns
  have H : Hid _ := h
  have HS : Hid _ := hS
  clear h hS
  go_enter Tryz.func82, Tryz.ntmps82
  go_wp2_with fail
  refine Calls.mono (g_takeLock_no tc sh t _ _ (by repeat (first | with_reducible exact H.out | with_reducible refine blk_drew ?_ | with_reducible refine blk_drewN ?_ _ | with_reducible refine block_set_ne ?_ (by assumption) _ _ | with_reducible refine block_alloc_lt ?_ _)) (by repeat (first | with_reducible exact HS.out | with_reducible refine blk_drew ?_ | with_reducible refine blk_drewN ?_ _ | with_reducible refine block_set_ne ?_ (by assumption) _ _ | with_reducible refine block_alloc_lt ?_ _)) hl) ?_
  rintro e wz ⟨rfl, kz⟩
  have rz : wz.heap[w.heap.size]? = some (.cells #[.bool false, .bool false, .int .i64 0] 52 (0, 0)) := kz.at (by repeat (first | with_reducible exact block_alloc_new _ _ | with_reducible refine blk_drew ?_ | with_reducible refine blk_drewN ?_ _ | with_reducible refine block_set_ne ?_ (by assumption) _ _ | with_reducible exact newBox (by with_reducible first | exact rfl | exact size_setP _ _ _ | exact (size_setP _ _ _).trans (size_setP _ _ _) | exact (size_setP _ _ _).trans ((size_setP _ _ _).trans (size_setP _ _ _))) _ | with_reducible refine block_alloc_lt ?_ _)) (by simp <;> omega)
  have KZ : Hid (Kept [] w wz) := Kept.drop (by repeat (first | with_reducible exact Kept.refl _ _ | with_reducible refine Kept.drew ?_ | with_reducible refine Kept.drewN ?_ _ | with_reducible refine Kept.alloc ?_ _ | with_reducible refine Kept.setAt ?_ (.inl mem0) _ _ | with_reducible refine Kept.setAt ?_ (.inl mem1) _ _ | with_reducible refine Kept.setAt ?_ (.inl mem2) _ _ | with_reducible refine Kept.setAt ?_ (.inr (Nat.le_refl _)) _ _)) kz (by simp)
  have hcz : ∀ o, wz.cell? ⟨w.heap.size, o, none⟩ = #[.bool false, .bool false, .int .i64 0][o]? := cell_of rz
  have hfz : ∀ o, wz.frozen? ⟨w.heap.size, o, none⟩ = false := frozen_of rz
  clear kz
  simp only [ans]
  go_wp2
  refine bodyPost_ret (v := ans false false 0 4) (by simp [results, Tryz.results82, go_sem, ans, cell_of (resLaidP rz false false 0)]) rfl ⟨rfl, KZ.out.res (Nat.le_refl _) _ _ _⟩
set_option maxRecDepth 100000 in
set_option maxHeartbeats 1600000 in
theorem p_l2_yes (tc : Tc) (sh : Sh) (t : Nat) (w : World) (h : w.heap[t]? = some (.cells tc.cells 116 (0, 0))) (hS : w.heap[tc.s]? = some (.cells sh.cells 111 (0, 0))) (hl : sh.hol = -1) :
    Calls Tryz.prog 82 #[.pointer (some ⟨t, 0, none⟩)] w fun e w' => e = .returned (ans false false 0 0) ∧ w'.heap[t]? = some (.cells { tc with nx := .func (.func 88) #[.pointer (some ⟨t, 0, none⟩)] #[] }.cells 116 (0, 0)) ∧ w'.heap[tc.s]? = some (.cells { sh with hol := tc.i }.cells 111 (0, 0)) ∧ Kept [t, tc.s] w w' := by
  have hs := lt_of_block h
  have hs2 := lt_of_block hS
  have hne : t ≠ tc.s := ne_of_blocks h hS (by simp)
  have hne' : tc.s ≠ t := Ne.symm hne
  have hnt : t ≠ w.heap.size := Nat.ne_of_lt hs
  have hns : tc.s ≠ w.heap.size := Nat.ne_of_lt hs2
  have hnt' : w.heap.size ≠ t := Ne.symm hnt
  have hns' : w.heap.size ≠ tc.s := Ne.symm hns
  have H : Hid _ := h
  have HS : Hid _ := hS
  clear h hS
  go_enter Tryz.func82, Tryz.ntmps82
  go_wp2_with fail
  refine Calls.mono (g_takeLock_yes tc sh t (.func 88) #[.pointer (some ⟨t, 0, none⟩)] #[] _ (by repeat (first | with_reducible exact H.out | with_reducible refine blk_drew ?_ | with_reducible refine blk_drewN ?_ _ | with_reducible refine block_set_ne ?_ (by assumption) _ _ | with_reducible refine block_alloc_lt ?_ _)) (by repeat (first | with_reducible exact HS.out | with_reducible refine blk_drew ?_ | with_reducible refine blk_drewN ?_ _ | with_reducible refine block_set_ne ?_ (by assumption) _ _ | with_reducible refine block_alloc_lt ?_ _)) hl) ?_
  rintro e wz ⟨rfl, hz, sz0, kz⟩
  have rz : wz.heap[w.heap.size]? = some (.cells #[.bool false, .bool false, .int .i64 0] 52 (0, 0)) := kz.at (by repeat (first | with_reducible exact block_alloc_new _ _ | with_reducible refine blk_drew ?_ | with_reducible refine blk_drewN ?_ _ | with_reducible refine block_set_ne ?_ (by assumption) _ _ | with_reducible exact newBox (by with_reducible first | exact rfl | exact size_setP _ _ _ | exact (size_setP _ _ _).trans (size_setP _ _ _) | exact (size_setP _ _ _).trans ((size_setP _ _ _).trans (size_setP _ _ _))) _ | with_reducible refine block_alloc_lt ?_ _)) (by simp <;> omega)
  have KZ : Hid (Kept [t, tc.s] w wz) := Kept.drop (by repeat (first | with_reducible exact Kept.refl _ _ | with_reducible refine Kept.drew ?_ | with_reducible refine Kept.drewN ?_ _ | with_reducible refine Kept.alloc ?_ _ | with_reducible refine Kept.setAt ?_ (.inl mem0) _ _ | with_reducible refine Kept.setAt ?_ (.inl mem1) _ _ | with_reducible refine Kept.setAt ?_ (.inl mem2) _ _ | with_reducible refine Kept.setAt ?_ (.inr (Nat.le_refl _)) _ _)) kz (by simp)
  have hcz : ∀ o, wz.cell? ⟨w.heap.size, o, none⟩ = #[.bool false, .bool false, .int .i64 0][o]? := cell_of rz
  have hfz : ∀ o, wz.frozen? ⟨w.heap.size, o, none⟩ = false := frozen_of rz
  clear kz
  simp only [ans]
  go_wp2
  refine bodyPost_ret (v := ans false false 0 0) (by simp [results, Tryz.results82, go_sem, ans, cell_of (resLaidP rz false false 0)]) rfl ⟨rfl, blk_res hz (by omega) _ _ _, blk_res sz0 (by omega) _ _ _, KZ.out.res (Nat.le_refl _) _ _ _⟩
set_option maxRecDepth 100000 in
set_option maxHeartbeats 1600000 in
theorem p_l3_in (tc : Tc) (sh : Sh) (t : Nat) (a : Addr) (w : World) (h : w.heap[t]? = some (.cells tc.cells 116 (0, 0))) (hS : w.heap[tc.s]? = some (.cells sh.cells 111 (0, 0))) (hk0 : 0 ≤ tc.key) (hk7 : tc.key < 8) (hR : sh.R tc.key.toNat = some a) :
    Calls Tryz.prog 88 #[.pointer (some ⟨t, 0, none⟩)] w fun e w' => e = .returned (ans false false 0 0) ∧ w'.heap[t]? = some (.cells { tc with e := some a, nx := .func (.func 92) #[.pointer (some ⟨t, 0, none⟩)] #[] }.cells 116 (0, 0)) ∧ Kept [t] w w' := by
  have hs := lt_of_block h
  have hs2 := lt_of_block hS
  have hne : t ≠ tc.s := ne_of_blocks h hS (by simp)
  have hne' : tc.s ≠ t := Ne.symm hne
  have hnt : t ≠ w.heap.size := Nat.ne_of_lt hs
  have hns : tc.s ≠ w.heap.size := Nat.ne_of_lt hs2
  have hnt' : w.heap.size ≠ t := Ne.symm hnt
  have hns' : w.heap.size ≠ tc.s := Ne.symm hns
  have hc : ∀ o, w.cell? ⟨t, o, none⟩ = tc.cells[o]? := cell_of h
  simp only [Tc.cells] at hc
  have hf : ∀ o, w.frozen? ⟨t, o, none⟩ = false := frozen_of h
  have hn := tabAt sh.R sh.am tc.key hk0 hk7
  rw [hR] at hn
  have H : Hid _ := h
  have HS : Hid _ := hS
  clear h hS hR
  go_enter Tryz.func88, Tryz.ntmps88
  go_wp2_with fail
  refine Calls.mono (g_lookReadk sh tc.s _ (by repeat (first | with_reducible exact HS.out | with_reducible refine blk_drew ?_ | with_reducible refine blk_drewN ?_ _ | with_reducible refine block_set_ne ?_ (by assumption) _ _ | with_reducible refine block_alloc_lt ?_ _))) ?_
  rintro e w1 ⟨rfl, k1⟩
  have t1 : w1.heap[t]? = some (.cells tc.cells 116 (0, 0)) := k1.at (by repeat (first | with_reducible exact H.out | with_reducible refine blk_drew ?_ | with_reducible refine blk_drewN ?_ _ | with_reducible refine block_set_ne ?_ (by assumption) _ _ | with_reducible refine block_alloc_lt ?_ _)) (by simp)
  have r1 : w1.heap[w.heap.size]? = some (.cells #[.bool false, .bool false, .int .i64 0] 52 (0, 0)) := k1.at (by repeat (first | with_reducible exact block_alloc_new _ _ | with_reducible refine blk_drew ?_ | with_reducible refine blk_drewN ?_ _ | with_reducible refine block_set_ne ?_ (by assumption) _ _ | with_reducible exact newBox (by with_reducible first | exact rfl | exact size_setP _ _ _ | exact (size_setP _ _ _).trans (size_setP _ _ _) | exact (size_setP _ _ _).trans ((size_setP _ _ _).trans (size_setP _ _ _))) _ | with_reducible refine block_alloc_lt ?_ _)) (by simp)
  have kk1 : Hid (Kept [t] w w1) := Kept.trans (by repeat (first | with_reducible exact Kept.refl _ _ | with_reducible refine Kept.drew ?_ | with_reducible refine Kept.drewN ?_ _ | with_reducible refine Kept.alloc ?_ _ | with_reducible refine Kept.setAt ?_ (.inl mem0) _ _ | with_reducible refine Kept.setAt ?_ (.inl mem1) _ _ | with_reducible refine Kept.setAt ?_ (.inl mem2) _ _ | with_reducible refine Kept.setAt ?_ (.inr (Nat.le_refl _)) _ _)) (k1.mono (by simp))
  clear hc hf k1
  have hc : ∀ o, w1.cell? ⟨t, o, none⟩ = tc.cells[o]? := cell_of t1
  simp only [Tc.cells] at hc
  have hf : ∀ o, w1.frozen? ⟨t, o, none⟩ = false := frozen_of t1
  have T1 : Hid _ := t1
  have R1 : Hid _ := r1
  have ht1 := lt_of_block t1
  have hr1 := lt_of_block r1
  have htn : t ≠ w1.heap.size := Nat.ne_of_lt ht1
  clear t1 r1 H HS
  simp only [tabCells]
  go_wp2_with fail
  clear hc hf hn
  refine Calls.mono (g_goOn { tc with e := some a } t (.func 92) #[.pointer (some ⟨t, 0, none⟩)] #[] _ (by repeat (first | with_reducible refine blk_drew ?_ | with_reducible refine blk_drewN ?_ _ | with_reducible refine block_alloc_lt ?_ _ | exact (block_set_same T1.out _ _).trans (by simp [Tc.cells])))) ?_
  rintro e wz ⟨rfl, hz, kz⟩
  have rz : wz.heap[w.heap.size]? = some (.cells #[.bool false, .bool false, .int .i64 0] 52 (0, 0)) := kz.at (by repeat (first | with_reducible exact R1.out | with_reducible refine blk_drew ?_ | with_reducible refine blk_drewN ?_ _ | with_reducible refine block_set_ne ?_ (by assumption) _ _ | with_reducible refine block_alloc_lt ?_ _)) (by simp <;> omega)
  have KZ : Hid (Kept [t] w wz) := Kept.drop (by repeat (first | with_reducible exact kk1.out | with_reducible refine Kept.drew ?_ | with_reducible refine Kept.drewN ?_ _ | with_reducible refine Kept.alloc ?_ _ | with_reducible refine Kept.setAt ?_ (.inl mem0) _ _ | with_reducible refine Kept.setAt ?_ (.inl mem1) _ _ | with_reducible refine Kept.setAt ?_ (.inl mem2) _ _ | with_reducible refine Kept.setAt ?_ (.inr (Nat.le_refl _)) _ _)) kz (by simp)
  have hcz : ∀ o, wz.cell? ⟨w.heap.size, o, none⟩ = #[.bool false, .bool false, .int .i64 0][o]? := cell_of rz
  have hfz : ∀ o, wz.frozen? ⟨w.heap.size, o, none⟩ = false := frozen_of rz
  clear kz
  simp only [ans]
  go_wp2
  refine bodyPost_ret (v := ans false false 0 0) (by simp [results, Tryz.results88, go_sem, ans, cell_of (resLaidP rz false false 0)]) rfl ⟨rfl, blk_res hz (by omega) _ _ _, KZ.out.res (Nat.le_refl _) _ _ _⟩
set_option maxRecDepth 100000 in
set_option maxHeartbeats 1600000 in
theorem p_l3_out (tc : Tc) (sh : Sh) (t : Nat) (w : World) (h : w.heap[t]? = some (.cells tc.cells 116 (0, 0))) (hS : w.heap[tc.s]? = some (.cells sh.cells 111 (0, 0))) (hk0 : 0 ≤ tc.key) (hk7 : tc.key < 8) (hR : sh.R tc.key.toNat = none) (ha : sh.am = false) :
    Calls Tryz.prog 88 #[.pointer (some ⟨t, 0, none⟩)] w fun e w' => e = .returned (ans false false 0 0) ∧ w'.heap[t]? = some (.cells { tc with e := none, nx := .func (.func 92) #[.pointer (some ⟨t, 0, none⟩)] #[] }.cells 116 (0, 0)) ∧ Kept [t] w w' := by
  have hs := lt_of_block h
  have hs2 := lt_of_block hS
  have hne : t ≠ tc.s := ne_of_blocks h hS (by simp)
  have hne' : tc.s ≠ t := Ne.symm hne
  have hnt : t ≠ w.heap.size := Nat.ne_of_lt hs
  have hns : tc.s ≠ w.heap.size := Nat.ne_of_lt hs2
  have hnt' : w.heap.size ≠ t := Ne.symm hnt
  have hns' : w.heap.size ≠ tc.s := Ne.symm hns
  have hc : ∀ o, w.cell? ⟨t, o, none⟩ = tc.cells[o]? := cell_of h
  simp only [Tc.cells] at hc
  have hf : ∀ o, w.frozen? ⟨t, o, none⟩ = false := frozen_of h
  have hn := tabAt sh.R sh.am tc.key hk0 hk7
  rw [hR, ha] at hn
  have H : Hid _ := h
  have HS : Hid _ := hS
  have HA : Hid _ := ha
  clear h hS hR ha
  go_enter Tryz.func88, Tryz.ntmps88
  go_wp2_with fail
  refine Calls.mono (g_lookReadk sh tc.s _ (by repeat (first | with_reducible exact HS.out | with_reducible refine blk_drew ?_ | with_reducible refine blk_drewN ?_ _ | with_reducible refine block_set_ne ?_ (by assumption) _ _ | with_reducible refine block_alloc_lt ?_ _))) ?_
  rintro e w1 ⟨rfl, k1⟩
  have t1 : w1.heap[t]? = some (.cells tc.cells 116 (0, 0)) := k1.at (by repeat (first | with_reducible exact H.out | with_reducible refine blk_drew ?_ | with_reducible refine blk_drewN ?_ _ | with_reducible refine block_set_ne ?_ (by assumption) _ _ | with_reducible refine block_alloc_lt ?_ _)) (by simp)
  have r1 : w1.heap[w.heap.size]? = some (.cells #[.bool false, .bool false, .int .i64 0] 52 (0, 0)) := k1.at (by repeat (first | with_reducible exact block_alloc_new _ _ | with_reducible refine blk_drew ?_ | with_reducible refine blk_drewN ?_ _ | with_reducible refine block_set_ne ?_ (by assumption) _ _ | with_reducible exact newBox (by with_reducible first | exact rfl | exact size_setP _ _ _ | exact (size_setP _ _ _).trans (size_setP _ _ _) | exact (size_setP _ _ _).trans ((size_setP _ _ _).trans (size_setP _ _ _))) _ | with_reducible refine block_alloc_lt ?_ _)) (by simp)
  have kk1 : Hid (Kept [t] w w1) := Kept.trans (by repeat (first | with_reducible exact Kept.refl _ _ | with_reducible refine Kept.drew ?_ | with_reducible refine Kept.drewN ?_ _ | with_reducible refine Kept.alloc ?_ _ | with_reducible refine Kept.setAt ?_ (.inl mem0) _ _ | with_reducible refine Kept.setAt ?_ (.inl mem1) _ _ | with_reducible refine Kept.setAt ?_ (.inl mem2) _ _ | with_reducible refine Kept.setAt ?_ (.inr (Nat.le_refl _)) _ _)) (k1.mono (by simp))
  clear hc hf k1
  have hc : ∀ o, w1.cell? ⟨t, o, none⟩ = tc.cells[o]? := cell_of t1
  simp only [Tc.cells] at hc
  have hf : ∀ o, w1.frozen? ⟨t, o, none⟩ = false := frozen_of t1
  have T1 : Hid _ := t1
  have R1 : Hid _ := r1
  have ht1 := lt_of_block t1
  have hr1 := lt_of_block r1
  have htn : t ≠ w1.heap.size := Nat.ne_of_lt ht1
  clear t1 r1 H HS
  simp only [tabCells, HA.out]
  go_wp2_with fail
  clear hc hf hn
  refine Calls.mono (g_goOn { tc with e := none } t (.func 92) #[.pointer (some ⟨t, 0, none⟩)] #[] _ (by repeat (first | with_reducible refine blk_drew ?_ | with_reducible refine blk_drewN ?_ _ | with_reducible refine block_alloc_lt ?_ _ | exact (block_set_same T1.out _ _).trans (by simp [Tc.cells])))) ?_
  rintro e wz ⟨rfl, hz, kz⟩
  have rz : wz.heap[w.heap.size]? = some (.cells #[.bool false, .bool false, .int .i64 0] 52 (0, 0)) := kz.at (by repeat (first | with_reducible exact R1.out | with_reducible refine blk_drew ?_ | with_reducible refine blk_drewN ?_ _ | with_reducible refine block_set_ne ?_ (by assumption) _ _ | with_reducible refine block_alloc_lt ?_ _)) (by simp <;> omega)
  have KZ : Hid (Kept [t] w wz) := Kept.drop (by repeat (first | with_reducible exact kk1.out | with_reducible refine Kept.drew ?_ | with_reducible refine Kept.drewN ?_ _ | with_reducible refine Kept.alloc ?_ _ | with_reducible refine Kept.setAt ?_ (.inl mem0) _ _ | with_reducible refine Kept.setAt ?_ (.inl mem1) _ _ | with_reducible refine Kept.setAt ?_ (.inl mem2) _ _ | with_reducible refine Kept.setAt ?_ (.inr (Nat.le_refl _)) _ _)) kz (by simp)
  have hcz : ∀ o, wz.cell? ⟨w.heap.size, o, none⟩ = #[.bool false, .bool false, .int .i64 0][o]? := cell_of rz
  have hfz : ∀ o, wz.frozen? ⟨w.heap.size, o, none⟩ = false := frozen_of rz
  clear kz
  simp only [ans]
  go_wp2
  refine bodyPost_ret (v := ans false false 0 0) (by simp [results, Tryz.results88, go_sem, ans, cell_of (resLaidP rz false false 0)]) rfl ⟨rfl, blk_res hz (by omega) _ _ _, KZ.out.res (Nat.le_refl _) _ _ _⟩
set_option maxRecDepth 100000 in
set_option maxHeartbeats 1600000 in
theorem p_l3_on (tc : Tc) (sh : Sh) (t : Nat) (w : World) (h : w.heap[t]? = some (.cells tc.cells 116 (0, 0))) (hS : w.heap[tc.s]? = some (.cells sh.cells 111 (0, 0))) (hk0 : 0 ≤ tc.key) (hk7 : tc.key < 8) (hR : sh.R tc.key.toNat = none) (ha : sh.am = true) :
    Calls Tryz.prog 88 #[.pointer (some ⟨t, 0, none⟩)] w fun e w' => e = .returned (ans false false 0 0) ∧ w'.heap[t]? = some (.cells { tc with e := none, nx := .func (.func 93) #[.pointer (some ⟨t, 0, none⟩)] #[] }.cells 116 (0, 0)) ∧ Kept [t] w w' := by
  have hs := lt_of_block h
  have hs2 := lt_of_block hS
  have hne : t ≠ tc.s := ne_of_blocks h hS (by simp)
  have hne' : tc.s ≠ t := Ne.symm hne
  have hnt : t ≠ w.heap.size := Nat.ne_of_lt hs
  have hns : tc.s ≠ w.heap.size := Nat.ne_of_lt hs2
  have hnt' : w.heap.size ≠ t := Ne.symm hnt
  have hns' : w.heap.size ≠ tc.s := Ne.symm hns
  have hc : ∀ o, w.cell? ⟨t, o, none⟩ = tc.cells[o]? := cell_of h
  simp only [Tc.cells] at hc
  have hf : ∀ o, w.frozen? ⟨t, o, none⟩ = false := frozen_of h
  have hn := tabAt sh.R sh.am tc.key hk0 hk7
  rw [hR, ha] at hn
  have H : Hid _ := h
  have HS : Hid _ := hS
  have HA : Hid _ := ha
  clear h hS hR ha
  go_enter Tryz.func88, Tryz.ntmps88
  go_wp2_with fail
  refine Calls.mono (g_lookReadk sh tc.s _ (by repeat (first | with_reducible exact HS.out | with_reducible refine blk_drew ?_ | with_reducible refine blk_drewN ?_ _ | with_reducible refine block_set_ne ?_ (by assumption) _ _ | with_reducible refine block_alloc_lt ?_ _))) ?_
  rintro e w1 ⟨rfl, k1⟩
  have t1 : w1.heap[t]? = some (.cells tc.cells 116 (0, 0)) := k1.at (by repeat (first | with_reducible exact H.out | with_reducible refine blk_drew ?_ | with_reducible refine blk_drewN ?_ _ | with_reducible refine block_set_ne ?_ (by assumption) _ _ | with_reducible refine block_alloc_lt ?_ _)) (by simp)
  have r1 : w1.heap[w.heap.size]? = some (.cells #[.bool false, .bool false, .int .i64 0] 52 (0, 0)) := k1.at (by repeat (first | with_reducible exact block_alloc_new _ _ | with_reducible refine blk_drew ?_ | with_reducible refine blk_drewN ?_ _ | with_reducible refine block_set_ne ?_ (by assumption) _ _ | with_reducible exact newBox (by with_reducible first | exact rfl | exact size_setP _ _ _ | exact (size_setP _ _ _).trans (size_setP _ _ _) | exact (size_setP _ _ _).trans ((size_setP _ _ _).trans (size_setP _ _ _))) _ | with_reducible refine block_alloc_lt ?_ _)) (by simp)
  have kk1 : Hid (Kept [t] w w1) := Kept.trans (by repeat (first | with_reducible exact Kept.refl _ _ | with_reducible refine Kept.drew ?_ | with_reducible refine Kept.drewN ?_ _ | with_reducible refine Kept.alloc ?_ _ | with_reducible refine Kept.setAt ?_ (.inl mem0) _ _ | with_reducible refine Kept.setAt ?_ (.inl mem1) _ _ | with_reducible refine Kept.setAt ?_ (.inl mem2) _ _ | with_reducible refine Kept.setAt ?_ (.inr (Nat.le_refl _)) _ _)) (k1.mono (by simp))
  clear hc hf k1
  have hc : ∀ o, w1.cell? ⟨t, o, none⟩ = tc.cells[o]? := cell_of t1
  simp only [Tc.cells] at hc
  have hf : ∀ o, w1.frozen? ⟨t, o, none⟩ = false := frozen_of t1
  have T1 : Hid _ := t1
  have R1 : Hid _ := r1
  have ht1 := lt_of_block t1
  have hr1 := lt_of_block r1
  have htn : t ≠ w1.heap.size := Nat.ne_of_lt ht1
  clear t1 r1 H HS
  simp only [tabCells, HA.out]
  go_wp2_with fail
  clear hc hf hn
  refine Calls.mono (g_goOn { tc with e := none } t (.func 93) #[.pointer (some ⟨t, 0, none⟩)] #[] _ (by repeat (first | with_reducible refine blk_drew ?_ | with_reducible refine blk_drewN ?_ _ | with_reducible refine block_alloc_lt ?_ _ | exact (block_set_same T1.out _ _).trans (by simp [Tc.cells])))) ?_
  rintro e wz ⟨rfl, hz, kz⟩
  have rz : wz.heap[w.heap.size]? = some (.cells #[.bool false, .bool false, .int .i64 0] 52 (0, 0)) := kz.at (by repeat (first | with_reducible exact R1.out | with_reducible refine blk_drew ?_ | with_reducible refine blk_drewN ?_ _ | with_reducible refine block_set_ne ?_ (by assumption) _ _ | with_reducible refine block_alloc_lt ?_ _)) (by simp <;> omega)
  have KZ : Hid (Kept [t] w wz) := Kept.drop (by repeat (first | with_reducible exact kk1.out | with_reducible refine Kept.drew ?_ | with_reducible refine Kept.drewN ?_ _ | with_reducible refine Kept.alloc ?_ _ | with_reducible refine Kept.setAt ?_ (.inl mem0) _ _ | with_reducible refine Kept.setAt ?_ (.inl mem1) _ _ | with_reducible refine Kept.setAt ?_ (.inl mem2) _ _ | with_reducible refine Kept.setAt ?_ (.inr (Nat.le_refl _)) _ _)) kz (by simp)
  have hcz : ∀ o, wz.cell? ⟨w.heap.size, o, none⟩ = #[.bool false, .bool false, .int .i64 0][o]? := cell_of rz
  have hfz : ∀ o, wz.frozen? ⟨w.heap.size, o, none⟩ = false := frozen_of rz
  clear kz
  simp only [ans]
  go_wp2
  refine bodyPost_ret (v := ans false false 0 0) (by simp [results, Tryz.results88, go_sem, ans, cell_of (resLaidP rz false false 0)]) rfl ⟨rfl, blk_res hz (by omega) _ _ _, KZ.out.res (Nat.le_refl _) _ _ _⟩
end Go.Proofs.YtfgfpggjcfhccaaGreat
