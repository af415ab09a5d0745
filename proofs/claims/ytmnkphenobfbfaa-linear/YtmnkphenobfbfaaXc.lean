import Derived.Test.YtmnkphenobfbfaaXb
namespace Go.Proofs.Ytmnkphenobfbfaa
open Go.RowKit
set_option maxRecDepth 100000 in
set_option maxHeartbeats 1600000 in
theorem p_s7 (tc : Tc) (sh : Sh) (t : Nat) (w : World) (h : w.heap[t]? = some (.cells tc.cells 103 (0, 0))) (hS : w.heap[tc.s]? = some (.cells sh.cells 97 (0, 0))) (hk0 : 0 ≤ tc.key) (hk7 : tc.key < 8)  :
    Calls Try.prog 88 #[.pointer (some ⟨t, 0, none⟩)] w fun e w' => e = .returned (ans false false 0 0) ∧ w'.heap[t]? = some (.cells { tc with nx := .func (.func 85) #[.pointer (some ⟨t, 0, none⟩)] #[] }.cells 103 (0, 0)) ∧ w'.heap[tc.s]? = some (.cells { sh with D := fun j => if j = tc.key.toNat then tc.e else sh.D j }.cells 97 (0, 0)) ∧ Kept [t, tc.s] w w' := by
  have hs := lt_of_block h
  have hs2 := lt_of_block hS
  have hne : t ≠ tc.s := ne_of_blocks h hS (by simp)
  have hne' : tc.s ≠ t := Ne.symm hne
  have hnt : t ≠ w.heap.size := Nat.ne_of_lt hs
  have hns : tc.s ≠ w.heap.size := Nat.ne_of_lt hs2
  have hnt' : w.heap.size ≠ t := Ne.symm hnt
  have hns' : w.heap.size ≠ tc.s := Ne.symm hns
  have hc : ∀ o, w.cell? ⟨t, o, none⟩ = tc.cells[o]? := cell_of h
  simp only [Tc.cells] at hc
  have hkey : tc.key = ((tc.key.toNat : Nat) : Int) := by omega
  have hkl : tc.key.toNat < 8 := by omega
  have H : Hid _ := h
  have HS : Hid _ := hS
  have HK : Hid _ := hkey
  clear h hS hkey
  go_enter Try.func88, Try.ntmps88
  go_wp2_with fail
  go_region_held3 (fun w' => w'.cell? ⟨t, 1, none⟩ = some (Value.pointer (some ⟨tc.s, 0, none⟩)) ∧ w'.cell? ⟨t, 3, none⟩ = some (Value.int IntKind.i64 tc.key) ∧ w'.cell? ⟨t, 6, none⟩ = some (Value.pointer tc.e)) (first | exact ⟨c91, c93, c96⟩ | (refine ⟨?_, ?_, ?_⟩ <;> go_simp)) ((go_at_call 93; refine Calls.mono (by rw [HK.out]; exact g_putInDirty sh tc.s tc.key.toNat tc.e _ (by repeat (first | with_reducible exact HS.out | with_reducible refine blk_drew ?_ | with_reducible refine blk_drewN ?_ _ | with_reducible refine block_set_ne ?_ (by assumption) _ _ | with_reducible refine block_alloc_lt ?_ _)) hkl) ?_; rintro e w9 ⟨rfl, s9, k9⟩; have t9 : w9.heap[t]? = some (.cells tc.cells 103 (0, 0)) := k9.at (by repeat (first | with_reducible exact H.out | with_reducible refine blk_drew ?_ | with_reducible refine blk_drewN ?_ _ | with_reducible refine block_set_ne ?_ (by assumption) _ _ | with_reducible refine block_alloc_lt ?_ _)) (by simp <;> omega); have c91 : w9.cell? ⟨t, 1, none⟩ = some (Value.pointer (some ⟨tc.s, 0, none⟩)) := cell_of t9 1; have c93 : w9.cell? ⟨t, 3, none⟩ = some (Value.int IntKind.i64 tc.key) := cell_of t9 3; have c96 : w9.cell? ⟨t, 6, none⟩ = some (Value.pointer tc.e) := cell_of t9 6))
  clear hc
  go_wp2_with fail
  refine Calls.mono (g_goOn tc t (.func 85) #[.pointer (some ⟨t, 0, none⟩)] #[] _ (by repeat (first | with_reducible exact t9 | with_reducible refine blk_drew ?_ | with_reducible refine blk_drewN ?_ _ | with_reducible refine block_set_ne ?_ (by assumption) _ _ | with_reducible refine block_alloc_lt ?_ _))) ?_
  rintro e wz ⟨rfl, hz, kz⟩
  have rz : wz.heap[w.heap.size]? = some (.cells #[.bool false, .bool false, .int .i64 0] 30 (0, 0)) := kz.at (k9.at (by repeat (first | with_reducible exact block_alloc_new _ _ | with_reducible refine blk_drew ?_ | with_reducible refine blk_drewN ?_ _ | with_reducible refine block_set_ne ?_ (by assumption) _ _ | with_reducible exact newBox (by with_reducible first | exact rfl | exact size_setP _ _ _ | exact (size_setP _ _ _).trans (size_setP _ _ _) | exact (size_setP _ _ _).trans ((size_setP _ _ _).trans (size_setP _ _ _))) _ | with_reducible refine block_alloc_lt ?_ _)) (by simp <;> omega)) (by simp <;> omega)
  have sz0 : wz.heap[tc.s]? = some (.cells { sh with D := fun j => if j = tc.key.toNat then tc.e else sh.D j }.cells 97 (0, 0)) := kz.at (by repeat (first | with_reducible exact s9 | with_reducible refine blk_drew ?_ | with_reducible refine blk_drewN ?_ _ | with_reducible refine block_set_ne ?_ (by assumption) _ _ | with_reducible refine block_alloc_lt ?_ _)) (by simp <;> omega)
  have KZ : Hid (Kept [t, tc.s] w wz) := Kept.drop (Kept.trans (by repeat (first | with_reducible exact Kept.refl _ _ | with_reducible refine Kept.drew ?_ | with_reducible refine Kept.drewN ?_ _ | with_reducible refine Kept.alloc ?_ _ | with_reducible refine Kept.setAt ?_ (.inl mem0) _ _ | with_reducible refine Kept.setAt ?_ (.inl mem1) _ _ | with_reducible refine Kept.setAt ?_ (.inl mem2) _ _ | with_reducible refine Kept.setAt ?_ (.inr (Nat.le_refl _)) _ _)) (k9.mono (by simp))) kz (by simp)
  have hcz : ∀ o, wz.cell? ⟨w.heap.size, o, none⟩ = #[.bool false, .bool false, .int .i64 0][o]? := cell_of rz
  have hfz : ∀ o, wz.frozen? ⟨w.heap.size, o, none⟩ = false := frozen_of rz
  clear kz
  simp only [ans]
  go_wp2
  refine bodyPost_ret (v := ans false false 0 0) (by simp [results, Try.results88, go_sem, ans, cell_of (resLaidP rz false false 0)]) rfl ⟨rfl, blk_res hz (by omega) _ _ _, blk_res sz0 (by omega) _ _ _, KZ.out.res (Nat.le_refl _) _ _ _⟩
theorem fld101a (f : Nat → Option Addr) (b : Bool) (w : World) : Sem.run Try.prog (Instr.field 87 (Value.agg #[Value.pointer (f 0), .pointer (f 1), .pointer (f 2), .pointer (f 3), .pointer (f 4), .pointer (f 5), .pointer (f 6), .pointer (f 7), .bool b]) 1) w = .ok (.bool b) w := by kernel_rfl
set_option maxRecDepth 100000 in
set_option maxHeartbeats 1600000 in
theorem p_s8_in (tc : Tc) (sh : Sh) (t : Nat) (a : Addr) (w : World) (h : w.heap[t]? = some (.cells tc.cells 103 (0, 0))) (hS : w.heap[tc.s]? = some (.cells sh.cells 97 (0, 0))) (hk0 : 0 ≤ tc.key) (hk7 : tc.key < 8) (hR : sh.D tc.key.toNat = some a) :
    Calls Try.prog 76 #[.pointer (some ⟨t, 0, none⟩)] w fun e w' => e = .returned (ans false false 0 0) ∧ w'.heap[t]? = some (.cells { tc with e := some a, nx := .func (.func 85) #[.pointer (some ⟨t, 0, none⟩)] #[] }.cells 103 (0, 0)) ∧ Kept [t] w w' := by
  have hs := lt_of_block h
  have hs2 := lt_of_block hS
  have hne : t ≠ tc.s := ne_of_blocks h hS (by simp)
  have hne' : tc.s ≠ t := Ne.symm hne
  have hnt : t ≠ w.heap.size := Nat.ne_of_lt hs
  have hns : tc.s ≠ w.heap.size := Nat.ne_of_lt hs2
  have hnt' : w.heap.size ≠ t := Ne.symm hnt
  have hns' : w.heap.size ≠ tc.s := Ne.symm hns
  have hc : ∀ o, w.cell? ⟨t, o, none⟩ = tc.cells[o]? := cell_of h
  simp only [Tc.cells] at hc
  have hn := idx_pI sh.D tc.key hk0 hk7
  rw [hR] at hn
  have hf : ∀ o, w.frozen? ⟨t, o, none⟩ = false := frozen_of h
  have hfl := fld105 sh.D sh.hd
  have H : Hid _ := h
  have HS : Hid _ := hS
  clear h hS hR
  go_enter Try.func76, Try.ntmps76
  go_wp2_with fail
  go_region_held3 (fun w' => w'.cell? ⟨t, 1, none⟩ = some (Value.pointer (some ⟨tc.s, 0, none⟩)) ∧ w'.cell? ⟨t, 3, none⟩ = some (Value.int IntKind.i64 tc.key)) (first | (refine ⟨?_, ?_⟩ <;> go_simp)) ((go_at_call 39; refine (g_lookDirty sh tc.s _ (by repeat (first | with_reducible exact HS.out | with_reducible refine blk_drew ?_ | with_reducible refine blk_drewN ?_ _ | with_reducible refine block_set_ne ?_ (by assumption) _ _ | with_reducible refine block_alloc_lt ?_ _))).mono ?_; rintro e w' ⟨rfl, rfl⟩; simp only [tabCells]))
  clear hn hfl
  go_wp2_with fail
  clear hc hf
  refine Calls.mono (g_goOn { tc with e := some a } t (.func 85) #[.pointer (some ⟨t, 0, none⟩)] #[] _ (by repeat (first | with_reducible refine blk_drew ?_ | with_reducible refine blk_drewN ?_ _ | with_reducible refine block_alloc_lt ?_ _ | exact (block_set_same H.out _ _).trans (by simp [Tc.cells])))) ?_
  rintro e wz ⟨rfl, hz, kz⟩
  have rz : wz.heap[w.heap.size]? = some (.cells #[.bool false, .bool false, .int .i64 0] 30 (0, 0)) := kz.at (by repeat (first | with_reducible exact block_alloc_new _ _ | with_reducible refine blk_drew ?_ | with_reducible refine blk_drewN ?_ _ | with_reducible refine block_set_ne ?_ (by assumption) _ _ | with_reducible exact newBox (by with_reducible first | exact rfl | exact size_setP _ _ _ | exact (size_setP _ _ _).trans (size_setP _ _ _) | exact (size_setP _ _ _).trans ((size_setP _ _ _).trans (size_setP _ _ _))) _ | with_reducible refine block_alloc_lt ?_ _)) (by simp <;> omega)
  have KZ : Hid (Kept [t] w wz) := Kept.drop (by repeat (first | with_reducible exact Kept.refl _ _ | with_reducible refine Kept.drew ?_ | with_reducible refine Kept.drewN ?_ _ | with_reducible refine Kept.alloc ?_ _ | with_reducible refine Kept.setAt ?_ (.inl mem0) _ _ | with_reducible refine Kept.setAt ?_ (.inl mem1) _ _ | with_reducible refine Kept.setAt ?_ (.inl mem2) _ _ | with_reducible refine Kept.setAt ?_ (.inr (Nat.le_refl _)) _ _)) kz (by simp)
  have hcz : ∀ o, wz.cell? ⟨w.heap.size, o, none⟩ = #[.bool false, .bool false, .int .i64 0][o]? := cell_of rz
  have hfz : ∀ o, wz.frozen? ⟨w.heap.size, o, none⟩ = false := frozen_of rz
  clear kz
  simp only [ans]
  go_wp2
  refine bodyPost_ret (v := ans false false 0 0) (by simp [results, Try.results76, go_sem, ans, cell_of (resLaidP rz false false 0)]) rfl ⟨rfl, blk_res hz (by omega) _ _ _, KZ.out.res (Nat.le_refl _) _ _ _⟩
set_option maxRecDepth 100000 in
set_option maxHeartbeats 1600000 in
theorem p_s8_am (tc : Tc) (sh : Sh) (t : Nat) (w : World) (h : w.heap[t]? = some (.cells tc.cells 103 (0, 0))) (hS : w.heap[tc.s]? = some (.cells sh.cells 97 (0, 0))) (hk0 : 0 ≤ tc.key) (hk7 : tc.key < 8) (hR : sh.D tc.key.toNat = none) (ha : sh.am = true) :
    Calls Try.prog 76 #[.pointer (some ⟨t, 0, none⟩)] w fun e w' => e = .returned (ans false false 0 0) ∧ w'.heap[t]? = some (.cells { tc with e := none, nx := .func (.func 86) #[.pointer (some ⟨t, 0, none⟩)] #[] }.cells 103 (0, 0)) ∧ Kept [t] w w' := by
  have hs := lt_of_block h
  have hs2 := lt_of_block hS
  have hne : t ≠ tc.s := ne_of_blocks h hS (by simp)
  have hne' : tc.s ≠ t := Ne.symm hne
  have hnt : t ≠ w.heap.size := Nat.ne_of_lt hs
  have hns : tc.s ≠ w.heap.size := Nat.ne_of_lt hs2
  have hnt' : w.heap.size ≠ t := Ne.symm hnt
  have hns' : w.heap.size ≠ tc.s := Ne.symm hns
  have hc : ∀ o, w.cell? ⟨t, o, none⟩ = tc.cells[o]? := cell_of h
  simp only [Tc.cells] at hc
  have hn := idx_pI sh.D tc.key hk0 hk7
  rw [hR] at hn
  have hf : ∀ o, w.frozen? ⟨t, o, none⟩ = false := frozen_of h
  have hfl := fld105 sh.D sh.hd
  have hfl1 := fld101a sh.R sh.am
  simp only [ha] at hfl1
  have H : Hid _ := h
  have HS : Hid _ := hS
  have HA : Hid _ := ha
  clear h hS hR ha
  go_enter Try.func76, Try.ntmps76
  go_wp2_with fail
  go_region_held3 (fun w' => w'.cell? ⟨t, 1, none⟩ = some (Value.pointer (some ⟨tc.s, 0, none⟩)) ∧ w'.cell? ⟨t, 3, none⟩ = some (Value.int IntKind.i64 tc.key)) (first | (refine ⟨?_, ?_⟩ <;> go_simp)) ((go_at_call 39; refine (g_lookDirty sh tc.s _ (by repeat (first | with_reducible exact HS.out | with_reducible refine blk_drew ?_ | with_reducible refine blk_drewN ?_ _ | with_reducible refine block_set_ne ?_ (by assumption) _ _ | with_reducible refine block_alloc_lt ?_ _))).mono ?_; rintro e w' ⟨rfl, rfl⟩; simp only [tabCells]))
  clear hn hfl
  go_wp2_with fail
  refine Calls.mono (g_lookRead sh tc.s _ (by repeat (first | with_reducible exact HS.out | with_reducible refine blk_drew ?_ | with_reducible refine blk_drewN ?_ _ | with_reducible refine block_set_ne ?_ (by assumption) _ _ | with_reducible refine block_alloc_lt ?_ _))) ?_
  rintro e w1 ⟨rfl, rfl⟩
  simp only [tabCells, HA.out]
  go_wp2_with fail
  clear hc hf
  refine Calls.mono (g_goOn { tc with e := none } t (.func 86) #[.pointer (some ⟨t, 0, none⟩)] #[] _ (by repeat (first | with_reducible refine blk_drew ?_ | with_reducible refine blk_drewN ?_ _ | with_reducible refine block_alloc_lt ?_ _ | exact (block_set_same H.out _ _).trans (by simp [Tc.cells])))) ?_
  rintro e wz ⟨rfl, hz, kz⟩
  have rz : wz.heap[w.heap.size]? = some (.cells #[.bool false, .bool false, .int .i64 0] 30 (0, 0)) := kz.at (by repeat (first | with_reducible exact block_alloc_new _ _ | with_reducible refine blk_drew ?_ | with_reducible refine blk_drewN ?_ _ | with_reducible refine block_set_ne ?_ (by assumption) _ _ | with_reducible exact newBox (by with_reducible first | exact rfl | exact size_setP _ _ _ | exact (size_setP _ _ _).trans (size_setP _ _ _) | exact (size_setP _ _ _).trans ((size_setP _ _ _).trans (size_setP _ _ _))) _ | with_reducible refine block_alloc_lt ?_ _)) (by simp <;> omega)
  have KZ : Hid (Kept [t] w wz) := Kept.drop (by repeat (first | with_reducible exact Kept.refl _ _ | with_reducible refine Kept.drew ?_ | with_reducible refine Kept.drewN ?_ _ | with_reducible refine Kept.alloc ?_ _ | with_reducible refine Kept.setAt ?_ (.inl mem0) _ _ | with_reducible refine Kept.setAt ?_ (.inl mem1) _ _ | with_reducible refine Kept.setAt ?_ (.inl mem2) _ _ | with_reducible refine Kept.setAt ?_ (.inr (Nat.le_refl _)) _ _)) kz (by simp)
  have hcz : ∀ o, wz.cell? ⟨w.heap.size, o, none⟩ = #[.bool false, .bool false, .int .i64 0][o]? := cell_of rz
  have hfz : ∀ o, wz.frozen? ⟨w.heap.size, o, none⟩ = false := frozen_of rz
  clear kz
  simp only [ans]
  go_wp2
  refine bodyPost_ret (v := ans false false 0 0) (by simp [results, Try.results76, go_sem, ans, cell_of (resLaidP rz false false 0)]) rfl ⟨rfl, blk_res hz (by omega) _ _ _, KZ.out.res (Nat.le_refl _) _ _ _⟩
set_option maxRecDepth 100000 in
set_option maxHeartbeats 1600000 in
theorem p_s8_no (tc : Tc) (sh : Sh) (t : Nat) (w : World) (h : w.heap[t]? = some (.cells tc.cells 103 (0, 0))) (hS : w.heap[tc.s]? = some (.cells sh.cells 97 (0, 0))) (hk0 : 0 ≤ tc.key) (hk7 : tc.key < 8) (hR : sh.D tc.key.toNat = none) (ha : sh.am = false) :
    Calls Try.prog 76 #[.pointer (some ⟨t, 0, none⟩)] w fun e w' => e = .returned (ans false false 0 0) ∧ w'.heap[t]? = some (.cells { tc with e := none, nx := .func (.func 87) #[.pointer (some ⟨t, 0, none⟩)] #[] }.cells 103 (0, 0)) ∧ Kept [t] w w' := by
  have hs := lt_of_block h
  have hs2 := lt_of_block hS
  have hne : t ≠ tc.s := ne_of_blocks h hS (by simp)
  have hne' : tc.s ≠ t := Ne.symm hne
  have hnt : t ≠ w.heap.size := Nat.ne_of_lt hs
  have hns : tc.s ≠ w.heap.size := Nat.ne_of_lt hs2
  have hnt' : w.heap.size ≠ t := Ne.symm hnt
  have hns' : w.heap.size ≠ tc.s := Ne.symm hns
  have hc : ∀ o, w.cell? ⟨t, o, none⟩ = tc.cells[o]? := cell_of h
  simp only [Tc.cells] at hc
  have hn := idx_pI sh.D tc.key hk0 hk7
  rw [hR] at hn
  have hf : ∀ o, w.frozen? ⟨t, o, none⟩ = false := frozen_of h
  have hfl := fld105 sh.D sh.hd
  have hfl1 := fld101a sh.R sh.am
  simp only [ha] at hfl1
  have H : Hid _ := h
  have HS : Hid _ := hS
  have HA : Hid _ := ha
  clear h hS hR ha
  go_enter Try.func76, Try.ntmps76
  go_wp2_with fail
  go_region_held3 (fun w' => w'.cell? ⟨t, 1, none⟩ = some (Value.pointer (some ⟨tc.s, 0, none⟩)) ∧ w'.cell? ⟨t, 3, none⟩ = some (Value.int IntKind.i64 tc.key)) (first | (refine ⟨?_, ?_⟩ <;> go_simp)) ((go_at_call 39; refine (g_lookDirty sh tc.s _ (by repeat (first | with_reducible exact HS.out | with_reducible refine blk_drew ?_ | with_reducible refine blk_drewN ?_ _ | with_reducible refine block_set_ne ?_ (by assumption) _ _ | with_reducible refine block_alloc_lt ?_ _))).mono ?_; rintro e w' ⟨rfl, rfl⟩; simp only [tabCells]))
  clear hn hfl
  go_wp2_with fail
  refine Calls.mono (g_lookRead sh tc.s _ (by repeat (first | with_reducible exact HS.out | with_reducible refine blk_drew ?_ | with_reducible refine blk_drewN ?_ _ | with_reducible refine block_set_ne ?_ (by assumption) _ _ | with_reducible refine block_alloc_lt ?_ _))) ?_
  rintro e w1 ⟨rfl, rfl⟩
  simp only [tabCells, HA.out]
  go_wp2_with fail
  clear hc hf
  refine Calls.mono (g_goOn { tc with e := none } t (.func 87) #[.pointer (some ⟨t, 0, none⟩)] #[] _ (by repeat (first | with_reducible refine blk_drew ?_ | with_reducible refine blk_drewN ?_ _ | with_reducible refine block_alloc_lt ?_ _ | exact (block_set_same H.out _ _).trans (by simp [Tc.cells])))) ?_
  rintro e wz ⟨rfl, hz, kz⟩
  have rz : wz.heap[w.heap.size]? = some (.cells #[.bool false, .bool false, .int .i64 0] 30 (0, 0)) := kz.at (by repeat (first | with_reducible exact block_alloc_new _ _ | with_reducible refine blk_drew ?_ | with_reducible refine blk_drewN ?_ _ | with_reducible refine block_set_ne ?_ (by assumption) _ _ | with_reducible exact newBox (by with_reducible first | exact rfl | exact size_setP _ _ _ | exact (size_setP _ _ _).trans (size_setP _ _ _) | exact (size_setP _ _ _).trans ((size_setP _ _ _).trans (size_setP _ _ _))) _ | with_reducible refine block_alloc_lt ?_ _)) (by simp <;> omega)
  have KZ : Hid (Kept [t] w wz) := Kept.drop (by repeat (first | with_reducible exact Kept.refl _ _ | with_reducible refine Kept.drew ?_ | with_reducible refine Kept.drewN ?_ _ | with_reducible refine Kept.alloc ?_ _ | with_reducible refine Kept.setAt ?_ (.inl mem0) _ _ | with_reducible refine Kept.setAt ?_ (.inl mem1) _ _ | with_reducible refine Kept.setAt ?_ (.inl mem2) _ _ | with_reducible refine Kept.setAt ?_ (.inr (Nat.le_refl _)) _ _)) kz (by simp)
  have hcz : ∀ o, wz.cell? ⟨w.heap.size, o, none⟩ = #[.bool false, .bool false, .int .i64 0][o]? := cell_of rz
  have hfz : ∀ o, wz.frozen? ⟨w.heap.size, o, none⟩ = false := frozen_of rz
  clear kz
  simp only [ans]
  go_wp2
  refine bodyPost_ret (v := ans false false 0 0) (by simp [results, Try.results76, go_sem, ans, cell_of (resLaidP rz false false 0)]) rfl ⟨rfl, blk_res hz (by omega) _ _ _, KZ.out.res (Nat.le_refl _) _ _ _⟩
set_option maxRecDepth 100000 in
set_option maxHeartbeats 1600000 in
theorem p_s14 (tc : Tc) (sh : Sh) (t : Nat) (w : World) (h : w.heap[t]? = some (.cells tc.cells 103 (0, 0))) (hS : w.heap[tc.s]? = some (.cells sh.cells 97 (0, 0)))  :
    Calls Try.prog 92 #[.pointer (some ⟨t, 0, none⟩)] w fun e w' => e = .returned (ans true true tc.val 0) ∧ w'.heap[t]? = some (.cells tc.idle.cells 103 (0, 0)) ∧ w'.heap[tc.s]? = some (.cells { sh with hol := -1 }.cells 97 (0, 0)) ∧ Kept [t, tc.s] w w' := by
  have hs := lt_of_block h
  have hs2 := lt_of_block hS
  have hne : t ≠ tc.s := ne_of_blocks h hS (by simp)
  have hne' : tc.s ≠ t := Ne.symm hne
  have hnt : t ≠ w.heap.size := Nat.ne_of_lt hs
  have hns : tc.s ≠ w.heap.size := Nat.ne_of_lt hs2
  have hnt' : w.heap.size ≠ t := Ne.symm hnt
  have hns' : w.heap.size ≠ tc.s := Ne.symm hns
  have hc : ∀ o, w.cell? ⟨t, o, none⟩ = tc.cells[o]? := cell_of h
  simp only [Tc.cells] at hc
  have H : Hid _ := h
  have HS : Hid _ := hS
  clear h hS
  go_enter Try.func92, Try.ntmps92
  go_wp2_with fail
  refine Calls.mono (g_freeLock tc sh t _ (by repeat (first | with_reducible exact H.out | with_reducible refine blk_drew ?_ | with_reducible refine blk_drewN ?_ _ | with_reducible refine block_set_ne ?_ (by assumption) _ _ | with_reducible refine block_alloc_lt ?_ _)) (by repeat (first | with_reducible exact HS.out | with_reducible refine blk_drew ?_ | with_reducible refine blk_drewN ?_ _ | with_reducible refine block_set_ne ?_ (by assumption) _ _ | with_reducible refine block_alloc_lt ?_ _))) ?_
  rintro e w9 ⟨rfl, s9, k9⟩
  have t9 : w9.heap[t]? = some (.cells tc.cells 103 (0, 0)) := k9.at (by repeat (first | with_reducible exact H.out | with_reducible refine blk_drew ?_ | with_reducible refine blk_drewN ?_ _ | with_reducible refine block_set_ne ?_ (by assumption) _ _ | with_reducible refine block_alloc_lt ?_ _)) (by simp <;> omega)
  have c94 : w9.cell? ⟨t, 4, none⟩ = some (.int .i64 tc.val) := cell_of t9 4
  clear hc
  go_wp2_with fail
  refine Calls.mono (g_doneWith tc t tc.val _ (by repeat (first | with_reducible exact t9 | with_reducible refine blk_drew ?_ | with_reducible refine blk_drewN ?_ _ | with_reducible refine block_set_ne ?_ (by assumption) _ _ | with_reducible refine block_alloc_lt ?_ _))) ?_
  rintro e wz ⟨rfl, hz, kz⟩
  have rz : wz.heap[w.heap.size]? = some (.cells #[.bool false, .bool false, .int .i64 0] 30 (0, 0)) := kz.at (k9.at (by repeat (first | with_reducible exact block_alloc_new _ _ | with_reducible refine blk_drew ?_ | with_reducible refine blk_drewN ?_ _ | with_reducible refine block_set_ne ?_ (by assumption) _ _ | with_reducible exact newBox (by with_reducible first | exact rfl | exact size_setP _ _ _ | exact (size_setP _ _ _).trans (size_setP _ _ _) | exact (size_setP _ _ _).trans ((size_setP _ _ _).trans (size_setP _ _ _))) _ | with_reducible refine block_alloc_lt ?_ _)) (by simp <;> omega)) (by simp <;> omega)
  have sz0 : wz.heap[tc.s]? = some (.cells { sh with hol := -1 }.cells 97 (0, 0)) := kz.at s9 (by simp <;> omega)
  have KZ : Hid (Kept [t, tc.s] w wz) := Kept.drop (Kept.trans (by repeat (first | with_reducible exact Kept.refl _ _ | with_reducible refine Kept.drew ?_ | with_reducible refine Kept.drewN ?_ _ | with_reducible refine Kept.alloc ?_ _ | with_reducible refine Kept.setAt ?_ (.inl mem0) _ _ | with_reducible refine Kept.setAt ?_ (.inl mem1) _ _ | with_reducible refine Kept.setAt ?_ (.inl mem2) _ _ | with_reducible refine Kept.setAt ?_ (.inr (Nat.le_refl _)) _ _)) (k9.mono (by simp))) kz (by simp)
  have hcz : ∀ o, wz.cell? ⟨w.heap.size, o, none⟩ = #[.bool false, .bool false, .int .i64 0][o]? := cell_of rz
  have hfz : ∀ o, wz.frozen? ⟨w.heap.size, o, none⟩ = false := frozen_of rz
  clear kz
  simp only [ans]
  go_wp2
  refine bodyPost_ret (v := ans true true tc.val 0) (by simp [results, Try.results92, go_sem, ans, cell_of (resLaidP rz true true tc.val)]) rfl ⟨rfl, blk_res hz (by omega) _ _ _, blk_res sz0 (by omega) _ _ _, KZ.out.res (Nat.le_refl _) _ _ _⟩
end Go.Proofs.Ytmnkphenobfbfaa
namespace Go.Proofs.Ytmnkphenobfbfaa
open Go.RowKit
set_option maxRecDepth 100000 in
set_option maxHeartbeats 1600000 in
theorem p_s11 (tc : Tc) (sh : Sh) (t : Nat) (w : World) (h : w.heap[t]? = some (.cells tc.cells 103 (0, 0))) (hS : w.heap[tc.s]? = some (.cells sh.cells 97 (0, 0)))  :
    Calls Try.prog 100 #[.pointer (some ⟨t, 0, none⟩)] w fun e w' => e = .returned (ans false false 0 0) ∧ w'.heap[t]? = some (.cells { tc with nx := .func (.func 86) #[.pointer (some ⟨t, 0, none⟩)] #[] }.cells 103 (0, 0)) ∧ w'.heap[tc.s]? = some (.cells { sh with am := true }.cells 97 (0, 0)) ∧ Kept [t, tc.s] w w' := by
  have hs := lt_of_block h
  have hs2 := lt_of_block hS
  have hne : t ≠ tc.s := ne_of_blocks h hS (by simp)
  have hne' : tc.s ≠ t := Ne.symm hne
  have hnt : t ≠ w.heap.size := Nat.ne_of_lt hs
  have hns : tc.s ≠ w.heap.size := Nat.ne_of_lt hs2
  have hnt' : w.heap.size ≠ t := Ne.symm hnt
  have hns' : w.heap.size ≠ tc.s := Ne.symm hns
  have hc : ∀ o, w.cell? ⟨t, o, none⟩ = tc.cells[o]? := cell_of h
  simp only [Tc.cells] at hc
  have H : Hid _ := h
  have HS : Hid _ := hS
  clear h hS
  go_enter Try.func100, Try.ntmps100
  go_wp2_with fail
  refine Calls.mono (g_lookRead sh tc.s _ (by repeat (first | with_reducible exact HS.out | with_reducible refine blk_drew ?_ | with_reducible refine blk_drewN ?_ _ | with_reducible refine block_set_ne ?_ (by assumption) _ _ | with_reducible refine block_alloc_lt ?_ _))) ?_
  rintro e w1 ⟨rfl, rfl⟩
  simp only [tabCells]
  go_wp2_with fail
  have h1 := block_alloc_lt (block_alloc_lt (block_alloc_lt H.out (.cells #[.bool false, .bool false, .int .i64 0] 30)) (.cells #[Value.pointer (sh.R 0), .pointer (sh.R 1), .pointer (sh.R 2), .pointer (sh.R 3), .pointer (sh.R 4), .pointer (sh.R 5), .pointer (sh.R 6), .pointer (sh.R 7), .bool sh.am] 87)) (.cells #[Value.pointer (sh.R 0), .pointer (sh.R 1), .pointer (sh.R 2), .pointer (sh.R 3), .pointer (sh.R 4), .pointer (sh.R 5), .pointer (sh.R 6), .pointer (sh.R 7), .bool true] 87)
  have s1 := block_alloc_lt (block_alloc_lt (block_alloc_lt HS.out (.cells #[.bool false, .bool false, .int .i64 0] 30)) (.cells #[Value.pointer (sh.R 0), .pointer (sh.R 1), .pointer (sh.R 2), .pointer (sh.R 3), .pointer (sh.R 4), .pointer (sh.R 5), .pointer (sh.R 6), .pointer (sh.R 7), .bool sh.am] 87)) (.cells #[Value.pointer (sh.R 0), .pointer (sh.R 1), .pointer (sh.R 2), .pointer (sh.R 3), .pointer (sh.R 4), .pointer (sh.R 5), .pointer (sh.R 6), .pointer (sh.R 7), .bool true] 87)
  have r1 := block_alloc_lt (block_alloc_lt (block_alloc_new w (.cells #[.bool false, .bool false, .int .i64 0] 30)) (.cells #[Value.pointer (sh.R 0), .pointer (sh.R 1), .pointer (sh.R 2), .pointer (sh.R 3), .pointer (sh.R 4), .pointer (sh.R 5), .pointer (sh.R 6), .pointer (sh.R 7), .bool sh.am] 87)) (.cells #[Value.pointer (sh.R 0), .pointer (sh.R 1), .pointer (sh.R 2), .pointer (sh.R 3), .pointer (sh.R 4), .pointer (sh.R 5), .pointer (sh.R 6), .pointer (sh.R 7), .bool true] 87)
  have g1 := block_alloc_new ((w.alloc (.cells #[.bool false, .bool false, .int .i64 0] 30)).alloc (.cells #[Value.pointer (sh.R 0), .pointer (sh.R 1), .pointer (sh.R 2), .pointer (sh.R 3), .pointer (sh.R 4), .pointer (sh.R 5), .pointer (sh.R 6), .pointer (sh.R 7), .bool sh.am] 87)) (.cells #[Value.pointer (sh.R 0), .pointer (sh.R 1), .pointer (sh.R 2), .pointer (sh.R 3), .pointer (sh.R 4), .pointer (sh.R 5), .pointer (sh.R 6), .pointer (sh.R 7), .bool true] 87)
  have k1 := (((Kept.refl [t, tc.s] w).alloc (.cells #[.bool false, .bool false, .int .i64 0] 30)).alloc (.cells #[Value.pointer (sh.R 0), .pointer (sh.R 1), .pointer (sh.R 2), .pointer (sh.R 3), .pointer (sh.R 4), .pointer (sh.R 5), .pointer (sh.R 6), .pointer (sh.R 7), .bool sh.am] 87)).alloc (.cells #[Value.pointer (sh.R 0), .pointer (sh.R 1), .pointer (sh.R 2), .pointer (sh.R 3), .pointer (sh.R 4), .pointer (sh.R 5), .pointer (sh.R 6), .pointer (sh.R 7), .bool true] 87)
  simp only [World.size_alloc] at g1
  clear hc
  generalize ((w.alloc (.cells #[.bool false, .bool false, .int .i64 0] 30)).alloc (.cells #[Value.pointer (sh.R 0), .pointer (sh.R 1), .pointer (sh.R 2), .pointer (sh.R 3), .pointer (sh.R 4), .pointer (sh.R 5), .pointer (sh.R 6), .pointer (sh.R 7), .bool sh.am] 87)).alloc (.cells #[Value.pointer (sh.R 0), .pointer (sh.R 1), .pointer (sh.R 2), .pointer (sh.R 3), .pointer (sh.R 4), .pointer (sh.R 5), .pointer (sh.R 6), .pointer (sh.R 7), .bool true] 87) = W at *
  have c11 : W.cell? ⟨t, 1, none⟩ = some (Value.pointer (some ⟨tc.s, 0, none⟩)) := cell_of h1 1
  have hc1 : ∀ o, W.cell? ⟨w.heap.size + 1 + 1, o, none⟩ = #[Value.pointer (sh.R 0), .pointer (sh.R 1), .pointer (sh.R 2), .pointer (sh.R 3), .pointer (sh.R 4), .pointer (sh.R 5), .pointer (sh.R 6), .pointer (sh.R 7), .bool true][o]? := cell_of g1
  have H1 : Hid _ := h1
  have S1 : Hid _ := s1
  have R1 : Hid _ := r1
  have K1 : Hid _ := k1
  clear h1 s1 r1 k1 g1
  go_region_with ((go_at_call 104; refine Calls.mono (g_setRead sh tc.s sh.R true _ (blk_drew S1.out)) ?_; rintro e w9 ⟨rfl, s9, k9⟩))
  all_goals
    have t9 : w9.heap[t]? = some (.cells tc.cells 103 (0, 0)) := k9.at (blk_drew H1.out) (by simp <;> omega)
    have r9 := k9.at (blk_drew R1.out) (by simp <;> omega)
    have kk9 := K1.out.drew.trans (k9.mono (by simp))
    clear c11 hc1
    go_wp2_with fail
    refine Calls.mono (g_goOn tc t (.func 86) #[.pointer (some ⟨t, 0, none⟩)] #[] _ t9) ?_
    rintro e wz ⟨rfl, hz, kz⟩
    have rz : wz.heap[w.heap.size]? = some (.cells #[.bool false, .bool false, .int .i64 0] 30 (0, 0)) := kz.at r9 (by simp <;> omega)
    have sz0 : wz.heap[tc.s]? = some (.cells { sh with am := true }.cells 97 (0, 0)) := kz.at s9 (by simp <;> omega)
    have KZ : Hid (Kept [t, tc.s] w wz) := Kept.drop kk9 kz (by simp)
    have hcz : ∀ o, wz.cell? ⟨w.heap.size, o, none⟩ = #[.bool false, .bool false, .int .i64 0][o]? := cell_of rz
    have hfz : ∀ o, wz.frozen? ⟨w.heap.size, o, none⟩ = false := frozen_of rz
    clear kz
    simp only [ans]
    go_wp2
    refine bodyPost_ret (v := ans false false 0 0) (by simp [results, Try.results100, go_sem, ans, cell_of (resLaidP rz false false 0)]) rfl ⟨rfl, blk_res hz (by omega) _ _ _, blk_res sz0 (by omega) _ _ _, KZ.out.res (Nat.le_refl _) _ _ _⟩
set_option maxRecDepth 100000 in
set_option maxHeartbeats 1600000 in
theorem p_s13 (tc : Tc) (t : Nat) (g : Nat) (x y : Int) (w : World) (h : w.heap[t]? = some (.cells tc.cells 103 (0, 0))) (hE : w.heap[g]? = some (.cells #[.int .i64 x, .int .i64 y] 124 (0, 0))) (he : tc.e = some ⟨g, 0, none⟩) :
    Calls Try.prog 85 #[.pointer (some ⟨t, 0, none⟩)] w fun e w' => e = .returned (ans false false 0 0) ∧ w'.heap[t]? = some (.cells { tc with nx := .func (.func 92) #[.pointer (some ⟨t, 0, none⟩)] #[] }.cells 103 (0, 0)) ∧ w'.heap[g]? = some (.cells #[.int .i64 0, .int .i64 tc.val] 124 (0, 0)) ∧ Kept [t, g] w w' := by
  have hs := lt_of_block h
  have hnt : t ≠ w.heap.size := Nat.ne_of_lt hs
  have hnt' : w.heap.size ≠ t := Ne.symm hnt
  have hc : ∀ o, w.cell? ⟨t, o, none⟩ = tc.cells[o]? := cell_of h
  simp only [Tc.cells] at hc
  have hg := lt_of_block hE
  have hgt : g ≠ t := ne_of_blocks hE h (by simp)
  have hgt' : t ≠ g := Ne.symm hgt
  have hgn : g ≠ w.heap.size := Nat.ne_of_lt hg
  have hgn' : w.heap.size ≠ g := Ne.symm hgn
  simp only [he] at hc
  have H : Hid _ := h
  have HE : Hid _ := hE
  have HEE : Hid _ := he
  clear h hE he
  go_enter Try.func85, Try.ntmps85
  go_wp2_with fail
  go_region_held3 (fun w' => w'.cell? ⟨t, 6, none⟩ = some (Value.pointer (some ⟨g, 0, none⟩)) ∧ w'.cell? ⟨t, 4, none⟩ = some (Value.int IntKind.i64 tc.val)) (first | exact ⟨c96, c94⟩ | (refine ⟨?_, ?_⟩ <;> go_simp)) (first | (go_at_call 79; refine (g_having tc.val _).mono ?_; rintro e w' ⟨rfl, rfl⟩) | (go_at_call 91; refine Calls.mono (g_setC g x y 0 tc.val _ (by repeat (first | with_reducible exact HE.out | with_reducible refine blk_drew ?_ | with_reducible refine blk_drewN ?_ _ | with_reducible refine block_set_ne ?_ (by assumption) _ _ | with_reducible refine block_alloc_lt ?_ _))) ?_; rintro e w9 ⟨rfl, e9, k9⟩; have t9 : w9.heap[t]? = some (.cells tc.cells 103 (0, 0)) := k9.at (by repeat (first | with_reducible exact H.out | with_reducible refine blk_drew ?_ | with_reducible refine blk_drewN ?_ _ | with_reducible refine block_set_ne ?_ (by assumption) _ _ | with_reducible refine block_alloc_lt ?_ _)) (by simp <;> omega); have c96 : w9.cell? ⟨t, 6, none⟩ = some (Value.pointer (some ⟨g, 0, none⟩)) := (cell_of t9 6).trans (by simp [Tc.cells, HEE.out]); have c94 : w9.cell? ⟨t, 4, none⟩ = some (Value.int IntKind.i64 tc.val) := cell_of t9 4))
  clear hc
  go_wp2_with fail
  refine Calls.mono (g_goOn tc t (.func 92) #[.pointer (some ⟨t, 0, none⟩)] #[] _ t9) ?_
  rintro e wz ⟨rfl, hz, kz⟩
  have rz : wz.heap[w.heap.size]? = some (.cells #[.bool false, .bool false, .int .i64 0] 30 (0, 0)) := kz.at (k9.at (by repeat (first | with_reducible exact block_alloc_new _ _ | with_reducible refine blk_drew ?_ | with_reducible refine blk_drewN ?_ _ | with_reducible refine block_set_ne ?_ (by assumption) _ _ | with_reducible exact newBox (by with_reducible first | exact rfl | exact size_setP _ _ _ | exact (size_setP _ _ _).trans (size_setP _ _ _) | exact (size_setP _ _ _).trans ((size_setP _ _ _).trans (size_setP _ _ _))) _ | with_reducible refine block_alloc_lt ?_ _)) (by simp <;> omega)) (by simp <;> omega)
  have sz0 : wz.heap[g]? = some (.cells #[.int .i64 0, .int .i64 tc.val] 124 (0, 0)) := kz.at e9 (by simp <;> omega)
  have KZ : Hid (Kept [t, g] w wz) := Kept.drop (Kept.trans (by repeat (first | with_reducible exact Kept.refl _ _ | with_reducible refine Kept.drew ?_ | with_reducible refine Kept.drewN ?_ _ | with_reducible refine Kept.alloc ?_ _ | with_reducible refine Kept.setAt ?_ (.inl mem0) _ _ | with_reducible refine Kept.setAt ?_ (.inl mem1) _ _ | with_reducible refine Kept.setAt ?_ (.inl mem2) _ _ | with_reducible refine Kept.setAt ?_ (.inr (Nat.le_refl _)) _ _)) (k9.mono (by simp))) kz (by simp)
  have hcz : ∀ o, wz.cell? ⟨w.heap.size, o, none⟩ = #[.bool false, .bool false, .int .i64 0][o]? := cell_of rz
  have hfz : ∀ o, wz.frozen? ⟨w.heap.size, o, none⟩ = false := frozen_of rz
  clear kz
  simp only [ans]
  go_wp2
  refine bodyPost_ret (v := ans false false 0 0) (by simp [results, Try.results85, go_sem, ans, cell_of (resLaidP rz false false 0)]) rfl ⟨rfl, blk_res hz (by omega) _ _ _, blk_res sz0 (by omega) _ _ _, KZ.out.res (Nat.le_refl _) _ _ _⟩
set_option maxRecDepth 100000 in
set_option maxHeartbeats 1600000 in
theorem p_s12 (tc : Tc) (sh : Sh) (t : Nat) (w : World) (h : w.heap[t]? = some (.cells tc.cells 103 (0, 0))) (hS : w.heap[tc.s]? = some (.cells sh.cells 97 (0, 0))) (hk0 : 0 ≤ tc.key) (hk7 : tc.key < 8) :
    Calls Try.prog 86 #[.pointer (some ⟨t, 0, none⟩)] w fun e w' => ∃ g, e = .returned (ans false false 0 0) ∧ w'.heap[t]? = some (.cells { tc with nx := .func (.func 92) #[.pointer (some ⟨t, 0, none⟩)] #[] }.cells 103 (0, 0)) ∧ w'.heap[tc.s]? = some (.cells { sh with D := fun j => if j = tc.key.toNat then some ⟨g, 0, none⟩ else sh.D j }.cells 97 (0, 0)) ∧ w'.heap[g]? = some (.cells #[.int .i64 0, .int .i64 tc.val] 124 (0, 0)) ∧ w.heap.size ≤ g ∧ Kept [t, tc.s] w w' := by
  have hs := lt_of_block h
  have hs2 := lt_of_block hS
  have hne : t ≠ tc.s := ne_of_blocks h hS (by simp)
  have hne' : tc.s ≠ t := Ne.symm hne
  have hnt : t ≠ w.heap.size := Nat.ne_of_lt hs
  have hns : tc.s ≠ w.heap.size := Nat.ne_of_lt hs2
  have hnt' : w.heap.size ≠ t := Ne.symm hnt
  have hns' : w.heap.size ≠ tc.s := Ne.symm hns
  have hc : ∀ o, w.cell? ⟨t, o, none⟩ = tc.cells[o]? := cell_of h
  simp only [Tc.cells] at hc
  have hkey : tc.key = ((tc.key.toNat : Nat) : Int) := by omega
  have hkl : tc.key.toNat < 8 := by omega
  have H : Hid _ := h
  have HS : Hid _ := hS
  have HK : Hid _ := hkey
  clear h hS hkey
  go_enter Try.func86, Try.ntmps86
  go_wp2_with fail
  go_region_held3 (fun w' => w'.cell? ⟨t, 1, none⟩ = some (Value.pointer (some ⟨tc.s, 0, none⟩)) ∧ w'.cell? ⟨t, 3, none⟩ = some (Value.int IntKind.i64 tc.key) ∧ w'.cell? ⟨t, 4, none⟩ = some (Value.int IntKind.i64 tc.val)) (first | exact ⟨c91, c93, c94⟩ | exact ⟨d91, d93, d94⟩ | (refine ⟨?_, ?_, ?_⟩ <;> go_simp)) (first | (go_at_call 94; refine Calls.mono (g_newEntry tc.val _) ?_; rintro e w8 ⟨g, rfl, e8, hg8, k8⟩; have t8 : w8.heap[t]? = some (.cells tc.cells 103 (0, 0)) := k8.at (by repeat (first | with_reducible exact H.out | with_reducible refine blk_drew ?_ | with_reducible refine blk_drewN ?_ _ | with_reducible refine block_set_ne ?_ (by assumption) _ _ | with_reducible refine block_alloc_lt ?_ _)) (by simp); have s8 : w8.heap[tc.s]? = some (.cells sh.cells 97 (0, 0)) := k8.at (by repeat (first | with_reducible exact HS.out | with_reducible refine blk_drew ?_ | with_reducible refine blk_drewN ?_ _ | with_reducible refine block_set_ne ?_ (by assumption) _ _ | with_reducible refine block_alloc_lt ?_ _)) (by simp); have d91 : w8.cell? ⟨t, 1, none⟩ = some (Value.pointer (some ⟨tc.s, 0, none⟩)) := cell_of t8 1; have d93 : w8.cell? ⟨t, 3, none⟩ = some (Value.int IntKind.i64 tc.key) := cell_of t8 3; have d94 : w8.cell? ⟨t, 4, none⟩ = some (Value.int IntKind.i64 tc.val) := cell_of t8 4) | (go_at_call 93; refine Calls.mono (by rw [HK.out]; exact g_putInDirty sh tc.s tc.key.toNat (some ⟨g, 0, none⟩) _ s8 hkl) ?_; rintro e w9 ⟨rfl, s9, k9⟩; have t9 : w9.heap[t]? = some (.cells tc.cells 103 (0, 0)) := k9.at t8 (by simp <;> omega); have c91 : w9.cell? ⟨t, 1, none⟩ = some (Value.pointer (some ⟨tc.s, 0, none⟩)) := cell_of t9 1; have c93 : w9.cell? ⟨t, 3, none⟩ = some (Value.int IntKind.i64 tc.key) := cell_of t9 3; have c94 : w9.cell? ⟨t, 4, none⟩ = some (Value.int IntKind.i64 tc.val) := cell_of t9 4))
  have ge9 : w9.heap[g]? = some (.cells #[.int .i64 0, .int .i64 tc.val] 124 (0, 0)) := k9.at e8 (by simp; exact ne_of_blocks e8 s8 (by simp))
  have kk9 : Hid (Kept [t, tc.s] w w9) := (Kept.trans (by repeat (first | with_reducible exact Kept.refl _ _ | with_reducible refine Kept.drew ?_ | with_reducible refine Kept.drewN ?_ _ | with_reducible refine Kept.alloc ?_ _ | with_reducible refine Kept.setAt ?_ (.inl mem0) _ _ | with_reducible refine Kept.setAt ?_ (.inl mem1) _ _ | with_reducible refine Kept.setAt ?_ (.inl mem2) _ _ | with_reducible refine Kept.setAt ?_ (.inr (Nat.le_refl _)) _ _)) (k8.mono (by simp))).trans (k9.mono (by simp))
  have r9 : w9.heap[w.heap.size]? = some (.cells #[.bool false, .bool false, .int .i64 0] 30 (0, 0)) := k9.at (k8.at (by repeat (first | with_reducible exact block_alloc_new _ _ | with_reducible refine blk_drew ?_ | with_reducible refine blk_drewN ?_ _ | with_reducible refine block_set_ne ?_ (by assumption) _ _ | with_reducible exact newBox (by with_reducible first | exact rfl | exact size_setP _ _ _ | exact (size_setP _ _ _).trans (size_setP _ _ _) | exact (size_setP _ _ _).trans ((size_setP _ _ _).trans (size_setP _ _ _))) _ | with_reducible refine block_alloc_lt ?_ _)) (by simp)) (by simp <;> omega)
  have hgl : w.heap.size < g := by have := ne_of_blocks ge9 r9 (by simp); simp only [World.size_alloc, World.size_drew] at hg8; omega
  have hgt : g ≠ t := by omega
  clear hc k8 k9 d91 d93 d94 e8 t8 s8
  go_wp2_with fail
  refine Calls.mono (g_goOn tc t (.func 92) #[.pointer (some ⟨t, 0, none⟩)] #[] _ t9) ?_
  rintro e wz ⟨rfl, hz, kz⟩
  have rz : wz.heap[w.heap.size]? = some (.cells #[.bool false, .bool false, .int .i64 0] 30 (0, 0)) := kz.at r9 (by simp <;> omega)
  have sz0 : wz.heap[tc.s]? = some (.cells { sh with D := fun j => if j = tc.key.toNat then some ⟨g, 0, none⟩ else sh.D j }.cells 97 (0, 0)) := kz.at s9 (by simp <;> omega)
  have sz1 : wz.heap[g]? = some (.cells #[.int .i64 0, .int .i64 tc.val] 124 (0, 0)) := kz.at ge9 (by simp <;> omega)
  have KZ : Hid (Kept [t, tc.s] w wz) := Kept.drop kk9.out kz (by simp)
  have hcz : ∀ o, wz.cell? ⟨w.heap.size, o, none⟩ = #[.bool false, .bool false, .int .i64 0][o]? := cell_of rz
  have hfz : ∀ o, wz.frozen? ⟨w.heap.size, o, none⟩ = false := frozen_of rz
  clear kz
  simp only [ans]
  go_wp2
  refine bodyPost_ret (v := ans false false 0 0) (by simp [results, Try.results86, go_sem, ans, cell_of (resLaidP rz false false 0)]) rfl ⟨g, rfl, blk_res hz (by omega) _ _ _, blk_res sz0 (by omega) _ _ _, blk_res sz1 (by omega) _ _ _, by omega, KZ.out.res (Nat.le_refl _) _ _ _⟩
/-- A thread at Store's 9 or 10, that goes on copying from k on. -/
def Tc.scan (tc : Tc) (t : Nat) (R : Nat → Option Addr) (k : Nat) : Tc :=
  if nextP R (8 - k) k < 8 then { tc with cp := nextP R (8 - k) k, nx := .func (.func 101) #[.pointer (some ⟨t, 0, none⟩)] #[] } else { tc with nx := .func (.func 100) #[.pointer (some ⟨t, 0, none⟩)] #[] }
set_option maxRecDepth 100000 in
set_option maxHeartbeats 1600000 in
theorem p_on_more (tc : Tc) (sh : Sh) (t : Nat) (k : Nat) (w : World) (h : w.heap[t]? = some (.cells tc.cells 103 (0, 0))) (hS : w.heap[tc.s]? = some (.cells sh.cells 97 (0, 0))) (hk : k ≤ 8) (hx : nextP sh.R (8 - k) k < 8) :
    Calls Try.prog 96 #[.pointer (some ⟨t, 0, none⟩), .int .i64 k] w fun e w' => e = .returned (ans false false 0 0) ∧ w'.heap[t]? = some (.cells { tc with cp := nextP sh.R (8 - k) k, nx := .func (.func 101) #[.pointer (some ⟨t, 0, none⟩)] #[] }.cells 103 (0, 0)) ∧ Kept [t] w w' := by
  have hs := lt_of_block h
  have hs2 := lt_of_block hS
  have hne : t ≠ tc.s := ne_of_blocks h hS (by simp)
  have hne' : tc.s ≠ t := Ne.symm hne
  have hnt : t ≠ w.heap.size := Nat.ne_of_lt hs
  have hns : tc.s ≠ w.heap.size := Nat.ne_of_lt hs2
  have hnt' : w.heap.size ≠ t := Ne.symm hnt
  have hns' : w.heap.size ≠ tc.s := Ne.symm hns
  have hc : ∀ o, w.cell? ⟨t, o, none⟩ = tc.cells[o]? := cell_of h
  simp only [Tc.cells] at hc
  have hf : ∀ o, w.frozen? ⟨t, o, none⟩ = false := frozen_of h
  have hfl := fld101 sh.R sh.am
  have hka : keyAns sh.R k = .tuple #[.int .i64 (nextP sh.R (8 - k) k), .bool true] := by simp only [keyAns, hx, if_true]
  have HKA : Hid _ := hka
  generalize nextP sh.R (8 - k) k = q at *
  have H : Hid _ := h
  have HS : Hid _ := hS
  clear h hS hka hx
  go_enter Try.func96, Try.ntmps96
  go_wp2_with fail
  refine Calls.mono (g_lookRead sh tc.s _ (by repeat (first | with_reducible exact HS.out | with_reducible refine blk_drew ?_ | with_reducible refine blk_drewN ?_ _ | with_reducible refine block_set_ne ?_ (by assumption) _ _ | with_reducible refine block_alloc_lt ?_ _))) ?_
  rintro e w1 ⟨rfl, rfl⟩
  simp only [tabCells]
  go_wp2_with fail
  refine Calls.mono (g_keyFrom sh.R k hk _) ?_
  rintro e w9 ⟨rfl, k9⟩
  rw [HKA.out]
  have t9 : w9.heap[t]? = some (.cells tc.cells 103 (0, 0)) := k9.at (by repeat (first | with_reducible exact H.out | with_reducible refine blk_drew ?_ | with_reducible refine blk_drewN ?_ _ | with_reducible refine block_set_ne ?_ (by assumption) _ _ | with_reducible refine block_alloc_lt ?_ _)) (by simp)
  have r9 : w9.heap[w.heap.size]? = some (.cells #[.bool false, .bool false, .int .i64 0] 30 (0, 0)) := k9.at (by repeat (first | with_reducible exact block_alloc_new _ _ | with_reducible refine blk_drew ?_ | with_reducible refine blk_drewN ?_ _ | with_reducible refine block_set_ne ?_ (by assumption) _ _ | with_reducible exact newBox (by with_reducible first | exact rfl | exact size_setP _ _ _ | exact (size_setP _ _ _).trans (size_setP _ _ _) | exact (size_setP _ _ _).trans ((size_setP _ _ _).trans (size_setP _ _ _))) _ | with_reducible refine block_alloc_lt ?_ _)) (by simp)
  have kk9 : Hid (Kept [t] w w9) := Kept.trans (by repeat (first | with_reducible exact Kept.refl _ _ | with_reducible refine Kept.drew ?_ | with_reducible refine Kept.drewN ?_ _ | with_reducible refine Kept.alloc ?_ _ | with_reducible refine Kept.setAt ?_ (.inl mem0) _ _ | with_reducible refine Kept.setAt ?_ (.inl mem1) _ _ | with_reducible refine Kept.setAt ?_ (.inl mem2) _ _ | with_reducible refine Kept.setAt ?_ (.inr (Nat.le_refl _)) _ _)) (k9.mono (by simp))
  clear hc hf k9 hfl
  have hc : ∀ o, w9.cell? ⟨t, o, none⟩ = tc.cells[o]? := cell_of t9
  simp only [Tc.cells] at hc
  have hf : ∀ o, w9.frozen? ⟨t, o, none⟩ = false := frozen_of t9
  have T9 : Hid _ := t9
  have hr9 := lt_of_block r9
  have ht9 := lt_of_block t9
  go_wp2_with fail
  clear hc hf
  refine Calls.mono (g_goOn { tc with cp := q } t (.func 101) #[.pointer (some ⟨t, 0, none⟩)] #[] _ (by repeat (first | with_reducible refine blk_drew ?_ | with_reducible refine blk_drewN ?_ _ | with_reducible refine block_alloc_lt ?_ _ | exact (block_set_same T9.out _ _).trans (by simp [Tc.cells])))) ?_
  rintro e wz ⟨rfl, hz, kz⟩
  have rz : wz.heap[w.heap.size]? = some (.cells #[.bool false, .bool false, .int .i64 0] 30 (0, 0)) := kz.at (by repeat (first | with_reducible exact r9 | with_reducible refine blk_drew ?_ | with_reducible refine blk_drewN ?_ _ | with_reducible refine block_set_ne ?_ (by assumption) _ _ | with_reducible refine block_alloc_lt ?_ _)) (by simp <;> omega)
  have KZ : Hid (Kept [t] w wz) := Kept.drop (by repeat (first | with_reducible exact kk9.out | with_reducible refine Kept.drew ?_ | with_reducible refine Kept.drewN ?_ _ | with_reducible refine Kept.alloc ?_ _ | with_reducible refine Kept.setAt ?_ (.inl mem0) _ _ | with_reducible refine Kept.setAt ?_ (.inl mem1) _ _ | with_reducible refine Kept.setAt ?_ (.inl mem2) _ _ | with_reducible refine Kept.setAt ?_ (.inr (Nat.le_refl _)) _ _)) kz (by simp)
  have hcz : ∀ o, wz.cell? ⟨w.heap.size, o, none⟩ = #[.bool false, .bool false, .int .i64 0][o]? := cell_of rz
  have hfz : ∀ o, wz.frozen? ⟨w.heap.size, o, none⟩ = false := frozen_of rz
  clear kz
  simp only [ans]
  go_wp2
  refine bodyPost_ret (v := ans false false 0 0) (by simp [results, Try.results96, go_sem, ans, cell_of (resLaidP rz false false 0)]) rfl ⟨rfl, blk_res hz (by omega) _ _ _, KZ.out.res (Nat.le_refl _) _ _ _⟩
set_option maxRecDepth 100000 in
set_option maxHeartbeats 1600000 in
theorem p_on_end (tc : Tc) (sh : Sh) (t : Nat) (k : Nat) (w : World) (h : w.heap[t]? = some (.cells tc.cells 103 (0, 0))) (hS : w.heap[tc.s]? = some (.cells sh.cells 97 (0, 0))) (hk : k ≤ 8) (hx : ¬ nextP sh.R (8 - k) k < 8) :
    Calls Try.prog 96 #[.pointer (some ⟨t, 0, none⟩), .int .i64 k] w fun e w' => e = .returned (ans false false 0 0) ∧ w'.heap[t]? = some (.cells { tc with nx := .func (.func 100) #[.pointer (some ⟨t, 0, none⟩)] #[] }.cells 103 (0, 0)) ∧ Kept [t] w w' := by
  have hs := lt_of_block h
  have hs2 := lt_of_block hS
  have hne : t ≠ tc.s := ne_of_blocks h hS (by simp)
  have hne' : tc.s ≠ t := Ne.symm hne
  have hnt : t ≠ w.heap.size := Nat.ne_of_lt hs
  have hns : tc.s ≠ w.heap.size := Nat.ne_of_lt hs2
  have hnt' : w.heap.size ≠ t := Ne.symm hnt
  have hns' : w.heap.size ≠ tc.s := Ne.symm hns
  have hc : ∀ o, w.cell? ⟨t, o, none⟩ = tc.cells[o]? := cell_of h
  simp only [Tc.cells] at hc
  have hf : ∀ o, w.frozen? ⟨t, o, none⟩ = false := frozen_of h
  have hfl := fld101 sh.R sh.am
  have hka : keyAns sh.R k = .tuple #[.int .i64 0, .bool false] := by simp only [keyAns, hx, if_false]
  have HKA : Hid _ := hka
  have H : Hid _ := h
  have HS : Hid _ := hS
  clear h hS hka hx
  go_enter Try.func96, Try.ntmps96
  go_wp2_with fail
  refine Calls.mono (g_lookRead sh tc.s _ (by repeat (first | with_reducible exact HS.out | with_reducible refine blk_drew ?_ | with_reducible refine blk_drewN ?_ _ | with_reducible refine block_set_ne ?_ (by assumption) _ _ | with_reducible refine block_alloc_lt ?_ _))) ?_
  rintro e w1 ⟨rfl, rfl⟩
  simp only [tabCells]
  go_wp2_with fail
  refine Calls.mono (g_keyFrom sh.R k hk _) ?_
  rintro e w9 ⟨rfl, k9⟩
  rw [HKA.out]
  have t9 : w9.heap[t]? = some (.cells tc.cells 103 (0, 0)) := k9.at (by repeat (first | with_reducible exact H.out | with_reducible refine blk_drew ?_ | with_reducible refine blk_drewN ?_ _ | with_reducible refine block_set_ne ?_ (by assumption) _ _ | with_reducible refine block_alloc_lt ?_ _)) (by simp)
  have r9 : w9.heap[w.heap.size]? = some (.cells #[.bool false, .bool false, .int .i64 0] 30 (0, 0)) := k9.at (by repeat (first | with_reducible exact block_alloc_new _ _ | with_reducible refine blk_drew ?_ | with_reducible refine blk_drewN ?_ _ | with_reducible refine block_set_ne ?_ (by assumption) _ _ | with_reducible exact newBox (by with_reducible first | exact rfl | exact size_setP _ _ _ | exact (size_setP _ _ _).trans (size_setP _ _ _) | exact (size_setP _ _ _).trans ((size_setP _ _ _).trans (size_setP _ _ _))) _ | with_reducible refine block_alloc_lt ?_ _)) (by simp)
  have kk9 : Hid (Kept [t] w w9) := Kept.trans (by repeat (first | with_reducible exact Kept.refl _ _ | with_reducible refine Kept.drew ?_ | with_reducible refine Kept.drewN ?_ _ | with_reducible refine Kept.alloc ?_ _ | with_reducible refine Kept.setAt ?_ (.inl mem0) _ _ | with_reducible refine Kept.setAt ?_ (.inl mem1) _ _ | with_reducible refine Kept.setAt ?_ (.inl mem2) _ _ | with_reducible refine Kept.setAt ?_ (.inr (Nat.le_refl _)) _ _)) (k9.mono (by simp))
  clear hc hf k9 hfl
  have hc : ∀ o, w9.cell? ⟨t, o, none⟩ = tc.cells[o]? := cell_of t9
  simp only [Tc.cells] at hc
  have hf : ∀ o, w9.frozen? ⟨t, o, none⟩ = false := frozen_of t9
  have T9 : Hid _ := t9
  have hr9 := lt_of_block r9
  have ht9 := lt_of_block t9
  go_wp2_with fail
  clear hc hf
  refine Calls.mono (g_goOn tc t (.func 100) #[.pointer (some ⟨t, 0, none⟩)] #[] _ (by repeat (first | with_reducible exact T9.out | with_reducible refine blk_drew ?_ | with_reducible refine blk_drewN ?_ _ | with_reducible refine block_set_ne ?_ (by assumption) _ _ | with_reducible refine block_alloc_lt ?_ _))) ?_
  rintro e wz ⟨rfl, hz, kz⟩
  have rz : wz.heap[w.heap.size]? = some (.cells #[.bool false, .bool false, .int .i64 0] 30 (0, 0)) := kz.at (by repeat (first | with_reducible exact r9 | with_reducible refine blk_drew ?_ | with_reducible refine blk_drewN ?_ _ | with_reducible refine block_set_ne ?_ (by assumption) _ _ | with_reducible refine block_alloc_lt ?_ _)) (by simp <;> omega)
  have KZ : Hid (Kept [t] w wz) := Kept.drop (by repeat (first | with_reducible exact kk9.out | with_reducible refine Kept.drew ?_ | with_reducible refine Kept.drewN ?_ _ | with_reducible refine Kept.alloc ?_ _ | with_reducible refine Kept.setAt ?_ (.inl mem0) _ _ | with_reducible refine Kept.setAt ?_ (.inl mem1) _ _ | with_reducible refine Kept.setAt ?_ (.inl mem2) _ _ | with_reducible refine Kept.setAt ?_ (.inr (Nat.le_refl _)) _ _)) kz (by simp)
  have hcz : ∀ o, wz.cell? ⟨w.heap.size, o, none⟩ = #[.bool false, .bool false, .int .i64 0][o]? := cell_of rz
  have hfz : ∀ o, wz.frozen? ⟨w.heap.size, o, none⟩ = false := frozen_of rz
  clear kz
  simp only [ans]
  go_wp2
  refine bodyPost_ret (v := ans false false 0 0) (by simp [results, Try.results96, go_sem, ans, cell_of (resLaidP rz false false 0)]) rfl ⟨rfl, blk_res hz (by omega) _ _ _, KZ.out.res (Nat.le_refl _) _ _ _⟩
theorem p_on (tc : Tc) (sh : Sh) (t : Nat) (k : Nat) (w : World) (h : w.heap[t]? = some (.cells tc.cells 103 (0, 0))) (hS : w.heap[tc.s]? = some (.cells sh.cells 97 (0, 0))) (hk : k ≤ 8) :
    Calls Try.prog 96 #[.pointer (some ⟨t, 0, none⟩), .int .i64 k] w fun e w' => e = .returned (ans false false 0 0) ∧ w'.heap[t]? = some (.cells (tc.scan t sh.R k).cells 103 (0, 0)) ∧ Kept [t] w w' := by
  unfold Tc.scan
  split
  · rename_i hx
    exact p_on_more tc sh t k w h hS hk hx
  · rename_i hx
    exact p_on_end tc sh t k w h hS hk hx
set_option maxRecDepth 100000 in
set_option maxHeartbeats 1600000 in
theorem p_s9 (tc : Tc) (sh : Sh) (t : Nat) (w : World) (h : w.heap[t]? = some (.cells tc.cells 103 (0, 0))) (hS : w.heap[tc.s]? = some (.cells sh.cells 97 (0, 0)))  :
    Calls Try.prog 87 #[.pointer (some ⟨t, 0, none⟩)] w fun e w' => e = .returned (ans false false 0 0) ∧ w'.heap[t]? = some (.cells (tc.scan t sh.R 0).cells 103 (0, 0)) ∧ w'.heap[tc.s]? = some (.cells { sh with D := fun _ => none, hd := true }.cells 97 (0, 0)) ∧ Kept [t, tc.s] w w' := by
  have hs := lt_of_block h
  have hs2 := lt_of_block hS
  have hne : t ≠ tc.s := ne_of_blocks h hS (by simp)
  have hne' : tc.s ≠ t := Ne.symm hne
  have hnt : t ≠ w.heap.size := Nat.ne_of_lt hs
  have hns : tc.s ≠ w.heap.size := Nat.ne_of_lt hs2
  have hnt' : w.heap.size ≠ t := Ne.symm hnt
  have hns' : w.heap.size ≠ tc.s := Ne.symm hns
  have hc : ∀ o, w.cell? ⟨t, o, none⟩ = tc.cells[o]? := cell_of h
  simp only [Tc.cells] at hc
  have H : Hid _ := h
  have HS : Hid _ := hS
  clear h hS
  go_enter Try.func87, Try.ntmps87
  go_wp2_with fail
  refine Calls.mono (g_setDirty sh tc.s (fun _ => none) true _ (by repeat (first | with_reducible exact HS.out | with_reducible refine blk_drew ?_ | with_reducible refine blk_drewN ?_ _ | with_reducible refine block_set_ne ?_ (by assumption) _ _ | with_reducible refine block_alloc_lt ?_ _))) ?_
  rintro e w9 ⟨rfl, s9, k9⟩
  have t9 : w9.heap[t]? = some (.cells tc.cells 103 (0, 0)) := k9.at (by repeat (first | with_reducible exact H.out | with_reducible refine blk_drew ?_ | with_reducible refine blk_drewN ?_ _ | with_reducible refine block_set_ne ?_ (by assumption) _ _ | with_reducible refine block_alloc_lt ?_ _)) (by simp <;> omega)
  clear hc
  go_wp2_with fail
  refine Calls.mono (p_on tc { sh with D := fun _ => none, hd := true } t 0 _ t9 s9 (by omega)) ?_
  rintro e wz ⟨rfl, hz, kz⟩
  have rz : wz.heap[w.heap.size]? = some (.cells #[.bool false, .bool false, .int .i64 0] 30 (0, 0)) := kz.at (k9.at (by repeat (first | with_reducible exact block_alloc_new _ _ | with_reducible refine blk_drew ?_ | with_reducible refine blk_drewN ?_ _ | with_reducible refine block_set_ne ?_ (by assumption) _ _ | with_reducible exact newBox (by with_reducible first | exact rfl | exact size_setP _ _ _ | exact (size_setP _ _ _).trans (size_setP _ _ _) | exact (size_setP _ _ _).trans ((size_setP _ _ _).trans (size_setP _ _ _))) _ | with_reducible refine block_alloc_lt ?_ _)) (by simp <;> omega)) (by simp <;> omega)
  have sz0 : wz.heap[tc.s]? = some (.cells { sh with D := fun _ => none, hd := true }.cells 97 (0, 0)) := kz.at s9 (by simp <;> omega)
  have KZ : Hid (Kept [t, tc.s] w wz) := Kept.drop (Kept.trans (by repeat (first | with_reducible exact Kept.refl _ _ | with_reducible refine Kept.drew ?_ | with_reducible refine Kept.drewN ?_ _ | with_reducible refine Kept.alloc ?_ _ | with_reducible refine Kept.setAt ?_ (.inl mem0) _ _ | with_reducible refine Kept.setAt ?_ (.inl mem1) _ _ | with_reducible refine Kept.setAt ?_ (.inl mem2) _ _ | with_reducible refine Kept.setAt ?_ (.inr (Nat.le_refl _)) _ _)) (k9.mono (by simp))) kz (by simp)
  have hcz : ∀ o, wz.cell? ⟨w.heap.size, o, none⟩ = #[.bool false, .bool false, .int .i64 0][o]? := cell_of rz
  have hfz : ∀ o, wz.frozen? ⟨w.heap.size, o, none⟩ = false := frozen_of rz
  clear kz
  simp only [ans]
  go_wp2
  refine bodyPost_ret (v := ans false false 0 0) (by simp [results, Try.results87, go_sem, ans, cell_of (resLaidP rz false false 0)]) rfl ⟨rfl, blk_res hz (by omega) _ _ _, blk_res sz0 (by omega) _ _ _, KZ.out.res (Nat.le_refl _) _ _ _⟩
end Go.Proofs.Ytmnkphenobfbfaa
