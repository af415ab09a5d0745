import Derived.Test.YtfgfpggjcfhccaaGreatPk
namespace Go.Proofs.YtfgfpggjcfhccaaGreat
open Go.RowKit
theorem g_lookDirtyk (sh : Sh) (s : Nat) (w : World) (h : w.heap[s]? = some (.cells sh.cells 111 (0, 0))) :
    Calls Tryz.prog 46 #[.pointer (some ⟨s, 9, none⟩)] w fun e w' => e = .returned (.agg (tabCells sh.D sh.hd)) ∧ Kept [] w w' := by
  refine (g_lookDirty sh s w h).mono ?_
  rintro e w' ⟨rfl, rfl⟩
  exact ⟨rfl, (Kept.refl [] w).alloc _⟩
set_option maxRecDepth 100000 in
set_option maxHeartbeats 1600000 in
theorem p_l5_few (tc : Tc) (sh : Sh) (t : Nat) (w : World) (h : w.heap[t]? = some (.cells tc.cells 116 (0, 0))) (hS : w.heap[tc.s]? = some (.cells sh.cells 111 (0, 0))) (hm0 : 0 ≤ sh.mis) (hm1 : sh.mis < 1000000) (hx : sh.mis + 1 < (cntP sh.D 8 : Int)) :
    Calls Tryz.prog 99 #[.pointer (some ⟨t, 0, none⟩)] w fun e w' => e = .returned (ans false false 0 0) ∧ w'.heap[t]? = some (.cells { tc with nx := .func (.func 92) #[.pointer (some ⟨t, 0, none⟩)] #[] }.cells 116 (0, 0)) ∧ w'.heap[tc.s]? = some (.cells { sh with mis := sh.mis + 1 }.cells 111 (0, 0)) ∧ Kept [t, tc.s] w w' := by
  have hs := lt_of_block h
  have hs2 := lt_of_block hS
  have hne : t ≠ tc.s := ne_of_blocks h hS (by simp)
  have hne' : tc.s ≠ t := Ne.symm hne
  have hnt : t ≠ w.heap.size := Nat.ne_of_lt hs
  have hns : tc.s ≠ w.heap.size := Nat.ne_of_lt hs2
  have hnt' : w.heap.size ≠ t := Ne.symm hnt
  have hns' : w.heap.size ≠ tc.s := Ne.symm hns
  have hc : ∀ o, w.cell? ⟨t, o, none⟩ = tc.cells[o]? := cell_of h
  simp only [Tc.cells] at hc
  have hfl := fld105 sh.D sh.hd
  have hle := cntP_le sh.D 8
  have H : Hid _ := h
  have HS : Hid _ := hS
  clear h hS
  go_enter Tryz.func99, Tryz.ntmps99
  go_wp2_with fail
  refine Calls.mono (g_lookInt tc.s 18 sh.mis _ (cell_of (block_alloc_lt HS.out _) 18)) ?_
  rintro e w1 ⟨rfl, rfl⟩
  go_wp2_with fail
  refine Calls.mono (g_setInt tc.s 18 sh.mis (sh.mis + 1) _ (cell_of (block_alloc_lt HS.out _) 18) (frozen_of (block_alloc_lt HS.out _) 18)) ?_
  rintro e w1 ⟨rfl, rfl⟩
  go_wp2_with fail
  refine Calls.mono (g_lookDirtyk { sh with mis := sh.mis + 1 } tc.s _ (by repeat (first | with_reducible refine block_alloc_lt ?_ _ | exact (block_set_same HS.out _ _).trans (by simp [Sh.cells]) | exact (block_set_same (block_alloc_lt HS.out _) _ _).trans (by simp [Sh.cells])))) ?_
  rintro e w2 ⟨rfl, k2⟩
  have t2 : w2.heap[t]? = some (.cells tc.cells 116 (0, 0)) := k2.at (by repeat (first | with_reducible exact H.out | with_reducible refine blk_drew ?_ | with_reducible refine blk_drewN ?_ _ | with_reducible refine block_set_ne ?_ (by assumption) _ _ | with_reducible refine block_alloc_lt ?_ _)) (by simp)
  have r2 : w2.heap[w.heap.size]? = some (.cells #[.bool false, .bool false, .int .i64 0] 52 (0, 0)) := k2.at (by repeat (first | with_reducible exact block_alloc_new _ _ | with_reducible refine blk_drew ?_ | with_reducible refine blk_drewN ?_ _ | with_reducible refine block_set_ne ?_ (by assumption) _ _ | with_reducible exact newBox (by with_reducible first | exact rfl | exact size_setP _ _ _ | exact (size_setP _ _ _).trans (size_setP _ _ _) | exact (size_setP _ _ _).trans ((size_setP _ _ _).trans (size_setP _ _ _))) _ | with_reducible refine block_alloc_lt ?_ _)) (by simp)
  have s2 : w2.heap[tc.s]? = some (.cells { sh with mis := sh.mis + 1 }.cells 111 (0, 0)) := k2.at (by repeat (first | with_reducible refine block_alloc_lt ?_ _ | exact (block_set_same HS.out _ _).trans (by simp [Sh.cells]) | exact (block_set_same (block_alloc_lt HS.out _) _ _).trans (by simp [Sh.cells]))) (by simp)
  have kk2 : Hid (Kept [t, tc.s] w w2) := Kept.trans (by repeat (first | with_reducible exact Kept.refl _ _ | with_reducible refine Kept.drew ?_ | with_reducible refine Kept.drewN ?_ _ | with_reducible refine Kept.alloc ?_ _ | with_reducible refine Kept.setAt ?_ (.inl mem0) _ _ | with_reducible refine Kept.setAt ?_ (.inl mem1) _ _ | with_reducible refine Kept.setAt ?_ (.inl mem2) _ _ | with_reducible refine Kept.setAt ?_ (.inr (Nat.le_refl _)) _ _)) (k2.mono (by simp))
  clear hc k2
  simp only [tabCells]
  go_wp2_with fail
  refine Calls.mono (g_count sh.D _) ?_
  rintro e w9 ⟨rfl, k9⟩
  have t9 := k9.at t2 (by simp)
  have r9 := k9.at r2 (by simp)
  have s9 := k9.at s2 (by simp)
  have kk9 : Hid (Kept [t, tc.s] w w9) := kk2.out.trans (k9.mono (by simp))
  clear k9 t2 r2 s2
  go_wp2_with fail
  refine Calls.mono (g_goOn tc t (.func 92) #[.pointer (some ⟨t, 0, none⟩)] #[] _ t9) ?_
  rintro e wz ⟨rfl, hz, kz⟩
  have rz : wz.heap[w.heap.size]? = some (.cells #[.bool false, .bool false, .int .i64 0] 52 (0, 0)) := kz.at r9 (by simp <;> omega)
  have sz0 : wz.heap[tc.s]? = some (.cells { sh with mis := sh.mis + 1 }.cells 111 (0, 0)) := kz.at s9 (by simp <;> omega)
  have KZ : Hid (Kept [t, tc.s] w wz) := Kept.drop kk9.out kz (by simp)
  have hcz : ∀ o, wz.cell? ⟨w.heap.size, o, none⟩ = #[.bool false, .bool false, .int .i64 0][o]? := cell_of rz
  have hfz : ∀ o, wz.frozen? ⟨w.heap.size, o, none⟩ = false := frozen_of rz
  clear kz
  simp only [ans]
  go_wp2
  refine bodyPost_ret (v := ans false false 0 0) (by simp [results, Tryz.results99, go_sem, ans, cell_of (resLaidP rz false false 0)]) rfl ⟨rfl, blk_res hz (by omega) _ _ _, blk_res sz0 (by omega) _ _ _, KZ.out.res (Nat.le_refl _) _ _ _⟩
set_option maxRecDepth 100000 in
set_option maxHeartbeats 1600000 in
theorem p_l5_all (tc : Tc) (sh : Sh) (t : Nat) (w : World) (h : w.heap[t]? = some (.cells tc.cells 116 (0, 0))) (hS : w.heap[tc.s]? = some (.cells sh.cells 111 (0, 0))) (hm0 : 0 ≤ sh.mis) (hm1 : sh.mis < 1000000) (hx : ¬ sh.mis + 1 < (cntP sh.D 8 : Int)) :
    Calls Tryz.prog 99 #[.pointer (some ⟨t, 0, none⟩)] w fun e w' => e = .returned (ans false false 0 0) ∧ w'.heap[t]? = some (.cells { tc with nx := .func (.func 104) #[.pointer (some ⟨t, 0, none⟩)] #[] }.cells 116 (0, 0)) ∧ w'.heap[tc.s]? = some (.cells { sh with mis := sh.mis + 1 }.cells 111 (0, 0)) ∧ Kept [t, tc.s] w w' := by
  have hs := lt_of_block h
  have hs2 := lt_of_block hS
  have hne : t ≠ tc.s := ne_of_blocks h hS (by simp)
  have hne' : tc.s ≠ t := Ne.symm hne
  have hnt : t ≠ w.heap.size := Nat.ne_of_lt hs
  have hns : tc.s ≠ w.heap.size := Nat.ne_of_lt hs2
  have hnt' : w.heap.size ≠ t := Ne.symm hnt
  have hns' : w.heap.size ≠ tc.s := Ne.symm hns
  have hc : ∀ o, w.cell? ⟨t, o, none⟩ = tc.cells[o]? := cell_of h
  simp only [Tc.cells] at hc
  have hfl := fld105 sh.D sh.hd
  have hle := cntP_le sh.D 8
  have H : Hid _ := h
  have HS : Hid _ := hS
  clear h hS
  go_enter Tryz.func99, Tryz.ntmps99
  go_wp2_with fail
  refine Calls.mono (g_lookInt tc.s 18 sh.mis _ (cell_of (block_alloc_lt HS.out _) 18)) ?_
  rintro e w1 ⟨rfl, rfl⟩
  go_wp2_with fail
  refine Calls.mono (g_setInt tc.s 18 sh.mis (sh.mis + 1) _ (cell_of (block_alloc_lt HS.out _) 18) (frozen_of (block_alloc_lt HS.out _) 18)) ?_
  rintro e w1 ⟨rfl, rfl⟩
  go_wp2_with fail
  refine Calls.mono (g_lookDirtyk { sh with mis := sh.mis + 1 } tc.s _ (by repeat (first | with_reducible refine block_alloc_lt ?_ _ | exact (block_set_same HS.out _ _).trans (by simp [Sh.cells]) | exact (block_set_same (block_alloc_lt HS.out _) _ _).trans (by simp [Sh.cells])))) ?_
  rintro e w2 ⟨rfl, k2⟩
  have t2 : w2.heap[t]? = some (.cells tc.cells 116 (0, 0)) := k2.at (by repeat (first | with_reducible exact H.out | with_reducible refine blk_drew ?_ | with_reducible refine blk_drewN ?_ _ | with_reducible refine block_set_ne ?_ (by assumption) _ _ | with_reducible refine block_alloc_lt ?_ _)) (by simp)
  have r2 : w2.heap[w.heap.size]? = some (.cells #[.bool false, .bool false, .int .i64 0] 52 (0, 0)) := k2.at (by repeat (first | with_reducible exact block_alloc_new _ _ | with_reducible refine blk_drew ?_ | with_reducible refine blk_drewN ?_ _ | with_reducible refine block_set_ne ?_ (by assumption) _ _ | with_reducible exact newBox (by with_reducible first | exact rfl | exact size_setP _ _ _ | exact (size_setP _ _ _).trans (size_setP _ _ _) | exact (size_setP _ _ _).trans ((size_setP _ _ _).trans (size_setP _ _ _))) _ | with_reducible refine block_alloc_lt ?_ _)) (by simp)
  have s2 : w2.heap[tc.s]? = some (.cells { sh with mis := sh.mis + 1 }.cells 111 (0, 0)) := k2.at (by repeat (first | with_reducible refine block_alloc_lt ?_ _ | exact (block_set_same HS.out _ _).trans (by simp [Sh.cells]) | exact (block_set_same (block_alloc_lt HS.out _) _ _).trans (by simp [Sh.cells]))) (by simp)
  have kk2 : Hid (Kept [t, tc.s] w w2) := Kept.trans (by repeat (first | with_reducible exact Kept.refl _ _ | with_reducible refine Kept.drew ?_ | with_reducible refine Kept.drewN ?_ _ | with_reducible refine Kept.alloc ?_ _ | with_reducible refine Kept.setAt ?_ (.inl mem0) _ _ | with_reducible refine Kept.setAt ?_ (.inl mem1) _ _ | with_reducible refine Kept.setAt ?_ (.inl mem2) _ _ | with_reducible refine Kept.setAt ?_ (.inr (Nat.le_refl _)) _ _)) (k2.mono (by simp))
  clear hc k2
  simp only [tabCells]
  go_wp2_with fail
  refine Calls.mono (g_count sh.D _) ?_
  rintro e w9 ⟨rfl, k9⟩
  have t9 := k9.at t2 (by simp)
  have r9 := k9.at r2 (by simp)
  have s9 := k9.at s2 (by simp)
  have kk9 : Hid (Kept [t, tc.s] w w9) := kk2.out.trans (k9.mono (by simp))
  clear k9 t2 r2 s2
  go_wp2_with fail
  refine Calls.mono (g_goOn tc t (.func 104) #[.pointer (some ⟨t, 0, none⟩)] #[] _ t9) ?_
  rintro e wz ⟨rfl, hz, kz⟩
  have rz : wz.heap[w.heap.size]? = some (.cells #[.bool false, .bool false, .int .i64 0] 52 (0, 0)) := kz.at r9 (by simp <;> omega)
  have sz0 : wz.heap[tc.s]? = some (.cells { sh with mis := sh.mis + 1 }.cells 111 (0, 0)) := kz.at s9 (by simp <;> omega)
  have KZ : Hid (Kept [t, tc.s] w wz) := Kept.drop kk9.out kz (by simp)
  have hcz : ∀ o, wz.cell? ⟨w.heap.size, o, none⟩ = #[.bool false, .bool false, .int .i64 0][o]? := cell_of rz
  have hfz : ∀ o, wz.frozen? ⟨w.heap.size, o, none⟩ = false := frozen_of rz
  clear kz
  simp only [ans]
  go_wp2
  refine bodyPost_ret (v := ans false false 0 0) (by simp [results, Tryz.results99, go_sem, ans, cell_of (resLaidP rz false false 0)]) rfl ⟨rfl, blk_res hz (by omega) _ _ _, blk_res sz0 (by omega) _ _ _, KZ.out.res (Nat.le_refl _) _ _ _⟩
set_option maxRecDepth 100000 in
set_option maxHeartbeats 1600000 in
theorem p_l51 (tc : Tc) (sh : Sh) (t : Nat) (w : World) (h : w.heap[t]? = some (.cells tc.cells 116 (0, 0))) (hS : w.heap[tc.s]? = some (.cells sh.cells 111 (0, 0)))  :
    Calls Tryz.prog 104 #[.pointer (some ⟨t, 0, none⟩)] w fun e w' => e = .returned (ans false false 0 0) ∧ w'.heap[t]? = some (.cells { tc with nx := .func (.func 112) #[.pointer (some ⟨t, 0, none⟩)] #[] }.cells 116 (0, 0)) ∧ w'.heap[tc.s]? = some (.cells { sh with R := sh.D, am := false }.cells 111 (0, 0)) ∧ Kept [t, tc.s] w w' := by
  have hs := lt_of_block h
  have hs2 := lt_of_block hS
  have hne : t ≠ tc.s := ne_of_blocks h hS (by simp)
  have hne' : tc.s ≠ t := Ne.symm hne
  have hnt : t ≠ w.heap.size := Nat.ne_of_lt hs
  have hns : tc.s ≠ w.heap.size := Nat.ne_of_lt hs2
  have hnt' : w.heap.size ≠ t := Ne.symm hnt
  have hns' : w.heap.size ≠ tc.s := Ne.symm hns
  have hc : ∀ o, w.cell? ⟨t, o, none⟩ = tc.cells[o]? := cell_of h
  simp only [Tc.cells] at hc
  have hfl := fld105 sh.D sh.hd
  have H : Hid _ := h
  have HS : Hid _ := hS
  clear h hS
  go_enter Tryz.func104, Tryz.ntmps104
  go_wp2_with fail
  go_region_held3 (fun w' => w'.cell? ⟨t, 1, none⟩ = some (Value.pointer (some ⟨tc.s, 0, none⟩))) (first | exact c91 | (go_simp)) (first | (go_at_call 46; refine (g_lookDirty sh tc.s _ (by repeat (first | with_reducible exact HS.out | with_reducible refine blk_drew ?_ | with_reducible refine blk_drewN ?_ _ | with_reducible refine block_set_ne ?_ (by assumption) _ _ | with_reducible refine block_alloc_lt ?_ _))).mono ?_; rintro e w' ⟨rfl, rfl⟩; simp only [tabCells]) | (go_at_call 111; refine Calls.mono (g_setRead sh tc.s sh.D false _ (by repeat (first | with_reducible exact HS.out | with_reducible refine blk_drew ?_ | with_reducible refine blk_drewN ?_ _ | with_reducible refine block_set_ne ?_ (by assumption) _ _ | with_reducible refine block_alloc_lt ?_ _))) ?_; rintro e w9 ⟨rfl, s9, k9⟩; have t9 : w9.heap[t]? = some (.cells tc.cells 116 (0, 0)) := k9.at (by repeat (first | with_reducible exact H.out | with_reducible refine blk_drew ?_ | with_reducible refine blk_drewN ?_ _ | with_reducible refine block_set_ne ?_ (by assumption) _ _ | with_reducible refine block_alloc_lt ?_ _)) (by simp <;> omega); have c91 : w9.cell? ⟨t, 1, none⟩ = some (Value.pointer (some ⟨tc.s, 0, none⟩)) := cell_of t9 1))
  clear hc
  go_wp2_with fail
  refine Calls.mono (g_goOn tc t (.func 112) #[.pointer (some ⟨t, 0, none⟩)] #[] _ t9) ?_
  rintro e wz ⟨rfl, hz, kz⟩
  have rz : wz.heap[w.heap.size]? = some (.cells #[.bool false, .bool false, .int .i64 0] 52 (0, 0)) := kz.at (k9.at (by repeat (first | with_reducible exact block_alloc_new _ _ | with_reducible refine blk_drew ?_ | with_reducible refine blk_drewN ?_ _ | with_reducible refine block_set_ne ?_ (by assumption) _ _ | with_reducible exact newBox (by with_reducible first | exact rfl | exact size_setP _ _ _ | exact (size_setP _ _ _).trans (size_setP _ _ _) | exact (size_setP _ _ _).trans ((size_setP _ _ _).trans (size_setP _ _ _))) _ | with_reducible refine block_alloc_lt ?_ _)) (by simp <;> omega)) (by simp <;> omega)
  have sz0 : wz.heap[tc.s]? = some (.cells { sh with R := sh.D, am := false }.cells 111 (0, 0)) := kz.at s9 (by simp <;> omega)
  have KZ : Hid (Kept [t, tc.s] w wz) := Kept.drop (Kept.trans (by repeat (first | with_reducible exact Kept.refl _ _ | with_reducible refine Kept.drew ?_ | with_reducible refine Kept.drewN ?_ _ | with_reducible refine Kept.alloc ?_ _ | with_reducible refine Kept.setAt ?_ (.inl mem0) _ _ | with_reducible refine Kept.setAt ?_ (.inl mem1) _ _ | with_reducible refine Kept.setAt ?_ (.inl mem2) _ _ | with_reducible refine Kept.setAt ?_ (.inr (Nat.le_refl _)) _ _)) (k9.mono (by simp))) kz (by simp)
  have hcz : ∀ o, wz.cell? ⟨w.heap.size, o, none⟩ = #[.bool false, .bool false, .int .i64 0][o]? := cell_of rz
  have hfz : ∀ o, wz.frozen? ⟨w.heap.size, o, none⟩ = false := frozen_of rz
  clear kz
  simp only [ans]
  go_wp2
  refine bodyPost_ret (v := ans false false 0 0) (by simp [results, Tryz.results104, go_sem, ans, cell_of (resLaidP rz false false 0)]) rfl ⟨rfl, blk_res hz (by omega) _ _ _, blk_res sz0 (by omega) _ _ _, KZ.out.res (Nat.le_refl _) _ _ _⟩
end Go.Proofs.YtfgfpggjcfhccaaGreat
