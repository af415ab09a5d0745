import Derived.Test.YtfgfpggjcfhccaaGreatPj
namespace Go.Proofs.YtfgfpggjcfhccaaGreat
open Go.RowKit
set_option maxRecDepth 100000 in
set_option maxHeartbeats 1600000 in
theorem p_l4 (tc : Tc) (sh : Sh) (t : Nat) (w : World) (h : w.heap[t]? = some (.cells tc.cells 116 (0, 0))) (hS : w.heap[tc.s]? = some (.cells sh.cells 111 (0, 0))) (hk0 : 0 ≤ tc.key) (hk7 : tc.key < 8) :
    Calls Tryz.prog 93 #[.pointer (some ⟨t, 0, none⟩)] w fun e w' => e = .returned (ans false false 0 0) ∧ w'.heap[t]? = some (.cells { tc with e := sh.D tc.key.toNat, nx := .func (.func 99) #[.pointer (some ⟨t, 0, none⟩)] #[] }.cells 116 (0, 0)) ∧ Kept [t] w w' := by
  have hs := lt_of_block h
  have hs2 := lt_of_block hS
  have hne : t ≠ tc.s := ne_of_blocks h hS (by simp)
  have hne' : tc.s ≠ t := Ne.symm hne
  have hnt : t ≠ w.heap.size := Nat.ne_of_lt hs
  have hns : tc.s ≠ w.heap.size := Nat.ne_of_lt hs2
  have hnt' : w.heap.size ≠ t := Ne.symm hnt
  have hns' : w.heap.size ≠ tc.s := Ne.symm hns
  have hc : ∀ o, w.cell? ⟨t, o, none⟩ = tc.cells[o]? := cell_of h
  simp only [Tc.cells] at hc
  have hn := idx_pI sh.D tc.key hk0 hk7
  generalize sh.D tc.key.toNat = e0 at *
  have hf : ∀ o, w.frozen? ⟨t, o, none⟩ = false := frozen_of h
  have hfl := fld105 sh.D sh.hd
  have H : Hid _ := h
  have HS : Hid _ := hS
  clear h hS
  go_enter Tryz.func93, Tryz.ntmps93
  go_wp2_with fail
  go_region_held3 (fun w' => w'.cell? ⟨t, 1, none⟩ = some (Value.pointer (some ⟨tc.s, 0, none⟩)) ∧ w'.cell? ⟨t, 3, none⟩ = some (Value.int IntKind.i64 tc.key)) (first | (refine ⟨?_, ?_⟩ <;> go_simp)) ((go_at_call 46; refine (g_lookDirty sh tc.s _ (by repeat (first | with_reducible exact HS.out | with_reducible refine blk_drew ?_ | with_reducible refine blk_drewN ?_ _ | with_reducible refine block_set_ne ?_ (by assumption) _ _ | with_reducible refine block_alloc_lt ?_ _))).mono ?_; rintro e w' ⟨rfl, rfl⟩; simp only [tabCells]))
  clear hn hfl
  go_wp2_with fail
  clear hc hf
  refine Calls.mono (g_goOn { tc with e := e0 } t (.func 99) #[.pointer (some ⟨t, 0, none⟩)] #[] _ (by repeat (first | with_reducible refine blk_drew ?_ | with_reducible refine blk_drewN ?_ _ | with_reducible refine block_alloc_lt ?_ _ | exact (block_set_same H.out _ _).trans (by simp [Tc.cells])))) ?_
  rintro e wz ⟨rfl, hz, kz⟩
  have rz : wz.heap[w.heap.size]? = some (.cells #[.bool false, .bool false, .int .i64 0] 52 (0, 0)) := kz.at (by repeat (first | with_reducible exact block_alloc_new _ _ | with_reducible refine blk_drew ?_ | with_reducible refine blk_drewN ?_ _ | with_reducible refine block_set_ne ?_ (by assumption) _ _ | with_reducible exact newBox (by with_reducible first | exact rfl | exact size_setP _ _ _ | exact (size_setP _ _ _).trans (size_setP _ _ _) | exact (size_setP _ _ _).trans ((size_setP _ _ _).trans (size_setP _ _ _))) _ | with_reducible refine block_alloc_lt ?_ _)) (by simp <;> omega)
  have KZ : Hid (Kept [t] w wz) := Kept.drop (by repeat (first | with_reducible exact Kept.refl _ _ | with_reducible refine Kept.drew ?_ | with_reducible refine Kept.drewN ?_ _ | with_reducible refine Kept.alloc ?_ _ | with_reducible refine Kept.setAt ?_ (.inl mem0) _ _ | with_reducible refine Kept.setAt ?_ (.inl mem1) _ _ | with_reducible refine Kept.setAt ?_ (.inl mem2) _ _ | with_reducible refine Kept.setAt ?_ (.inr (Nat.le_refl _)) _ _)) kz (by simp)
  have hcz : ∀ o, wz.cell? ⟨w.heap.size, o, none⟩ = #[.bool false, .bool false, .int .i64 0][o]? := cell_of rz
  have hfz : ∀ o, wz.frozen? ⟨w.heap.size, o, none⟩ = false := frozen_of rz
  clear kz
  simp only [ans]
  go_wp2
  refine bodyPost_ret (v := ans false false 0 0) (by simp [results, Tryz.results93, go_sem, ans, cell_of (resLaidP rz false false 0)]) rfl ⟨rfl, blk_res hz (by omega) _ _ _, KZ.out.res (Nat.le_refl _) _ _ _⟩
set_option maxRecDepth 100000 in
set_option maxHeartbeats 1600000 in
theorem p_l6_end (tc : Tc) (sh : Sh) (t : Nat) (w : World) (h : w.heap[t]? = some (.cells tc.cells 116 (0, 0))) (hS : w.heap[tc.s]? = some (.cells sh.cells 111 (0, 0))) (he : tc.e = none) :
    Calls Tryz.prog 92 #[.pointer (some ⟨t, 0, none⟩)] w fun e w' => e = .returned (ans true false 0 0) ∧ w'.heap[t]? = some (.cells tc.idle.cells 116 (0, 0)) ∧ w'.heap[tc.s]? = some (.cells { sh with hol := -1 }.cells 111 (0, 0)) ∧ Kept [t, tc.s] w w' := by
  have hs := lt_of_block h
  have hs2 := lt_of_block hS
  have hne : t ≠ tc.s := ne_of_blocks h hS (by simp)
  have hne' : tc.s ≠ t := Ne.symm hne
  have hnt : t ≠ w.heap.size := Nat.ne_of_lt hs
  have hns : tc.s ≠ w.heap.size := Nat.ne_of_lt hs2
  have hnt' : w.heap.size ≠ t := Ne.symm hnt
  have hns' : w.heap.size ≠ tc.s := Ne.symm hns
  have hc : ∀ o, w.cell? ⟨t, o, none⟩ = tc.cells[o]? := cell_of h
  simp only [Tc.cells] at hc
  have H : Hid _ := h
  have HS : Hid _ := hS
  have HEE : Hid _ := he
  clear h hS he
  go_enter Tryz.func92, Tryz.ntmps92
  go_wp2_with fail
  refine Calls.mono (g_freeLock tc sh t _ (by repeat (first | with_reducible exact H.out | with_reducible refine blk_drew ?_ | with_reducible refine blk_drewN ?_ _ | with_reducible refine block_set_ne ?_ (by assumption) _ _ | with_reducible refine block_alloc_lt ?_ _)) (by repeat (first | with_reducible exact HS.out | with_reducible refine blk_drew ?_ | with_reducible refine blk_drewN ?_ _ | with_reducible refine block_set_ne ?_ (by assumption) _ _ | with_reducible refine block_alloc_lt ?_ _))) ?_
  rintro e w9 ⟨rfl, s9, k9⟩
  have t9 : w9.heap[t]? = some (.cells tc.cells 116 (0, 0)) := k9.at (by repeat (first | with_reducible exact H.out | with_reducible refine blk_drew ?_ | with_reducible refine blk_drewN ?_ _ | with_reducible refine block_set_ne ?_ (by assumption) _ _ | with_reducible refine block_alloc_lt ?_ _)) (by simp <;> omega)
  have c96 : w9.cell? ⟨t, 6, none⟩ = some (.pointer (none)) := (cell_of t9 6).trans (by simp [Tc.cells, HEE.out])
  clear hc
  go_wp2_with fail
  refine Calls.mono (g_doneNothing tc t _ t9) ?_
  rintro e wz ⟨rfl, hz, kz⟩
  have rz : wz.heap[w.heap.size]? = some (.cells #[.bool false, .bool false, .int .i64 0] 52 (0, 0)) := kz.at (k9.at (by repeat (first | with_reducible exact block_alloc_new _ _ | with_reducible refine blk_drew ?_ | with_reducible refine blk_drewN ?_ _ | with_reducible refine block_set_ne ?_ (by assumption) _ _ | with_reducible exact newBox (by with_reducible first | exact rfl | exact size_setP _ _ _ | exact (size_setP _ _ _).trans (size_setP _ _ _) | exact (size_setP _ _ _).trans ((size_setP _ _ _).trans (size_setP _ _ _))) _ | with_reducible refine block_alloc_lt ?_ _)) (by simp <;> omega)) (by simp <;> omega)
  have sz0 : wz.heap[tc.s]? = some (.cells { sh with hol := -1 }.cells 111 (0, 0)) := kz.at s9 (by simp <;> omega)
  have KZ : Hid (Kept [t, tc.s] w wz) := Kept.drop (Kept.trans (by repeat (first | with_reducible exact Kept.refl _ _ | with_reducible refine Kept.drew ?_ | with_reducible refine Kept.drewN ?_ _ | with_reducible refine Kept.alloc ?_ _ | with_reducible refine Kept.setAt ?_ (.inl mem0) _ _ | with_reducible refine Kept.setAt ?_ (.inl mem1) _ _ | with_reducible refine Kept.setAt ?_ (.inl mem2) _ _ | with_reducible refine Kept.setAt ?_ (.inr (Nat.le_refl _)) _ _)) (k9.mono (by simp))) kz (by simp)
  have hcz : ∀ o, wz.cell? ⟨w.heap.size, o, none⟩ = #[.bool false, .bool false, .int .i64 0][o]? := cell_of rz
  have hfz : ∀ o, wz.frozen? ⟨w.heap.size, o, none⟩ = false := frozen_of rz
  clear kz
  simp only [ans]
  go_wp2
  refine bodyPost_ret (v := ans true false 0 0) (by simp [results, Tryz.results92, go_sem, ans, cell_of (resLaidP rz true false 0)]) rfl ⟨rfl, blk_res hz (by omega) _ _ _, blk_res sz0 (by omega) _ _ _, KZ.out.res (Nat.le_refl _) _ _ _⟩
set_option maxRecDepth 100000 in
set_option maxHeartbeats 1600000 in
theorem p_l6_on (tc : Tc) (sh : Sh) (t : Nat) (a : Addr) (w : World) (h : w.heap[t]? = some (.cells tc.cells 116 (0, 0))) (hS : w.heap[tc.s]? = some (.cells sh.cells 111 (0, 0))) (he : tc.e = some a) :
    Calls Tryz.prog 92 #[.pointer (some ⟨t, 0, none⟩)] w fun e w' => e = .returned (ans false false 0 0) ∧ w'.heap[t]? = some (.cells { tc with nx := .func (.func 80) #[.pointer (some ⟨t, 0, none⟩)] #[] }.cells 116 (0, 0)) ∧ w'.heap[tc.s]? = some (.cells { sh with hol := -1 }.cells 111 (0, 0)) ∧ Kept [t, tc.s] w w' := by
  have hs := lt_of_block h
  have hs2 := lt_of_block hS
  have hne : t ≠ tc.s := ne_of_blocks h hS (by simp)
  have hne' : tc.s ≠ t := Ne.symm hne
  have hnt : t ≠ w.heap.size := Nat.ne_of_lt hs
  have hns : tc.s ≠ w.heap.size := Nat.ne_of_lt hs2
  have hnt' : w.heap.size ≠ t := Ne.symm hnt
  have hns' : w.heap.size ≠ tc.s := Ne.symm hns
  have hc : ∀ o, w.cell? ⟨t, o, none⟩ = tc.cells[o]? := cell_of h
  simp only [Tc.cells] at hc
  have H : Hid _ := h
  have HS : Hid _ := hS
  have HEE : Hid _ := he
  clear h hS he
  go_enter Tryz.func92, Tryz.ntmps92
  go_wp2_with fail
  refine Calls.mono (g_freeLock tc sh t _ (by repeat (first | with_reducible exact H.out | with_reducible refine blk_drew ?_ | with_reducible refine blk_drewN ?_ _ | with_reducible refine block_set_ne ?_ (by assumption) _ _ | with_reducible refine block_alloc_lt ?_ _)) (by repeat (first | with_reducible exact HS.out | with_reducible refine blk_drew ?_ | with_reducible refine blk_drewN ?_ _ | with_reducible refine block_set_ne ?_ (by assumption) _ _ | with_reducible refine block_alloc_lt ?_ _))) ?_
  rintro e w9 ⟨rfl, s9, k9⟩
  have t9 : w9.heap[t]? = some (.cells tc.cells 116 (0, 0)) := k9.at (by repeat (first | with_reducible exact H.out | with_reducible refine blk_drew ?_ | with_reducible refine blk_drewN ?_ _ | with_reducible refine block_set_ne ?_ (by assumption) _ _ | with_reducible refine block_alloc_lt ?_ _)) (by simp <;> omega)
  have c96 : w9.cell? ⟨t, 6, none⟩ = some (.pointer (some a)) := (cell_of t9 6).trans (by simp [Tc.cells, HEE.out])
  clear hc
  go_wp2_with fail
  refine Calls.mono (g_goOn tc t (.func 80) #[.pointer (some ⟨t, 0, none⟩)] #[] _ t9) ?_
  rintro e wz ⟨rfl, hz, kz⟩
  have rz : wz.heap[w.heap.size]? = some (.cells #[.bool false, .bool false, .int .i64 0] 52 (0, 0)) := kz.at (k9.at (by repeat (first | with_reducible exact block_alloc_new _ _ | with_reducible refine blk_drew ?_ | with_reducible refine blk_drewN ?_ _ | with_reducible refine block_set_ne ?_ (by assumption) _ _ | with_reducible exact newBox (by with_reducible first | exact rfl | exact size_setP _ _ _ | exact (size_setP _ _ _).trans (size_setP _ _ _) | exact (size_setP _ _ _).trans ((size_setP _ _ _).trans (size_setP _ _ _))) _ | with_reducible refine block_alloc_lt ?_ _)) (by simp <;> omega)) (by simp <;> omega)
  have sz0 : wz.heap[tc.s]? = some (.cells { sh with hol := -1 }.cells 111 (0, 0)) := kz.at s9 (by simp <;> omega)
  have KZ : Hid (Kept [t, tc.s] w wz) := Kept.drop (Kept.trans (by repeat (first | with_reducible exact Kept.refl _ _ | with_reducible refine Kept.drew ?_ | with_reducible refine Kept.drewN ?_ _ | with_reducible refine Kept.alloc ?_ _ | with_reducible refine Kept.setAt ?_ (.inl mem0) _ _ | with_reducible refine Kept.setAt ?_ (.inl mem1) _ _ | with_reducible refine Kept.setAt ?_ (.inl mem2) _ _ | with_reducible refine Kept.setAt ?_ (.inr (Nat.le_refl _)) _ _)) (k9.mono (by simp))) kz (by simp)
  have hcz : ∀ o, wz.cell? ⟨w.heap.size, o, none⟩ = #[.bool false, .bool false, .int .i64 0][o]? := cell_of rz
  have hfz : ∀ o, wz.frozen? ⟨w.heap.size, o, none⟩ = false := frozen_of rz
  clear kz
  simp only [ans]
  go_wp2
  refine bodyPost_ret (v := ans false false 0 0) (by simp [results, Tryz.results92, go_sem, ans, cell_of (resLaidP rz false false 0)]) rfl ⟨rfl, blk_res hz (by omega) _ _ _, blk_res sz0 (by omega) _ _ _, KZ.out.res (Nat.le_refl _) _ _ _⟩
set_option maxRecDepth 100000 in
set_option maxHeartbeats 1600000 in
theorem p_l7_value (tc : Tc) (t : Nat) (g : Nat) (x y : Int) (w : World) (h : w.heap[t]? = some (.cells tc.cells 116 (0, 0))) (hE : w.heap[g]? = some (.cells #[.int .i64 x, .int .i64 y] 141 (0, 0))) (he : tc.e = some ⟨g, 0, none⟩) (hx : x = 0) :
    Calls Tryz.prog 80 #[.pointer (some ⟨t, 0, none⟩)] w fun e w' => e = .returned (ans true true y 0) ∧ w'.heap[t]? = some (.cells tc.idle.cells 116 (0, 0)) ∧ Kept [t] w w' := by
  have hs := lt_of_block h
  have hnt : t ≠ w.heap.size := Nat.ne_of_lt hs
  have hnt' : w.heap.size ≠ t := Ne.symm hnt
  have hc : ∀ o, w.cell? ⟨t, o, none⟩ = tc.cells[o]? := cell_of h
  simp only [Tc.cells] at hc
  have hg := lt_of_block hE
  have hgt : g ≠ t := ne_of_blocks hE h (by simp)
  have hgt' : t ≠ g := Ne.symm hgt
  have hgn : g ≠ w.heap.size := Nat.ne_of_lt hg
  have hgn' : w.heap.size ≠ g := Ne.symm hgn
  simp only [he] at hc
  have H : Hid _ := h
  have HE : Hid _ := hE
  clear h hE he
  subst hx
  go_enter Tryz.func80, Tryz.ntmps80
  go_wp2_with fail
  refine Calls.mono (g_lookC g 0 y _ (by repeat (first | with_reducible exact HE.out | with_reducible refine blk_drew ?_ | with_reducible refine blk_drewN ?_ _ | with_reducible refine block_set_ne ?_ (by assumption) _ _ | with_reducible refine block_alloc_lt ?_ _))) ?_
  rintro e w1 ⟨rfl, rfl⟩
  go_wp2_with fail
  clear hc
  refine Calls.mono (g_doneWith tc t y _ (by repeat (first | with_reducible exact H.out | with_reducible refine blk_drew ?_ | with_reducible refine blk_drewN ?_ _ | with_reducible refine block_set_ne ?_ (by assumption) _ _ | with_reducible refine block_alloc_lt ?_ _))) ?_
  rintro e wz ⟨rfl, hz, kz⟩
  have rz : wz.heap[w.heap.size]? = some (.cells #[.bool false, .bool false, .int .i64 0] 52 (0, 0)) := kz.at (by repeat (first | with_reducible exact block_alloc_new _ _ | with_reducible refine blk_drew ?_ | with_reducible refine blk_drewN ?_ _ | with_reducible refine block_set_ne ?_ (by assumption) _ _ | with_reducible exact newBox (by with_reducible first | exact rfl | exact size_setP _ _ _ | exact (size_setP _ _ _).trans (size_setP _ _ _) | exact (size_setP _ _ _).trans ((size_setP _ _ _).trans (size_setP _ _ _))) _ | with_reducible refine block_alloc_lt ?_ _)) (by simp <;> omega)
  have KZ : Hid (Kept [t] w wz) := Kept.drop (by repeat (first | with_reducible exact Kept.refl _ _ | with_reducible refine Kept.drew ?_ | with_reducible refine Kept.drewN ?_ _ | with_reducible refine Kept.alloc ?_ _ | with_reducible refine Kept.setAt ?_ (.inl mem0) _ _ | with_reducible refine Kept.setAt ?_ (.inl mem1) _ _ | with_reducible refine Kept.setAt ?_ (.inl mem2) _ _ | with_reducible refine Kept.setAt ?_ (.inr (Nat.le_refl _)) _ _)) kz (by simp)
  have hcz : ∀ o, wz.cell? ⟨w.heap.size, o, none⟩ = #[.bool false, .bool false, .int .i64 0][o]? := cell_of rz
  have hfz : ∀ o, wz.frozen? ⟨w.heap.size, o, none⟩ = false := frozen_of rz
  clear kz
  simp only [ans]
  go_wp2
  refine bodyPost_ret (v := ans true true y 0) (by simp [results, Tryz.results80, go_sem, ans, cell_of (resLaidP rz true true y)]) rfl ⟨rfl, blk_res hz (by omega) _ _ _, KZ.out.res (Nat.le_refl _) _ _ _⟩
set_option maxRecDepth 100000 in
set_option maxHeartbeats 1600000 in
theorem p_l7_none (tc : Tc) (t : Nat) (g : Nat) (x y : Int) (w : World) (h : w.heap[t]? = some (.cells tc.cells 116 (0, 0))) (hE : w.heap[g]? = some (.cells #[.int .i64 x, .int .i64 y] 141 (0, 0))) (he : tc.e = some ⟨g, 0, none⟩) (hx : ¬ x = 0) :
    Calls Tryz.prog 80 #[.pointer (some ⟨t, 0, none⟩)] w fun e w' => e = .returned (ans true false 0 0) ∧ w'.heap[t]? = some (.cells tc.idle.cells 116 (0, 0)) ∧ Kept [t] w w' := by
  have hs := lt_of_block h
  have hnt : t ≠ w.heap.size := Nat.ne_of_lt hs
  have hnt' : w.heap.size ≠ t := Ne.symm hnt
  have hc : ∀ o, w.cell? ⟨t, o, none⟩ = tc.cells[o]? := cell_of h
  simp only [Tc.cells] at hc
  have hg := lt_of_block hE
  have hgt : g ≠ t := ne_of_blocks hE h (by simp)
  have hgt' : t ≠ g := Ne.symm hgt
  have hgn : g ≠ w.heap.size := Nat.ne_of_lt hg
  have hgn' : w.heap.size ≠ g := Ne.symm hgn
  simp only [he] at hc
  have H : Hid _ := h
  have HE : Hid _ := hE
  clear h hE he
  go_enter Tryz.func80, Tryz.ntmps80
  go_wp2_with fail
  refine Calls.mono (g_lookC g x y _ (by repeat (first | with_reducible exact HE.out | with_reducible refine blk_drew ?_ | with_reducible refine blk_drewN ?_ _ | with_reducible refine block_set_ne ?_ (by assumption) _ _ | with_reducible refine block_alloc_lt ?_ _))) ?_
  rintro e w1 ⟨rfl, rfl⟩
  go_wp2_with fail
  clear hc
  refine Calls.mono (g_doneNothing tc t _ (by repeat (first | with_reducible exact H.out | with_reducible refine blk_drew ?_ | with_reducible refine blk_drewN ?_ _ | with_reducible refine block_set_ne ?_ (by assumption) _ _ | with_reducible refine block_alloc_lt ?_ _))) ?_
  rintro e wz ⟨rfl, hz, kz⟩
  have rz : wz.heap[w.heap.size]? = some (.cells #[.bool false, .bool false, .int .i64 0] 52 (0, 0)) := kz.at (by repeat (first | with_reducible exact block_alloc_new _ _ | with_reducible refine blk_drew ?_ | with_reducible refine blk_drewN ?_ _ | with_reducible refine block_set_ne ?_ (by assumption) _ _ | with_reducible exact newBox (by with_reducible first | exact rfl | exact size_setP _ _ _ | exact (size_setP _ _ _).trans (size_setP _ _ _) | exact (size_setP _ _ _).trans ((size_setP _ _ _).trans (size_setP _ _ _))) _ | with_reducible refine block_alloc_lt ?_ _)) (by simp <;> omega)
  have KZ : Hid (Kept [t] w wz) := Kept.drop (by repeat (first | with_reducible exact Kept.refl _ _ | with_reducible refine Kept.drew ?_ | with_reducible refine Kept.drewN ?_ _ | with_reducible refine Kept.alloc ?_ _ | with_reducible refine Kept.setAt ?_ (.inl mem0) _ _ | with_reducible refine Kept.setAt ?_ (.inl mem1) _ _ | with_reducible refine Kept.setAt ?_ (.inl mem2) _ _ | with_reducible refine Kept.setAt ?_ (.inr (Nat.le_refl _)) _ _)) kz (by simp)
  have hcz : ∀ o, wz.cell? ⟨w.heap.size, o, none⟩ = #[.bool false, .bool false, .int .i64 0][o]? := cell_of rz
  have hfz : ∀ o, wz.frozen? ⟨w.heap.size, o, none⟩ = false := frozen_of rz
  clear kz
  simp only [ans]
  go_wp2
  refine bodyPost_ret (v := ans true false 0 0) (by simp [results, Tryz.results80, go_sem, ans, cell_of (resLaidP rz true false 0)]) rfl ⟨rfl, blk_res hz (by omega) _ _ _, KZ.out.res (Nat.le_refl _) _ _ _⟩
set_option maxRecDepth 100000 in
set_option maxHeartbeats 1600000 in
theorem p_l52 (tc : Tc) (sh : Sh) (t : Nat) (w : World) (h : w.heap[t]? = some (.cells tc.cells 116 (0, 0))) (hS : w.heap[tc.s]? = some (.cells sh.cells 111 (0, 0)))  :
    Calls Tryz.prog 112 #[.pointer (some ⟨t, 0, none⟩)] w fun e w' => e = .returned (ans false false 0 0) ∧ w'.heap[t]? = some (.cells { tc with nx := .func (.func 116) #[.pointer (some ⟨t, 0, none⟩)] #[] }.cells 116 (0, 0)) ∧ w'.heap[tc.s]? = some (.cells { sh with D := fun _ => none, hd := false }.cells 111 (0, 0)) ∧ Kept [t, tc.s] w w' := by
  have hs := lt_of_block h
  have hs2 := lt_of_block hS
  have hne : t ≠ tc.s := ne_of_blocks h hS (by simp)
  have hne' : tc.s ≠ t := Ne.symm hne
  have hnt : t ≠ w.heap.size := Nat.ne_of_lt hs
  have hns : tc.s ≠ w.heap.size := Nat.ne_of_lt hs2
  have hnt' : w.heap.size ≠ t := Ne.symm hnt
  have hns' : w.heap.size ≠ tc.s := Ne.symm hns
  have hc : ∀ o, w.cell? ⟨t, o, none⟩ = tc.cells[o]? := cell_of h
  simp only [Tc.cells] at hc
  have H : Hid _ := h
  have HS : Hid _ := hS
  clear h hS
  go_enter Tryz.func112, Tryz.ntmps112
  go_wp2_with fail
  refine Calls.mono (g_setDirty sh tc.s (fun _ => none) false _ (by repeat (first | with_reducible exact HS.out | with_reducible refine blk_drew ?_ | with_reducible refine blk_drewN ?_ _ | with_reducible refine block_set_ne ?_ (by assumption) _ _ | with_reducible refine block_alloc_lt ?_ _))) ?_
  rintro e w9 ⟨rfl, s9, k9⟩
  have t9 : w9.heap[t]? = some (.cells tc.cells 116 (0, 0)) := k9.at (by repeat (first | with_reducible exact H.out | with_reducible refine blk_drew ?_ | with_reducible refine blk_drewN ?_ _ | with_reducible refine block_set_ne ?_ (by assumption) _ _ | with_reducible refine block_alloc_lt ?_ _)) (by simp <;> omega)
  clear hc
  go_wp2_with fail
  refine Calls.mono (g_goOn tc t (.func 116) #[.pointer (some ⟨t, 0, none⟩)] #[] _ t9) ?_
  rintro e wz ⟨rfl, hz, kz⟩
  have rz : wz.heap[w.heap.size]? = some (.cells #[.bool false, .bool false, .int .i64 0] 52 (0, 0)) := kz.at (k9.at (by repeat (first | with_reducible exact block_alloc_new _ _ | with_reducible refine blk_drew ?_ | with_reducible refine blk_drewN ?_ _ | with_reducible refine block_set_ne ?_ (by assumption) _ _ | with_reducible exact newBox (by with_reducible first | exact rfl | exact size_setP _ _ _ | exact (size_setP _ _ _).trans (size_setP _ _ _) | exact (size_setP _ _ _).trans ((size_setP _ _ _).trans (size_setP _ _ _))) _ | with_reducible refine block_alloc_lt ?_ _)) (by simp <;> omega)) (by simp <;> omega)
  have sz0 : wz.heap[tc.s]? = some (.cells { sh with D := fun _ => none, hd := false }.cells 111 (0, 0)) := kz.at s9 (by simp <;> omega)
  have KZ : Hid (Kept [t, tc.s] w wz) := Kept.drop (Kept.trans (by repeat (first | with_reducible exact Kept.refl _ _ | with_reducible refine Kept.drew ?_ | with_reducible refine Kept.drewN ?_ _ | with_reducible refine Kept.alloc ?_ _ | with_reducible refine Kept.setAt ?_ (.inl mem0) _ _ | with_reducible refine Kept.setAt ?_ (.inl mem1) _ _ | with_reducible refine Kept.setAt ?_ (.inl mem2) _ _ | with_reducible refine Kept.setAt ?_ (.inr (Nat.le_refl _)) _ _)) (k9.mono (by simp))) kz (by simp)
  have hcz : ∀ o, wz.cell? ⟨w.heap.size, o, none⟩ = #[.bool false, .bool false, .int .i64 0][o]? := cell_of rz
  have hfz : ∀ o, wz.frozen? ⟨w.heap.size, o, none⟩ = false := frozen_of rz
  clear kz
  simp only [ans]
  go_wp2
  refine bodyPost_ret (v := ans false false 0 0) (by simp [results, Tryz.results112, go_sem, ans, cell_of (resLaidP rz false false 0)]) rfl ⟨rfl, blk_res hz (by omega) _ _ _, blk_res sz0 (by omega) _ _ _, KZ.out.res (Nat.le_refl _) _ _ _⟩
set_option maxRecDepth 100000 in
set_option maxHeartbeats 1600000 in
theorem p_l53 (tc : Tc) (sh : Sh) (t : Nat) (w : World) (h : w.heap[t]? = some (.cells tc.cells 116 (0, 0))) (hS : w.heap[tc.s]? = some (.cells sh.cells 111 (0, 0)))  :
    Calls Tryz.prog 116 #[.pointer (some ⟨t, 0, none⟩)] w fun e w' => e = .returned (ans false false 0 0) ∧ w'.heap[t]? = some (.cells { tc with nx := .func (.func 92) #[.pointer (some ⟨t, 0, none⟩)] #[] }.cells 116 (0, 0)) ∧ w'.heap[tc.s]? = some (.cells { sh with mis := 0 }.cells 111 (0, 0)) ∧ Kept [t, tc.s] w w' := by
  have hs := lt_of_block h
  have hs2 := lt_of_block hS
  have hne : t ≠ tc.s := ne_of_blocks h hS (by simp)
  have hne' : tc.s ≠ t := Ne.symm hne
  have hnt : t ≠ w.heap.size := Nat.ne_of_lt hs
  have hns : tc.s ≠ w.heap.size := Nat.ne_of_lt hs2
  have hnt' : w.heap.size ≠ t := Ne.symm hnt
  have hns' : w.heap.size ≠ tc.s := Ne.symm hns
  have hc : ∀ o, w.cell? ⟨t, o, none⟩ = tc.cells[o]? := cell_of h
  simp only [Tc.cells] at hc
  have H : Hid _ := h
  have HS : Hid _ := hS
  clear h hS
  go_enter Tryz.func116, Tryz.ntmps116
  go_wp2_with fail
  refine Calls.mono (g_setInt tc.s 18 sh.mis 0 _ (cell_of (block_alloc_lt HS.out _) 18) (frozen_of (block_alloc_lt HS.out _) 18)) ?_
  rintro e w9 ⟨rfl, rfl⟩
  clear hc
  go_wp2_with fail
  refine Calls.mono (g_goOn tc t (.func 92) #[.pointer (some ⟨t, 0, none⟩)] #[] _ (by repeat (first | with_reducible exact H.out | with_reducible refine blk_drew ?_ | with_reducible refine blk_drewN ?_ _ | with_reducible refine block_set_ne ?_ (by assumption) _ _ | with_reducible refine block_alloc_lt ?_ _))) ?_
  rintro e wz ⟨rfl, hz, kz⟩
  have rz : wz.heap[w.heap.size]? = some (.cells #[.bool false, .bool false, .int .i64 0] 52 (0, 0)) := kz.at (by repeat (first | with_reducible exact block_alloc_new _ _ | with_reducible refine blk_drew ?_ | with_reducible refine blk_drewN ?_ _ | with_reducible refine block_set_ne ?_ (by assumption) _ _ | with_reducible exact newBox (by with_reducible first | exact rfl | exact size_setP _ _ _ | exact (size_setP _ _ _).trans (size_setP _ _ _) | exact (size_setP _ _ _).trans ((size_setP _ _ _).trans (size_setP _ _ _))) _ | with_reducible refine block_alloc_lt ?_ _)) (by simp <;> omega)
  have sz0 : wz.heap[tc.s]? = some (.cells { sh with mis := 0 }.cells 111 (0, 0)) := kz.at (by repeat (first | with_reducible refine blk_drew ?_ | with_reducible refine blk_drewN ?_ _ | with_reducible refine block_alloc_lt ?_ _ | exact (block_set_same HS.out _ _).trans (by simp [Sh.cells]))) (by simp <;> omega)
  have KZ : Hid (Kept [t, tc.s] w wz) := Kept.drop (by repeat (first | with_reducible exact Kept.refl _ _ | with_reducible refine Kept.drew ?_ | with_reducible refine Kept.drewN ?_ _ | with_reducible refine Kept.alloc ?_ _ | with_reducible refine Kept.setAt ?_ (.inl mem0) _ _ | with_reducible refine Kept.setAt ?_ (.inl mem1) _ _ | with_reducible refine Kept.setAt ?_ (.inl mem2) _ _ | with_reducible refine Kept.setAt ?_ (.inr (Nat.le_refl _)) _ _)) kz (by simp)
  have hcz : ∀ o, wz.cell? ⟨w.heap.size, o, none⟩ = #[.bool false, .bool false, .int .i64 0][o]? := cell_of rz
  have hfz : ∀ o, wz.frozen? ⟨w.heap.size, o, none⟩ = false := frozen_of rz
  clear kz
  simp only [ans]
  go_wp2
  refine bodyPost_ret (v := ans false false 0 0) (by simp [results, Tryz.results116, go_sem, ans, cell_of (resLaidP rz false false 0)]) rfl ⟨rfl, blk_res hz (by omega) _ _ _, blk_res sz0 (by omega) _ _ _, KZ.out.res (Nat.le_refl _) _ _ _⟩
end Go.Proofs.YtfgfpggjcfhccaaGreat
