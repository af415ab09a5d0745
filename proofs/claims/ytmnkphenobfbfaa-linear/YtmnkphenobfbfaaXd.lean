import Derived.Test.YtmnkphenobfbfaaXc
namespace Go.Proofs.Ytmnkphenobfbfaa
open Go.RowKit
theorem fld113 (x y : Int) (w : World) : Sem.run Try.prog (Instr.field 100 (Value.agg #[Value.int .i64 x, .int .i64 y]) 0) w = .ok (.int .i64 x) w := by kernel_rfl
theorem g_lookCk (g : Nat) (x y : Int) (w : World) (h : w.heap[g]? = some (.cells #[.int .i64 x, .int .i64 y] 124 (0, 0))) :
    Calls Try.prog 53 #[.pointer (some ⟨g, 0, none⟩)] w fun e w' => e = .returned (.agg #[.int .i64 x, .int .i64 y]) ∧ Kept [] w w' := by
  refine (g_lookC g x y w h).mono ?_
  rintro e w' ⟨rfl, rfl⟩
  exact ⟨rfl, (Kept.refl [] w).alloc _⟩
set_option maxRecDepth 100000 in
set_option maxHeartbeats 1600000 in
theorem p_s10_value (tc : Tc) (sh : Sh) (t : Nat) (g : Nat) (x y : Int) (w : World) (h : w.heap[t]? = some (.cells tc.cells 103 (0, 0))) (hS : w.heap[tc.s]? = some (.cells sh.cells 97 (0, 0))) (hE : w.heap[g]? = some (.cells #[.int .i64 x, .int .i64 y] 124 (0, 0))) (hk0 : 0 ≤ tc.cp) (hk7 : tc.cp < 8) (hR : sh.R tc.cp.toNat = some ⟨g, 0, none⟩) (hx : x = 0) :
    Calls Try.prog 101 #[.pointer (some ⟨t, 0, none⟩)] w fun e w' => e = .returned (ans false false 0 0) ∧ w'.heap[t]? = some (.cells (tc.scan t sh.R (tc.cp.toNat + 1)).cells 103 (0, 0)) ∧ w'.heap[tc.s]? = some (.cells { sh with D := fun j => if j = tc.cp.toNat then some ⟨g, 0, none⟩ else sh.D j }.cells 97 (0, 0)) ∧ Kept [t, tc.s] w w' := by
  have hs := lt_of_block h
  have hs2 := lt_of_block hS
  have hne : t ≠ tc.s := ne_of_blocks h hS (by simp)
  have hne' : tc.s ≠ t := Ne.symm hne
  have hnt : t ≠ w.heap.size := Nat.ne_of_lt hs
  have hns : tc.s ≠ w.heap.size := Nat.ne_of_lt hs2
  have hnt' : w.heap.size ≠ t := Ne.symm hnt
  have hns' : w.heap.size ≠ tc.s := Ne.symm hns
  have hc : ∀ o, w.cell? ⟨t, o, none⟩ = tc.cells[o]? := cell_of h
  simp only [Tc.cells] at hc
  have hg := lt_of_block hE
  have hgt : g ≠ t := ne_of_blocks hE h (by simp)
  have hgt' : t ≠ g := Ne.symm hgt
  have hgs : g ≠ tc.s := ne_of_blocks hE hS (by simp)
  have hgs' : tc.s ≠ g := Ne.symm hgs
  have hgn : g ≠ w.heap.size := Nat.ne_of_lt hg
  have hgn' : w.heap.size ≠ g := Ne.symm hgn
  have hn := idx_pI sh.R tc.cp hk0 hk7
  rw [hR] at hn
  have hfl := fld101 sh.R sh.am
  have hf3 := fld113 x y
  have hcp : tc.cp = ((tc.cp.toNat : Nat) : Int) := by omega
  have hcp1 : tc.cp + 1 = ((tc.cp.toNat + 1 : Nat) : Int) := by omega
  have hkl : tc.cp.toNat < 8 := by omega
  have hkl1 : tc.cp.toNat + 1 ≤ 8 := by omega
  have H : Hid _ := h
  have HS : Hid _ := hS
  have HE : Hid _ := hE
  have HC : Hid _ := hcp
  have HC1 : Hid _ := hcp1
  clear h hS hE hR hcp hcp1
  subst hx
  go_enter Try.func101, Try.ntmps101
  go_wp2_with fail
  go_region_held3 (fun w' => w'.cell? ⟨t, 1, none⟩ = some (Value.pointer (some ⟨tc.s, 0, none⟩)) ∧ w'.cell? ⟨t, 9, none⟩ = some (Value.int IntKind.i64 tc.cp)) (first | (refine ⟨?_, ?_⟩ <;> go_simp)) ((go_at_call 38; refine (g_lookRead sh tc.s _ (by repeat (first | with_reducible exact HS.out | with_reducible refine blk_drew ?_ | with_reducible refine blk_drewN ?_ _ | with_reducible refine block_set_ne ?_ (by assumption) _ _ | with_reducible refine block_alloc_lt ?_ _))).mono ?_; rintro e w' ⟨rfl, rfl⟩; simp only [tabCells]))
  clear hn hfl
  go_wp2_with fail
  refine Calls.mono (g_lookCk g 0 y _ (by repeat (first | with_reducible exact HE.out | with_reducible refine blk_drew ?_ | with_reducible refine blk_drewN ?_ _ | with_reducible refine block_set_ne ?_ (by assumption) _ _ | with_reducible refine block_alloc_lt ?_ _))) ?_
  rintro e w1 ⟨rfl, k1⟩
  have t1 : w1.heap[t]? = some (.cells tc.cells 103 (0, 0)) := k1.at (by repeat (first | with_reducible exact H.out | with_reducible refine blk_drew ?_ | with_reducible refine blk_drewN ?_ _ | with_reducible refine block_set_ne ?_ (by assumption) _ _ | with_reducible refine block_alloc_lt ?_ _)) (by simp)
  have s1 : w1.heap[tc.s]? = some (.cells sh.cells 97 (0, 0)) := k1.at (by repeat (first | with_reducible exact HS.out | with_reducible refine blk_drew ?_ | with_reducible refine blk_drewN ?_ _ | with_reducible refine block_set_ne ?_ (by assumption) _ _ | with_reducible refine block_alloc_lt ?_ _)) (by simp)
  have e1 : w1.heap[g]? = some (.cells #[.int .i64 0, .int .i64 y] 124 (0, 0)) := k1.at (by repeat (first | with_reducible exact HE.out | with_reducible refine blk_drew ?_ | with_reducible refine blk_drewN ?_ _ | with_reducible refine block_set_ne ?_ (by assumption) _ _ | with_reducible refine block_alloc_lt ?_ _)) (by simp)
  have r1 : w1.heap[w.heap.size]? = some (.cells #[.bool false, .bool false, .int .i64 0] 30 (0, 0)) := k1.at (by repeat (first | with_reducible exact block_alloc_new _ _ | with_reducible refine blk_drew ?_ | with_reducible refine blk_drewN ?_ _ | with_reducible refine block_set_ne ?_ (by assumption) _ _ | with_reducible exact newBox (by with_reducible first | exact rfl | exact size_setP _ _ _ | exact (size_setP _ _ _).trans (size_setP _ _ _) | exact (size_setP _ _ _).trans ((size_setP _ _ _).trans (size_setP _ _ _))) _ | with_reducible refine block_alloc_lt ?_ _)) (by simp)
  have kk1 : Hid (Kept [] w w1) := Kept.trans (by repeat (first | with_reducible exact Kept.refl _ _ | with_reducible refine Kept.drew ?_ | with_reducible refine Kept.drewN ?_ _ | with_reducible refine Kept.alloc ?_ _ | with_reducible refine Kept.setAt ?_ (.inl mem0) _ _ | with_reducible refine Kept.setAt ?_ (.inl mem1) _ _ | with_reducible refine Kept.setAt ?_ (.inl mem2) _ _ | with_reducible refine Kept.setAt ?_ (.inr (Nat.le_refl _)) _ _)) k1
  clear hc k1
  have hc : ∀ o, w1.cell? ⟨t, o, none⟩ = tc.cells[o]? := cell_of t1
  simp only [Tc.cells] at hc
  have T1 : Hid _ := t1
  have S1 : Hid _ := s1
  have E1 : Hid _ := e1
  have R1 : Hid _ := r1
  have ht1 := lt_of_block t1
  have hs1 := lt_of_block s1
  have hr1 := lt_of_block r1
  clear t1 s1 e1 r1 H HS HE
  go_wp2_with fail
  go_region_with ((go_at_call 93; refine Calls.mono (by rw [HC.out]; exact g_putInDirty sh tc.s tc.cp.toNat (some ⟨g, 0, none⟩) _ (blk_drew S1.out) hkl) ?_; rintro e w9 ⟨rfl, s9, k9⟩; have t9 : w9.heap[t]? = some (.cells tc.cells 103 (0, 0)) := k9.at (blk_drew T1.out) (by simp <;> omega); have r9 : w9.heap[w.heap.size]? = some (.cells #[.bool false, .bool false, .int .i64 0] 30 (0, 0)) := k9.at (blk_drew R1.out) (by simp <;> omega); have kk9 : Hid (Kept [t, tc.s] w w9) := Kept.trans (kk1.out.drew.mono (by simp)) (k9.mono (by simp))))
  all_goals
    have c99 : w9.cell? ⟨t, 9, none⟩ = some (.int .i64 tc.cp) := cell_of t9 9
    clear hc k9
    go_wp2_with fail
    refine Calls.mono (by rw [HC1.out]; exact p_on tc (Sh.mk sh.R sh.am (fun j => if j = tc.cp.toNat then some ⟨g, 0, none⟩ else sh.D j) sh.hd sh.mis sh.hol) t (tc.cp.toNat + 1) _ t9 s9 hkl1) ?_
    rintro e wz ⟨rfl, hz, kz⟩
    have rz : wz.heap[w.heap.size]? = some (.cells #[.bool false, .bool false, .int .i64 0] 30 (0, 0)) := kz.at r9 (by simp <;> omega)
    have sz0 : wz.heap[tc.s]? = some (.cells { sh with D := fun j => if j = tc.cp.toNat then some ⟨g, 0, none⟩ else sh.D j }.cells 97 (0, 0)) := kz.at s9 (by simp <;> omega)
    have KZ : Hid (Kept [t, tc.s] w wz) := Kept.drop kk9.out kz (by simp)
    have hcz : ∀ o, wz.cell? ⟨w.heap.size, o, none⟩ = #[.bool false, .bool false, .int .i64 0][o]? := cell_of rz
    have hfz : ∀ o, wz.frozen? ⟨w.heap.size, o, none⟩ = false := frozen_of rz
    clear kz
    simp only [ans]
    go_wp2
    refine bodyPost_ret (v := ans false false 0 0) (by simp [results, Try.results101, go_sem, ans, cell_of (resLaidP rz false false 0)]) rfl ⟨rfl, blk_res hz (by omega) _ _ _, blk_res sz0 (by omega) _ _ _, KZ.out.res (Nat.le_refl _) _ _ _⟩
set_option maxRecDepth 100000 in
set_option maxHeartbeats 1600000 in
theorem p_s10_empty (tc : Tc) (sh : Sh) (t : Nat) (g : Nat) (x y : Int) (w : World) (h : w.heap[t]? = some (.cells tc.cells 103 (0, 0))) (hS : w.heap[tc.s]? = some (.cells sh.cells 97 (0, 0))) (hE : w.heap[g]? = some (.cells #[.int .i64 x, .int .i64 y] 124 (0, 0))) (hk0 : 0 ≤ tc.cp) (hk7 : tc.cp < 8) (hR : sh.R tc.cp.toNat = some ⟨g, 0, none⟩) (hx : x = 1) :
    Calls Try.prog 101 #[.pointer (some ⟨t, 0, none⟩)] w fun e w' => e = .returned (ans false false 0 0) ∧ w'.heap[t]? = some (.cells (tc.scan t sh.R (tc.cp.toNat + 1)).cells 103 (0, 0)) ∧ w'.heap[g]? = some (.cells #[.int .i64 2, .int .i64 0] 124 (0, 0)) ∧ Kept [t, g] w w' := by
  have hs := lt_of_block h
  have hs2 := lt_of_block hS
  have hne : t ≠ tc.s := ne_of_blocks h hS (by simp)
  have hne' : tc.s ≠ t := Ne.symm hne
  have hnt : t ≠ w.heap.size := Nat.ne_of_lt hs
  have hns : tc.s ≠ w.heap.size := Nat.ne_of_lt hs2
  have hnt' : w.heap.size ≠ t := Ne.symm hnt
  have hns' : w.heap.size ≠ tc.s := Ne.symm hns
  have hc : ∀ o, w.cell? ⟨t, o, none⟩ = tc.cells[o]? := cell_of h
  simp only [Tc.cells] at hc
  have hg := lt_of_block hE
  have hgt : g ≠ t := ne_of_blocks hE h (by simp)
  have hgt' : t ≠ g := Ne.symm hgt
  have hgs : g ≠ tc.s := ne_of_blocks hE hS (by simp)
  have hgs' : tc.s ≠ g := Ne.symm hgs
  have hgn : g ≠ w.heap.size := Nat.ne_of_lt hg
  have hgn' : w.heap.size ≠ g := Ne.symm hgn
  have hn := idx_pI sh.R tc.cp hk0 hk7
  rw [hR] at hn
  have hfl := fld101 sh.R sh.am
  have hf3 := fld113 x y
  have hcp : tc.cp = ((tc.cp.toNat : Nat) : Int) := by omega
  have hcp1 : tc.cp + 1 = ((tc.cp.toNat + 1 : Nat) : Int) := by omega
  have hkl : tc.cp.toNat < 8 := by omega
  have hkl1 : tc.cp.toNat + 1 ≤ 8 := by omega
  have H : Hid _ := h
  have HS : Hid _ := hS
  have HE : Hid _ := hE
  have HC : Hid _ := hcp
  have HC1 : Hid _ := hcp1
  clear h hS hE hR hcp hcp1
  subst hx
  go_enter Try.func101, Try.ntmps101
  go_wp2_with fail
  go_region_held3 (fun w' => w'.cell? ⟨t, 1, none⟩ = some (Value.pointer (some ⟨tc.s, 0, none⟩)) ∧ w'.cell? ⟨t, 9, none⟩ = some (Value.int IntKind.i64 tc.cp)) (first | (refine ⟨?_, ?_⟩ <;> go_simp)) ((go_at_call 38; refine (g_lookRead sh tc.s _ (by repeat (first | with_reducible exact HS.out | with_reducible refine blk_drew ?_ | with_reducible refine blk_drewN ?_ _ | with_reducible refine block_set_ne ?_ (by assumption) _ _ | with_reducible refine block_alloc_lt ?_ _))).mono ?_; rintro e w' ⟨rfl, rfl⟩; simp only [tabCells]))
  clear hn hfl
  go_wp2_with fail
  refine Calls.mono (g_lookCk g 1 y _ (by repeat (first | with_reducible exact HE.out | with_reducible refine blk_drew ?_ | with_reducible refine blk_drewN ?_ _ | with_reducible refine block_set_ne ?_ (by assumption) _ _ | with_reducible refine block_alloc_lt ?_ _))) ?_
  rintro e w1 ⟨rfl, k1⟩
  have t1 : w1.heap[t]? = some (.cells tc.cells 103 (0, 0)) := k1.at (by repeat (first | with_reducible exact H.out | with_reducible refine blk_drew ?_ | with_reducible refine blk_drewN ?_ _ | with_reducible refine block_set_ne ?_ (by assumption) _ _ | with_reducible refine block_alloc_lt ?_ _)) (by simp)
  have s1 : w1.heap[tc.s]? = some (.cells sh.cells 97 (0, 0)) := k1.at (by repeat (first | with_reducible exact HS.out | with_reducible refine blk_drew ?_ | with_reducible refine blk_drewN ?_ _ | with_reducible refine block_set_ne ?_ (by assumption) _ _ | with_reducible refine block_alloc_lt ?_ _)) (by simp)
  have e1 : w1.heap[g]? = some (.cells #[.int .i64 1, .int .i64 y] 124 (0, 0)) := k1.at (by repeat (first | with_reducible exact HE.out | with_reducible refine blk_drew ?_ | with_reducible refine blk_drewN ?_ _ | with_reducible refine block_set_ne ?_ (by assumption) _ _ | with_reducible refine block_alloc_lt ?_ _)) (by simp)
  have r1 : w1.heap[w.heap.size]? = some (.cells #[.bool false, .bool false, .int .i64 0] 30 (0, 0)) := k1.at (by repeat (first | with_reducible exact block_alloc_new _ _ | with_reducible refine blk_drew ?_ | with_reducible refine blk_drewN ?_ _ | with_reducible refine block_set_ne ?_ (by assumption) _ _ | with_reducible exact newBox (by with_reducible first | exact rfl | exact size_setP _ _ _ | exact (size_setP _ _ _).trans (size_setP _ _ _) | exact (size_setP _ _ _).trans ((size_setP _ _ _).trans (size_setP _ _ _))) _ | with_reducible refine block_alloc_lt ?_ _)) (by simp)
  have kk1 : Hid (Kept [] w w1) := Kept.trans (by repeat (first | with_reducible exact Kept.refl _ _ | with_reducible refine Kept.drew ?_ | with_reducible refine Kept.drewN ?_ _ | with_reducible refine Kept.alloc ?_ _ | with_reducible refine Kept.setAt ?_ (.inl mem0) _ _ | with_reducible refine Kept.setAt ?_ (.inl mem1) _ _ | with_reducible refine Kept.setAt ?_ (.inl mem2) _ _ | with_reducible refine Kept.setAt ?_ (.inr (Nat.le_refl _)) _ _)) k1
  clear hc k1
  have hc : ∀ o, w1.cell? ⟨t, o, none⟩ = tc.cells[o]? := cell_of t1
  simp only [Tc.cells] at hc
  have T1 : Hid _ := t1
  have S1 : Hid _ := s1
  have E1 : Hid _ := e1
  have R1 : Hid _ := r1
  have ht1 := lt_of_block t1
  have hs1 := lt_of_block s1
  have hr1 := lt_of_block r1
  clear t1 s1 e1 r1 H HS HE
  go_wp2_with fail
  refine Calls.mono (g_setC g 1 y 2 0 _ E1.out) ?_
  rintro e w9 ⟨rfl, e9, k9⟩
  have t9 : w9.heap[t]? = some (.cells tc.cells 103 (0, 0)) := k9.at T1.out (by simp <;> omega)
  have s9 : w9.heap[tc.s]? = some (.cells sh.cells 97 (0, 0)) := k9.at S1.out (by simp <;> omega)
  have r9 : w9.heap[w.heap.size]? = some (.cells #[.bool false, .bool false, .int .i64 0] 30 (0, 0)) := k9.at R1.out (by simp <;> omega)
  have kk9 : Hid (Kept [t, g] w w9) := Kept.trans (kk1.out.mono (by simp)) (k9.mono (by simp))
  have c99 : w9.cell? ⟨t, 9, none⟩ = some (.int .i64 tc.cp) := cell_of t9 9
  clear hc k9
  go_wp2_with fail
  refine Calls.mono (by rw [HC1.out]; exact p_on tc sh t (tc.cp.toNat + 1) _ t9 s9 hkl1) ?_
  rintro e wz ⟨rfl, hz, kz⟩
  have rz : wz.heap[w.heap.size]? = some (.cells #[.bool false, .bool false, .int .i64 0] 30 (0, 0)) := kz.at r9 (by simp <;> omega)
  have sz0 : wz.heap[g]? = some (.cells #[.int .i64 2, .int .i64 0] 124 (0, 0)) := kz.at e9 (by simp <;> omega)
  have KZ : Hid (Kept [t, g] w wz) := Kept.drop kk9.out kz (by simp)
  have hcz : ∀ o, wz.cell? ⟨w.heap.size, o, none⟩ = #[.bool false, .bool false, .int .i64 0][o]? := cell_of rz
  have hfz : ∀ o, wz.frozen? ⟨w.heap.size, o, none⟩ = false := frozen_of rz
  clear kz
  simp only [ans]
  go_wp2
  refine bodyPost_ret (v := ans false false 0 0) (by simp [results, Try.results101, go_sem, ans, cell_of (resLaidP rz false false 0)]) rfl ⟨rfl, blk_res hz (by omega) _ _ _, blk_res sz0 (by omega) _ _ _, KZ.out.res (Nat.le_refl _) _ _ _⟩
set_option maxRecDepth 100000 in
set_option maxHeartbeats 1600000 in
theorem p_s10_gone (tc : Tc) (sh : Sh) (t : Nat) (g : Nat) (x y : Int) (w : World) (h : w.heap[t]? = some (.cells tc.cells 103 (0, 0))) (hS : w.heap[tc.s]? = some (.cells sh.cells 97 (0, 0))) (hE : w.heap[g]? = some (.cells #[.int .i64 x, .int .i64 y] 124 (0, 0))) (hk0 : 0 ≤ tc.cp) (hk7 : tc.cp < 8) (hR : sh.R tc.cp.toNat = some ⟨g, 0, none⟩) (hx : ¬ x = 0) (hx1 : ¬ x = 1) :
    Calls Try.prog 101 #[.pointer (some ⟨t, 0, none⟩)] w fun e w' => e = .returned (ans false false 0 0) ∧ w'.heap[t]? = some (.cells (tc.scan t sh.R (tc.cp.toNat + 1)).cells 103 (0, 0)) ∧ Kept [t] w w' := by
  have hs := lt_of_block h
  have hs2 := lt_of_block hS
  have hne : t ≠ tc.s := ne_of_blocks h hS (by simp)
  have hne' : tc.s ≠ t := Ne.symm hne
  have hnt : t ≠ w.heap.size := Nat.ne_of_lt hs
  have hns : tc.s ≠ w.heap.size := Nat.ne_of_lt hs2
  have hnt' : w.heap.size ≠ t := Ne.symm hnt
  have hns' : w.heap.size ≠ tc.s := Ne.symm hns
  have hc : ∀ o, w.cell? ⟨t, o, none⟩ = tc.cells[o]? := cell_of h
  simp only [Tc.cells] at hc
  have hg := lt_of_block hE
  have hgt : g ≠ t := ne_of_blocks hE h (by simp)
  have hgt' : t ≠ g := Ne.symm hgt
  have hgs : g ≠ tc.s := ne_of_blocks hE hS (by simp)
  have hgs' : tc.s ≠ g := Ne.symm hgs
  have hgn : g ≠ w.heap.size := Nat.ne_of_lt hg
  have hgn' : w.heap.size ≠ g := Ne.symm hgn
  have hn := idx_pI sh.R tc.cp hk0 hk7
  rw [hR] at hn
  have hfl := fld101 sh.R sh.am
  have hf3 := fld113 x y
  have hcp : tc.cp = ((tc.cp.toNat : Nat) : Int) := by omega
  have hcp1 : tc.cp + 1 = ((tc.cp.toNat + 1 : Nat) : Int) := by omega
  have hkl : tc.cp.toNat < 8 := by omega
  have hkl1 : tc.cp.toNat + 1 ≤ 8 := by omega
  have H : Hid _ := h
  have HS : Hid _ := hS
  have HE : Hid _ := hE
  have HC : Hid _ := hcp
  have HC1 : Hid _ := hcp1
  clear h hS hE hR hcp hcp1
  go_enter Try.func101, Try.ntmps101
  go_wp2_with fail
  go_region_held3 (fun w' => w'.cell? ⟨t, 1, none⟩ = some (Value.pointer (some ⟨tc.s, 0, none⟩)) ∧ w'.cell? ⟨t, 9, none⟩ = some (Value.int IntKind.i64 tc.cp)) (first | (refine ⟨?_, ?_⟩ <;> go_simp)) ((go_at_call 38; refine (g_lookRead sh tc.s _ (by repeat (first | with_reducible exact HS.out | with_reducible refine blk_drew ?_ | with_reducible refine blk_drewN ?_ _ | with_reducible refine block_set_ne ?_ (by assumption) _ _ | with_reducible refine block_alloc_lt ?_ _))).mono ?_; rintro e w' ⟨rfl, rfl⟩; simp only [tabCells]))
  clear hn hfl
  go_wp2_with fail
  refine Calls.mono (g_lookCk g x y _ (by repeat (first | with_reducible exact HE.out | with_reducible refine blk_drew ?_ | with_reducible refine blk_drewN ?_ _ | with_reducible refine block_set_ne ?_ (by assumption) _ _ | with_reducible refine block_alloc_lt ?_ _))) ?_
  rintro e w1 ⟨rfl, k1⟩
  have t1 : w1.heap[t]? = some (.cells tc.cells 103 (0, 0)) := k1.at (by repeat (first | with_reducible exact H.out | with_reducible refine blk_drew ?_ | with_reducible refine blk_drewN ?_ _ | with_reducible refine block_set_ne ?_ (by assumption) _ _ | with_reducible refine block_alloc_lt ?_ _)) (by simp)
  have s1 : w1.heap[tc.s]? = some (.cells sh.cells 97 (0, 0)) := k1.at (by repeat (first | with_reducible exact HS.out | with_reducible refine blk_drew ?_ | with_reducible refine blk_drewN ?_ _ | with_reducible refine block_set_ne ?_ (by assumption) _ _ | with_reducible refine block_alloc_lt ?_ _)) (by simp)
  have e1 : w1.heap[g]? = some (.cells #[.int .i64 x, .int .i64 y] 124 (0, 0)) := k1.at (by repeat (first | with_reducible exact HE.out | with_reducible refine blk_drew ?_ | with_reducible refine blk_drewN ?_ _ | with_reducible refine block_set_ne ?_ (by assumption) _ _ | with_reducible refine block_alloc_lt ?_ _)) (by simp)
  have r1 : w1.heap[w.heap.size]? = some (.cells #[.bool false, .bool false, .int .i64 0] 30 (0, 0)) := k1.at (by repeat (first | with_reducible exact block_alloc_new _ _ | with_reducible refine blk_drew ?_ | with_reducible refine blk_drewN ?_ _ | with_reducible refine block_set_ne ?_ (by assumption) _ _ | with_reducible exact newBox (by with_reducible first | exact rfl | exact size_setP _ _ _ | exact (size_setP _ _ _).trans (size_setP _ _ _) | exact (size_setP _ _ _).trans ((size_setP _ _ _).trans (size_setP _ _ _))) _ | with_reducible refine block_alloc_lt ?_ _)) (by simp)
  have kk1 : Hid (Kept [] w w1) := Kept.trans (by repeat (first | with_reducible exact Kept.refl _ _ | with_reducible refine Kept.drew ?_ | with_reducible refine Kept.drewN ?_ _ | with_reducible refine Kept.alloc ?_ _ | with_reducible refine Kept.setAt ?_ (.inl mem0) _ _ | with_reducible refine Kept.setAt ?_ (.inl mem1) _ _ | with_reducible refine Kept.setAt ?_ (.inl mem2) _ _ | with_reducible refine Kept.setAt ?_ (.inr (Nat.le_refl _)) _ _)) k1
  clear hc k1
  have hc : ∀ o, w1.cell? ⟨t, o, none⟩ = tc.cells[o]? := cell_of t1
  simp only [Tc.cells] at hc
  have T1 : Hid _ := t1
  have S1 : Hid _ := s1
  have E1 : Hid _ := e1
  have R1 : Hid _ := r1
  have ht1 := lt_of_block t1
  have hs1 := lt_of_block s1
  have hr1 := lt_of_block r1
  clear t1 s1 e1 r1 H HS HE
  go_wp2_with fail
  clear hc
  refine Calls.mono (by rw [HC1.out]; exact p_on tc sh t (tc.cp.toNat + 1) _ T1.out S1.out hkl1) ?_
  rintro e wz ⟨rfl, hz, kz⟩
  have rz : wz.heap[w.heap.size]? = some (.cells #[.bool false, .bool false, .int .i64 0] 30 (0, 0)) := kz.at R1.out (by simp <;> omega)
  have KZ : Hid (Kept [t] w wz) := Kept.drop (kk1.out.mono (by simp)) kz (by simp)
  have hcz : ∀ o, wz.cell? ⟨w.heap.size, o, none⟩ = #[.bool false, .bool false, .int .i64 0][o]? := cell_of rz
  have hfz : ∀ o, wz.frozen? ⟨w.heap.size, o, none⟩ = false := frozen_of rz
  clear kz
  simp only [ans]
  go_wp2
  refine bodyPost_ret (v := ans false false 0 0) (by simp [results, Try.results101, go_sem, ans, cell_of (resLaidP rz false false 0)]) rfl ⟨rfl, blk_res hz (by omega) _ _ _, KZ.out.res (Nat.le_refl _) _ _ _⟩
end Go.Proofs.Ytmnkphenobfbfaa
