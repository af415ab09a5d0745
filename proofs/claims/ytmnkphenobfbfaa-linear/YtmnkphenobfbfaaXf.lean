import Derived.Test.YtmnkphenobfbfaaXe
namespace Go.Proofs.Ytmnkphenobfbfaa
open Go.RowKit
set_option maxRecDepth 100000 in
set_option maxHeartbeats 1600000 in
theorem g_takeFromDirty (sh : Sh) (s : Nat) (k : Nat) (w : World) (hS : w.heap[s]? = some (.cells sh.cells 97 (0, 0))) (hk : k < 8) :
    Calls Try.prog 102 #[.pointer (some ⟨s, 0, none⟩), .int .i64 k] w fun e w' => e = .returned (.tuple #[]) ∧ w'.heap[s]? = some (.cells { sh with D := fun j => if j = k then none else sh.D j }.cells 97 (0, 0)) ∧ Kept [s] w w' := by
  have hs := lt_of_block hS
  have hk1 : (k : Int) < 8 := by omega
  have hkt : ((k : Int)).toNat = k := by simp
  go_enter Try.func102, Try.ntmps102
  go_wp2_with fail
  refine (g_lookDirty sh s _ hS).mono ?_
  rintro e w1 ⟨rfl, rfl⟩
  simp only [tabCells]
  go_wp2_with fail
  simp only [tabSet sh.D k none sh.hd hk]
  generalize hG : (fun j => if j = k then none else sh.D j) = G
  have HG : Hid _ := hG
  clear hG
  have h1 := block_alloc_lt (block_alloc_lt hS (.cells (tabCells sh.D sh.hd) 91)) (.cells (tabCells G sh.hd) 91)
  have g1 := block_alloc_new (w.alloc (.cells (tabCells sh.D sh.hd) 91)) (.cells (tabCells G sh.hd) 91)
  have k1 := ((Kept.refl [s] w).alloc (.cells (tabCells sh.D sh.hd) 91)).alloc (.cells (tabCells G sh.hd) 91)
  simp only [World.size_alloc] at g1
  simp only [tabCells] at h1 g1 k1 ⊢
  generalize (w.alloc (.cells #[Value.pointer (sh.D 0), .pointer (sh.D 1), .pointer (sh.D 2), .pointer (sh.D 3), .pointer (sh.D 4), .pointer (sh.D 5), .pointer (sh.D 6), .pointer (sh.D 7), .bool sh.hd] 91)).alloc (.cells #[Value.pointer (G 0), .pointer (G 1), .pointer (G 2), .pointer (G 3), .pointer (G 4), .pointer (G 5), .pointer (G 6), .pointer (G 7), .bool sh.hd] 91) = W at *
  have hc1 : ∀ o, W.cell? ⟨w.heap.size + 1, o, none⟩ = #[Value.pointer (G 0), .pointer (G 1), .pointer (G 2), .pointer (G 3), .pointer (G 4), .pointer (G 5), .pointer (G 6), .pointer (G 7), .bool sh.hd][o]? := cell_of g1
  have H1 : Hid _ := h1
  have K1 : Hid _ := k1
  clear h1 k1 hS
  go_region_with ((go_at_call 95; refine Calls.mono (g_setDirty sh s G sh.hd _ (blk_drew H1.out)) ?_; rintro e wz ⟨rfl, hz, kz⟩))
  all_goals
    go_wp2
    go_end0
    obtain rfl := HG.out
    exact ⟨rfl, hz, K1.out.drew.trans kz⟩
set_option maxRecDepth 100000 in
set_option maxHeartbeats 1600000 in
theorem p_d5 (tc : Tc) (sh : Sh) (t : Nat) (w : World) (h : w.heap[t]? = some (.cells tc.cells 103 (0, 0))) (hS : w.heap[tc.s]? = some (.cells sh.cells 97 (0, 0))) (hk0 : 0 ≤ tc.key) (hk7 : tc.key < 8)  :
    Calls Try.prog 97 #[.pointer (some ⟨t, 0, none⟩)] w fun e w' => e = .returned (ans false false 0 0) ∧ w'.heap[t]? = some (.cells { tc with nx := .func (.func 98) #[.pointer (some ⟨t, 0, none⟩)] #[] }.cells 103 (0, 0)) ∧ w'.heap[tc.s]? = some (.cells { sh with D := fun j => if j = tc.key.toNat then none else sh.D j }.cells 97 (0, 0)) ∧ Kept [t, tc.s] w w' := by
  have hs := lt_of_block h
  have hs2 := lt_of_block hS
  have hne : t ≠ tc.s := ne_of_blocks h hS (by simp)
  have hne' : tc.s ≠ t := Ne.symm hne
  have hnt : t ≠ w.heap.size := Nat.ne_of_lt hs
  have hns : tc.s ≠ w.heap.size := Nat.ne_of_lt hs2
  have hnt' : w.heap.size ≠ t := Ne.symm hnt
  have hns' : w.heap.size ≠ tc.s := Ne.symm hns
  have hc : ∀ o, w.cell? ⟨t, o, none⟩ = tc.cells[o]? := cell_of h
  simp only [Tc.cells] at hc
  have hkey : tc.key = ((tc.key.toNat : Nat) : Int) := by omega
  have hkl : tc.key.toNat < 8 := by omega
  have H : Hid _ := h
  have HS : Hid _ := hS
  have HK : Hid _ := hkey
  clear h hS hkey
  go_enter Try.func97, Try.ntmps97
  go_wp2_with fail
  go_region_held3 (fun w' => w'.cell? ⟨t, 1, none⟩ = some (Value.pointer (some ⟨tc.s, 0, none⟩)) ∧ w'.cell? ⟨t, 3, none⟩ = some (Value.int IntKind.i64 tc.key)) (first | exact ⟨c91, c93⟩ | (refine ⟨?_, ?_⟩ <;> go_simp)) ((go_at_call 102; refine Calls.mono (by rw [HK.out]; exact g_takeFromDirty sh tc.s tc.key.toNat _ (by repeat (first | with_reducible exact HS.out | with_reducible refine blk_drew ?_ | with_reducible refine blk_drewN ?_ _ | with_reducible refine block_set_ne ?_ (by assumption) _ _ | with_reducible refine block_alloc_lt ?_ _)) hkl) ?_; rintro e w9 ⟨rfl, s9, k9⟩; have t9 : w9.heap[t]? = some (.cells tc.cells 103 (0, 0)) := k9.at (by repeat (first | with_reducible exact H.out | with_reducible refine blk_drew ?_ | with_reducible refine blk_drewN ?_ _ | with_reducible refine block_set_ne ?_ (by assumption) _ _ | with_reducible refine block_alloc_lt ?_ _)) (by simp <;> omega); have c91 : w9.cell? ⟨t, 1, none⟩ = some (Value.pointer (some ⟨tc.s, 0, none⟩)) := cell_of t9 1; have c93 : w9.cell? ⟨t, 3, none⟩ = some (Value.int IntKind.i64 tc.key) := cell_of t9 3))
  clear hc
  go_wp2_with fail
  refine Calls.mono (g_goOn tc t (.func 98) #[.pointer (some ⟨t, 0, none⟩)] #[] _ (by repeat (first | with_reducible exact t9 | with_reducible refine blk_drew ?_ | with_reducible refine blk_drewN ?_ _ | with_reducible refine block_set_ne ?_ (by assumption) _ _ | with_reducible refine block_alloc_lt ?_ _))) ?_
  rintro e wz ⟨rfl, hz, kz⟩
  have rz : wz.heap[w.heap.size]? = some (.cells #[.bool false, .bool false, .int .i64 0] 30 (0, 0)) := kz.at (k9.at (by repeat (first | with_reducible exact block_alloc_new _ _ | with_reducible refine blk_drew ?_ | with_reducible refine blk_drewN ?_ _ | with_reducible refine block_set_ne ?_ (by assumption) _ _ | with_reducible exact newBox (by with_reducible first | exact rfl | exact size_setP _ _ _ | exact (size_setP _ _ _).trans (size_setP _ _ _) | exact (size_setP _ _ _).trans ((size_setP _ _ _).trans (size_setP _ _ _))) _ | with_reducible refine block_alloc_lt ?_ _)) (by simp <;> omega)) (by simp <;> omega)
  have sz0 : wz.heap[tc.s]? = some (.cells { sh with D := fun j => if j = tc.key.toNat then none else sh.D j }.cells 97 (0, 0)) := kz.at (by repeat (first | with_reducible exact s9 | with_reducible refine blk_drew ?_ | with_reducible refine blk_drewN ?_ _ | with_reducible refine block_set_ne ?_ (by assumption) _ _ | with_reducible refine block_alloc_lt ?_ _)) (by simp <;> omega)
  have KZ : Hid (Kept [t, tc.s] w wz) := Kept.drop (Kept.trans (by repeat (first | with_reducible exact Kept.refl _ _ | with_reducible refine Kept.drew ?_ | with_reducible refine Kept.drewN ?_ _ | with_reducible refine Kept.alloc ?_ _ | with_reducible refine Kept.setAt ?_ (.inl mem0) _ _ | with_reducible refine Kept.setAt ?_ (.inl mem1) _ _ | with_reducible refine Kept.setAt ?_ (.inl mem2) _ _ | with_reducible refine Kept.setAt ?_ (.inr (Nat.le_refl _)) _ _)) (k9.mono (by simp))) kz (by simp)
  have hcz : ∀ o, wz.cell? ⟨w.heap.size, o, none⟩ = #[.bool false, .bool false, .int .i64 0][o]? := cell_of rz
  have hfz : ∀ o, wz.frozen? ⟨w.heap.size, o, none⟩ = false := frozen_of rz
  clear kz
  simp only [ans]
  go_wp2
  refine bodyPost_ret (v := ans false false 0 0) (by simp [results, Try.results97, go_sem, ans, cell_of (resLaidP rz false false 0)]) rfl ⟨rfl, blk_res hz (by omega) _ _ _, blk_res sz0 (by omega) _ _ _, KZ.out.res (Nat.le_refl _) _ _ _⟩
set_option maxRecDepth 100000 in
set_option maxHeartbeats 1600000 in
theorem p_d8_on (tc : Tc) (t : Nat) (g : Nat) (x y : Int) (w : World) (h : w.heap[t]? = some (.cells tc.cells 103 (0, 0))) (hE : w.heap[g]? = some (.cells #[.int .i64 x, .int .i64 y] 124 (0, 0))) (he : tc.e = some ⟨g, 0, none⟩) (hx : x = 0) :
    Calls Try.prog 70 #[.pointer (some ⟨t, 0, none⟩)] w fun e w' => e = .returned (ans false false 0 0) ∧ w'.heap[t]? = some (.cells { tc with sst := x, sv := y, nx := .func (.func 81) #[.pointer (some ⟨t, 0, none⟩)] #[] }.cells 103 (0, 0)) ∧ Kept [t] w w' := by
  have hs := lt_of_block h
  have hnt : t ≠ w.heap.size := Nat.ne_of_lt hs
  have hnt' : w.heap.size ≠ t := Ne.symm hnt
  have hc : ∀ o, w.cell? ⟨t, o, none⟩ = tc.cells[o]? := cell_of h
  simp only [Tc.cells] at hc
  have hg := lt_of_block hE
  have hgt : g ≠ t := ne_of_blocks hE h (by simp)
  have hgt' : t ≠ g := Ne.symm hgt
  have hgn : g ≠ w.heap.size := Nat.ne_of_lt hg
  have hgn' : w.heap.size ≠ g := Ne.symm hgn
  simp only [he] at hc
  have hf : ∀ o, w.frozen? ⟨t, o, none⟩ = false := frozen_of h
  have H : Hid _ := h
  have HE : Hid _ := hE
  have HEE : Hid _ := he
  clear h hE he
  subst hx
  go_enter Try.func70, Try.ntmps70
  go_wp2_with fail
  refine Calls.mono (g_lookC g 0 y _ (by repeat (first | with_reducible exact HE.out | with_reducible refine blk_drew ?_ | with_reducible refine blk_drewN ?_ _ | with_reducible refine block_set_ne ?_ (by assumption) _ _ | with_reducible refine block_alloc_lt ?_ _))) ?_
  rintro e w1 ⟨rfl, rfl⟩
  go_wp2_with fail
  clear hc hf
  refine Calls.mono (g_goOn { tc with sst := 0, sv := y } t (.func 81) #[.pointer (some ⟨t, 0, none⟩)] #[] _ (by repeat (first | with_reducible refine blk_drew ?_ | with_reducible refine blk_drewN ?_ _ | with_reducible refine block_alloc_lt ?_ _ | exact (block_set_same (block_set_same H.out _ _) _ _).trans (by simp [Tc.cells])))) ?_
  rintro e wz ⟨rfl, hz, kz⟩
  have rz : wz.heap[w.heap.size]? = some (.cells #[.bool false, .bool false, .int .i64 0] 30 (0, 0)) := kz.at (by repeat (first | with_reducible exact block_alloc_new _ _ | with_reducible refine blk_drew ?_ | with_reducible refine blk_drewN ?_ _ | with_reducible refine block_set_ne ?_ (by assumption) _ _ | with_reducible exact newBox (by with_reducible first | exact rfl | exact size_setP _ _ _ | exact (size_setP _ _ _).trans (size_setP _ _ _) | exact (size_setP _ _ _).trans ((size_setP _ _ _).trans (size_setP _ _ _))) _ | with_reducible refine block_alloc_lt ?_ _)) (by simp <;> omega)
  have KZ : Hid (Kept [t] w wz) := Kept.drop (by repeat (first | with_reducible exact Kept.refl _ _ | with_reducible refine Kept.drew ?_ | with_reducible refine Kept.drewN ?_ _ | with_reducible refine Kept.alloc ?_ _ | with_reducible refine Kept.setAt ?_ (.inl mem0) _ _ | with_reducible refine Kept.setAt ?_ (.inl mem1) _ _ | with_reducible refine Kept.setAt ?_ (.inl mem2) _ _ | with_reducible refine Kept.setAt ?_ (.inr (Nat.le_refl _)) _ _)) kz (by simp)
  have hcz : ∀ o, wz.cell? ⟨w.heap.size, o, none⟩ = #[.bool false, .bool false, .int .i64 0][o]? := cell_of rz
  have hfz : ∀ o, wz.frozen? ⟨w.heap.size, o, none⟩ = false := frozen_of rz
  clear kz
  simp only [ans]
  go_wp2
  refine bodyPost_ret (v := ans false false 0 0) (by simp [results, Try.results70, go_sem, ans, cell_of (resLaidP rz false false 0)]) rfl ⟨rfl, blk_res hz (by omega) _ _ _, KZ.out.res (Nat.le_refl _) _ _ _⟩
set_option maxRecDepth 100000 in
set_option maxHeartbeats 1600000 in
theorem p_d8_none (tc : Tc) (t : Nat) (g : Nat) (x y : Int) (w : World) (h : w.heap[t]? = some (.cells tc.cells 103 (0, 0))) (hE : w.heap[g]? = some (.cells #[.int .i64 x, .int .i64 y] 124 (0, 0))) (he : tc.e = some ⟨g, 0, none⟩) (hx : ¬ x = 0) :
    Calls Try.prog 70 #[.pointer (some ⟨t, 0, none⟩)] w fun e w' => e = .returned (ans true false 0 0) ∧ w'.heap[t]? = some (.cells tc.idle.cells 103 (0, 0)) ∧ Kept [t] w w' := by
  have hs := lt_of_block h
  have hnt : t ≠ w.heap.size := Nat.ne_of_lt hs
  have hnt' : w.heap.size ≠ t := Ne.symm hnt
  have hc : ∀ o, w.cell? ⟨t, o, none⟩ = tc.cells[o]? := cell_of h
  simp only [Tc.cells] at hc
  have hg := lt_of_block hE
  have hgt : g ≠ t := ne_of_blocks hE h (by simp)
  have hgt' : t ≠ g := Ne.symm hgt
  have hgn : g ≠ w.heap.size := Nat.ne_of_lt hg
  have hgn' : w.heap.size ≠ g := Ne.symm hgn
  simp only [he] at hc
  have hf : ∀ o, w.frozen? ⟨t, o, none⟩ = false := frozen_of h
  have H : Hid _ := h
  have HE : Hid _ := hE
  have HEE : Hid _ := he
  clear h hE he
  have hq : (x == 0) = false := beq_eq_false_iff_ne.2 hx
  go_enter Try.func70, Try.ntmps70
  go_wp2_with fail
  refine Calls.mono (g_lookC g x y _ (by repeat (first | with_reducible exact HE.out | with_reducible refine blk_drew ?_ | with_reducible refine blk_drewN ?_ _ | with_reducible refine block_set_ne ?_ (by assumption) _ _ | with_reducible refine block_alloc_lt ?_ _))) ?_
  rintro e w1 ⟨rfl, rfl⟩
  go_wp2_with fail
  clear hc hf
  refine Calls.mono (g_doneNothing { tc with sst := x, sv := y } t _ (by repeat (first | with_reducible refine blk_drew ?_ | with_reducible refine blk_drewN ?_ _ | with_reducible refine block_alloc_lt ?_ _ | exact (block_set_same (block_set_same H.out _ _) _ _).trans (by simp [Tc.cells])))) ?_
  rintro e wz ⟨rfl, hz, kz⟩
  have rz : wz.heap[w.heap.size]? = some (.cells #[.bool false, .bool false, .int .i64 0] 30 (0, 0)) := kz.at (by repeat (first | with_reducible exact block_alloc_new _ _ | with_reducible refine blk_drew ?_ | with_reducible refine blk_drewN ?_ _ | with_reducible refine block_set_ne ?_ (by assumption) _ _ | with_reducible exact newBox (by with_reducible first | exact rfl | exact size_setP _ _ _ | exact (size_setP _ _ _).trans (size_setP _ _ _) | exact (size_setP _ _ _).trans ((size_setP _ _ _).trans (size_setP _ _ _))) _ | with_reducible refine block_alloc_lt ?_ _)) (by simp <;> omega)
  have KZ : Hid (Kept [t] w wz) := Kept.drop (by repeat (first | with_reducible exact Kept.refl _ _ | with_reducible refine Kept.drew ?_ | with_reducible refine Kept.drewN ?_ _ | with_reducible refine Kept.alloc ?_ _ | with_reducible refine Kept.setAt ?_ (.inl mem0) _ _ | with_reducible refine Kept.setAt ?_ (.inl mem1) _ _ | with_reducible refine Kept.setAt ?_ (.inl mem2) _ _ | with_reducible refine Kept.setAt ?_ (.inr (Nat.le_refl _)) _ _)) kz (by simp)
  have hcz : ∀ o, wz.cell? ⟨w.heap.size, o, none⟩ = #[.bool false, .bool false, .int .i64 0][o]? := cell_of rz
  have hfz : ∀ o, wz.frozen? ⟨w.heap.size, o, none⟩ = false := frozen_of rz
  clear kz
  simp only [ans]
  go_wp2
  refine bodyPost_ret (v := ans true false 0 0) (by simp [results, Try.results70, go_sem, ans, cell_of (resLaidP rz true false 0)]) rfl ⟨rfl, blk_res hz (by omega) _ _ _, KZ.out.res (Nat.le_refl _) _ _ _⟩
set_option maxRecDepth 100000 in
set_option maxHeartbeats 1600000 in
theorem p_d9_no (tc : Tc) (t : Nat) (g : Nat) (x y : Int) (w : World) (h : w.heap[t]? = some (.cells tc.cells 103 (0, 0))) (hE : w.heap[g]? = some (.cells #[.int .i64 x, .int .i64 y] 124 (0, 0))) (he : tc.e = some ⟨g, 0, none⟩) (hx : ¬ (x = tc.sst ∧ y = tc.sv)) :
    Calls Try.prog 81 #[.pointer (some ⟨t, 0, none⟩)] w fun e w' => e = .returned (ans false false 0 0) ∧ w'.heap[t]? = some (.cells { tc with nx := .func (.func 70) #[.pointer (some ⟨t, 0, none⟩)] #[] }.cells 103 (0, 0)) ∧ Kept [t] w w' := by
  have hs := lt_of_block h
  have hnt : t ≠ w.heap.size := Nat.ne_of_lt hs
  have hnt' : w.heap.size ≠ t := Ne.symm hnt
  have hc : ∀ o, w.cell? ⟨t, o, none⟩ = tc.cells[o]? := cell_of h
  simp only [Tc.cells] at hc
  have hg := lt_of_block hE
  have hgt : g ≠ t := ne_of_blocks hE h (by simp)
  have hgt' : t ≠ g := Ne.symm hgt
  have hgn : g ≠ w.heap.size := Nat.ne_of_lt hg
  have hgn' : w.heap.size ≠ g := Ne.symm hgn
  simp only [he] at hc
  have H : Hid _ := h
  have HE : Hid _ := hE
  have HEE : Hid _ := he
  clear h hE he
  go_enter Try.func81, Try.ntmps81
  go_wp2_with fail
  go_region_held3 (fun w' => w'.cell? ⟨t, 6, none⟩ = some (Value.pointer (some ⟨g, 0, none⟩)) ∧ w'.cell? ⟨t, 7, none⟩ = some (Value.int IntKind.i64 tc.sst) ∧ w'.cell? ⟨t, 8, none⟩ = some (Value.int IntKind.i64 tc.sv)) (first | exact ⟨c96, c97, c98⟩ | (refine ⟨?_, ?_, ?_⟩ <;> go_simp)) (first | (go_at_call 78; refine Calls.mono (g_setIfC_no g x y tc.sst tc.sv 1 0 _ (by repeat (first | with_reducible exact HE.out | with_reducible refine blk_drew ?_ | with_reducible refine blk_drewN ?_ _ | with_reducible refine block_set_ne ?_ (by assumption) _ _ | with_reducible refine block_alloc_lt ?_ _)) hx) ?_; rintro e w9 ⟨rfl, k9⟩; have t9 : w9.heap[t]? = some (.cells tc.cells 103 (0, 0)) := k9.at (by repeat (first | with_reducible exact H.out | with_reducible refine blk_drew ?_ | with_reducible refine blk_drewN ?_ _ | with_reducible refine block_set_ne ?_ (by assumption) _ _ | with_reducible refine block_alloc_lt ?_ _)) (by simp); have c96 : w9.cell? ⟨t, 6, none⟩ = some (Value.pointer (some ⟨g, 0, none⟩)) := (cell_of t9 6).trans (by simp [Tc.cells, HEE.out]); have c97 : w9.cell? ⟨t, 7, none⟩ = some (Value.int IntKind.i64 tc.sst) := cell_of t9 7; have c98 : w9.cell? ⟨t, 8, none⟩ = some (Value.int IntKind.i64 tc.sv) := cell_of t9 8))
  clear hc
  go_wp2_with fail
  refine Calls.mono (g_goOn tc t (.func 70) #[.pointer (some ⟨t, 0, none⟩)] #[] _ (k9.at (by repeat (first | with_reducible exact H.out | with_reducible refine blk_drew ?_ | with_reducible refine blk_drewN ?_ _ | with_reducible refine block_set_ne ?_ (by assumption) _ _ | with_reducible refine block_alloc_lt ?_ _)) (by simp))) ?_
  rintro e wz ⟨rfl, hz, kz⟩
  have rz : wz.heap[w.heap.size]? = some (.cells #[.bool false, .bool false, .int .i64 0] 30 (0, 0)) := kz.at (k9.at (by repeat (first | with_reducible exact block_alloc_new _ _ | with_reducible refine blk_drew ?_ | with_reducible refine blk_drewN ?_ _ | with_reducible refine block_set_ne ?_ (by assumption) _ _ | with_reducible exact newBox (by with_reducible first | exact rfl | exact size_setP _ _ _ | exact (size_setP _ _ _).trans (size_setP _ _ _) | exact (size_setP _ _ _).trans ((size_setP _ _ _).trans (size_setP _ _ _))) _ | with_reducible refine block_alloc_lt ?_ _)) (by simp)) (by simp <;> omega)
  have KZ : Hid (Kept [t] w wz) := Kept.drop (Kept.trans (by repeat (first | with_reducible exact Kept.refl _ _ | with_reducible refine Kept.drew ?_ | with_reducible refine Kept.drewN ?_ _ | with_reducible refine Kept.alloc ?_ _ | with_reducible refine Kept.setAt ?_ (.inl mem0) _ _ | with_reducible refine Kept.setAt ?_ (.inl mem1) _ _ | with_reducible refine Kept.setAt ?_ (.inl mem2) _ _ | with_reducible refine Kept.setAt ?_ (.inr (Nat.le_refl _)) _ _)) (k9.mono (by simp))) kz (by simp)
  have hcz : ∀ o, wz.cell? ⟨w.heap.size, o, none⟩ = #[.bool false, .bool false, .int .i64 0][o]? := cell_of rz
  have hfz : ∀ o, wz.frozen? ⟨w.heap.size, o, none⟩ = false := frozen_of rz
  clear kz
  simp only [ans]
  go_wp2
  refine bodyPost_ret (v := ans false false 0 0) (by simp [results, Try.results81, go_sem, ans, cell_of (resLaidP rz false false 0)]) rfl ⟨rfl, blk_res hz (by omega) _ _ _, KZ.out.res (Nat.le_refl _) _ _ _⟩
set_option maxRecDepth 100000 in
set_option maxHeartbeats 1600000 in
theorem p_d9_yes (tc : Tc) (t : Nat) (g : Nat) (x y : Int) (w : World) (h : w.heap[t]? = some (.cells tc.cells 103 (0, 0))) (hE : w.heap[g]? = some (.cells #[.int .i64 x, .int .i64 y] 124 (0, 0))) (he : tc.e = some ⟨g, 0, none⟩) (hx : x = tc.sst) (hy : y = tc.sv) :
    Calls Try.prog 81 #[.pointer (some ⟨t, 0, none⟩)] w fun e w' => e = .returned (ans true true tc.sv 0) ∧ w'.heap[t]? = some (.cells tc.idle.cells 103 (0, 0)) ∧ w'.heap[g]? = some (.cells #[.int .i64 1, .int .i64 0] 124 (0, 0)) ∧ Kept [t, g] w w' := by
  have hs := lt_of_block h
  have hnt : t ≠ w.heap.size := Nat.ne_of_lt hs
  have hnt' : w.heap.size ≠ t := Ne.symm hnt
  have hc : ∀ o, w.cell? ⟨t, o, none⟩ = tc.cells[o]? := cell_of h
  simp only [Tc.cells] at hc
  have hg := lt_of_block hE
  have hgt : g ≠ t := ne_of_blocks hE h (by simp)
  have hgt' : t ≠ g := Ne.symm hgt
  have hgn : g ≠ w.heap.size := Nat.ne_of_lt hg
  have hgn' : w.heap.size ≠ g := Ne.symm hgn
  simp only [he] at hc
  have H : Hid _ := h
  have HE : Hid _ := hE
  have HEE : Hid _ := he
  clear h hE he
  subst hx hy
  go_enter Try.func81, Try.ntmps81
  go_wp2_with fail
  go_region_held3 (fun w' => w'.cell? ⟨t, 6, none⟩ = some (Value.pointer (some ⟨g, 0, none⟩)) ∧ w'.cell? ⟨t, 7, none⟩ = some (Value.int IntKind.i64 tc.sst) ∧ w'.cell? ⟨t, 8, none⟩ = some (Value.int IntKind.i64 tc.sv)) (first | exact ⟨c96, c97, c98⟩ | (refine ⟨?_, ?_, ?_⟩ <;> go_simp)) (first | (go_at_call 78; refine Calls.mono (g_setIfC_yes g tc.sst tc.sv 1 0 _ (by repeat (first | with_reducible exact HE.out | with_reducible refine blk_drew ?_ | with_reducible refine blk_drewN ?_ _ | with_reducible refine block_set_ne ?_ (by assumption) _ _ | with_reducible refine block_alloc_lt ?_ _))) ?_; rintro e w9 ⟨rfl, e9, k9⟩; have t9 : w9.heap[t]? = some (.cells tc.cells 103 (0, 0)) := k9.at (by repeat (first | with_reducible exact H.out | with_reducible refine blk_drew ?_ | with_reducible refine blk_drewN ?_ _ | with_reducible refine block_set_ne ?_ (by assumption) _ _ | with_reducible refine block_alloc_lt ?_ _)) (by simp <;> omega); have c96 : w9.cell? ⟨t, 6, none⟩ = some (Value.pointer (some ⟨g, 0, none⟩)) := (cell_of t9 6).trans (by simp [Tc.cells, HEE.out]); have c97 : w9.cell? ⟨t, 7, none⟩ = some (Value.int IntKind.i64 tc.sst) := cell_of t9 7; have c98 : w9.cell? ⟨t, 8, none⟩ = some (Value.int IntKind.i64 tc.sv) := cell_of t9 8))
  clear hc
  go_wp2_with fail
  refine Calls.mono (g_doneWith tc t tc.sv _ (by repeat (first | with_reducible exact t9 | with_reducible refine blk_drew ?_ | with_reducible refine blk_drewN ?_ _ | with_reducible refine block_set_ne ?_ (by assumption) _ _ | with_reducible refine block_alloc_lt ?_ _))) ?_
  rintro e wz ⟨rfl, hz, kz⟩
  have rz : wz.heap[w.heap.size]? = some (.cells #[.bool false, .bool false, .int .i64 0] 30 (0, 0)) := kz.at (k9.at (by repeat (first | with_reducible exact block_alloc_new _ _ | with_reducible refine blk_drew ?_ | with_reducible refine blk_drewN ?_ _ | with_reducible refine block_set_ne ?_ (by assumption) _ _ | with_reducible exact newBox (by with_reducible first | exact rfl | exact size_setP _ _ _ | exact (size_setP _ _ _).trans (size_setP _ _ _) | exact (size_setP _ _ _).trans ((size_setP _ _ _).trans (size_setP _ _ _))) _ | with_reducible refine block_alloc_lt ?_ _)) (by simp <;> omega)) (by simp <;> omega)
  have sz0 : wz.heap[g]? = some (.cells #[.int .i64 1, .int .i64 0] 124 (0, 0)) := kz.at (by repeat (first | with_reducible exact e9 | with_reducible refine blk_drew ?_ | with_reducible refine blk_drewN ?_ _ | with_reducible refine block_set_ne ?_ (by assumption) _ _ | with_reducible refine block_alloc_lt ?_ _)) (by simp <;> omega)
  have KZ : Hid (Kept [t, g] w wz) := Kept.drop (Kept.trans (by repeat (first | with_reducible exact Kept.refl _ _ | with_reducible refine Kept.drew ?_ | with_reducible refine Kept.drewN ?_ _ | with_reducible refine Kept.alloc ?_ _ | with_reducible refine Kept.setAt ?_ (.inl mem0) _ _ | with_reducible refine Kept.setAt ?_ (.inl mem1) _ _ | with_reducible refine Kept.setAt ?_ (.inl mem2) _ _ | with_reducible refine Kept.setAt ?_ (.inr (Nat.le_refl _)) _ _)) (k9.mono (by simp))) kz (by simp)
  have hcz : ∀ o, wz.cell? ⟨w.heap.size, o, none⟩ = #[.bool false, .bool false, .int .i64 0][o]? := cell_of rz
  have hfz : ∀ o, wz.frozen? ⟨w.heap.size, o, none⟩ = false := frozen_of rz
  clear kz
  simp only [ans]
  go_wp2
  refine bodyPost_ret (v := ans true true tc.sv 0) (by simp [results, Try.results81, go_sem, ans, cell_of (resLaidP rz true true tc.sv)]) rfl ⟨rfl, blk_res hz (by omega) _ _ _, blk_res sz0 (by omega) _ _ _, KZ.out.res (Nat.le_refl _) _ _ _⟩
set_option maxRecDepth 100000 in
set_option maxHeartbeats 1600000 in
theorem p_r9_no (tc : Tc) (t : Nat) (g : Nat) (x y : Int) (w : World) (h : w.heap[t]? = some (.cells tc.cells 103 (0, 0))) (hE : w.heap[g]? = some (.cells #[.int .i64 x, .int .i64 y] 124 (0, 0))) (he : tc.e = some ⟨g, 0, none⟩) (hx : ¬ (x = 0 ∧ y = tc.old)) :
    Calls Try.prog 82 #[.pointer (some ⟨t, 0, none⟩)] w fun e w' => e = .returned (ans false false 0 0) ∧ w'.heap[t]? = some (.cells { tc with nx := .func (.func 71) #[.pointer (some ⟨t, 0, none⟩)] #[] }.cells 103 (0, 0)) ∧ Kept [t] w w' := by
  have hs := lt_of_block h
  have hnt : t ≠ w.heap.size := Nat.ne_of_lt hs
  have hnt' : w.heap.size ≠ t := Ne.symm hnt
  have hc : ∀ o, w.cell? ⟨t, o, none⟩ = tc.cells[o]? := cell_of h
  simp only [Tc.cells] at hc
  have hg := lt_of_block hE
  have hgt : g ≠ t := ne_of_blocks hE h (by simp)
  have hgt' : t ≠ g := Ne.symm hgt
  have hgn : g ≠ w.heap.size := Nat.ne_of_lt hg
  have hgn' : w.heap.size ≠ g := Ne.symm hgn
  simp only [he] at hc
  have H : Hid _ := h
  have HE : Hid _ := hE
  have HEE : Hid _ := he
  clear h hE he
  go_enter Try.func82, Try.ntmps82
  go_wp2_with fail
  have hs1 : t < w.heap.size + 1 := by omega
  have hs3 : t < w.heap.size + 1 + 1 := by omega
  have hs4 : t < w.heap.size + 1 + 1 + 1 := by omega
  have hs5 : t < w.heap.size + 2 := by omega
  have hs6 : t < w.heap.size + 3 := by omega
  go_region_held3 (fun w' => w'.cell? ⟨t, 6, none⟩ = some (Value.pointer (some ⟨g, 0, none⟩)) ∧ w'.cell? ⟨t, 5, none⟩ = some (Value.int IntKind.i64 tc.old) ∧ w'.cell? ⟨t, 4, none⟩ = some (Value.int IntKind.i64 tc.val)) (first | exact ⟨c96, c95, c94⟩ | (refine ⟨?_, ?_, ?_⟩ <;> go_simp)) (first | (go_at_call 79; refine (g_having tc.old _).mono ?_; rintro e w' ⟨rfl, rfl⟩) | (go_at_call 79; refine (g_having tc.val _).mono ?_; rintro e w' ⟨rfl, rfl⟩) | (go_at_call 78; refine Calls.mono (g_setIfC_no g x y 0 tc.old 0 tc.val _ (by repeat (first | with_reducible exact HE.out | with_reducible refine blk_drew ?_ | with_reducible refine blk_drewN ?_ _ | with_reducible refine block_set_ne ?_ (by assumption) _ _ | with_reducible refine block_alloc_lt ?_ _)) hx) ?_; rintro e w9 ⟨rfl, k9⟩; have t9 : w9.heap[t]? = some (.cells tc.cells 103 (0, 0)) := k9.at (by repeat (first | with_reducible exact H.out | with_reducible refine blk_drew ?_ | with_reducible refine blk_drewN ?_ _ | with_reducible refine block_set_ne ?_ (by assumption) _ _ | with_reducible refine block_alloc_lt ?_ _)) (by simp); have c96 : w9.cell? ⟨t, 6, none⟩ = some (Value.pointer (some ⟨g, 0, none⟩)) := (cell_of t9 6).trans (by simp [Tc.cells, HEE.out]); have c95 : w9.cell? ⟨t, 5, none⟩ = some (Value.int IntKind.i64 tc.old) := cell_of t9 5; have c94 : w9.cell? ⟨t, 4, none⟩ = some (Value.int IntKind.i64 tc.val) := cell_of t9 4))
  clear hc
  go_wp2_with fail
  refine Calls.mono (g_goOn tc t (.func 71) #[.pointer (some ⟨t, 0, none⟩)] #[] _ (k9.at (by repeat (first | with_reducible exact H.out | with_reducible refine blk_drew ?_ | with_reducible refine blk_drewN ?_ _ | with_reducible refine block_set_ne ?_ (by assumption) _ _ | with_reducible refine block_alloc_lt ?_ _)) (by simp))) ?_
  rintro e wz ⟨rfl, hz, kz⟩
  have rz : wz.heap[w.heap.size]? = some (.cells #[.bool false, .bool false, .int .i64 0] 30 (0, 0)) := kz.at (k9.at (by repeat (first | with_reducible exact block_alloc_new _ _ | with_reducible refine blk_drew ?_ | with_reducible refine blk_drewN ?_ _ | with_reducible refine block_set_ne ?_ (by assumption) _ _ | with_reducible exact newBox (by with_reducible first | exact rfl | exact size_setP _ _ _ | exact (size_setP _ _ _).trans (size_setP _ _ _) | exact (size_setP _ _ _).trans ((size_setP _ _ _).trans (size_setP _ _ _))) _ | with_reducible refine block_alloc_lt ?_ _)) (by simp)) (by simp <;> omega)
  have KZ : Hid (Kept [t] w wz) := Kept.drop (Kept.trans (by repeat (first | with_reducible exact Kept.refl _ _ | with_reducible refine Kept.drew ?_ | with_reducible refine Kept.drewN ?_ _ | with_reducible refine Kept.alloc ?_ _ | with_reducible refine Kept.setAt ?_ (.inl mem0) _ _ | with_reducible refine Kept.setAt ?_ (.inl mem1) _ _ | with_reducible refine Kept.setAt ?_ (.inl mem2) _ _ | with_reducible refine Kept.setAt ?_ (.inr (Nat.le_refl _)) _ _)) (k9.mono (by simp))) kz (by simp)
  have hcz : ∀ o, wz.cell? ⟨w.heap.size, o, none⟩ = #[.bool false, .bool false, .int .i64 0][o]? := cell_of rz
  have hfz : ∀ o, wz.frozen? ⟨w.heap.size, o, none⟩ = false := frozen_of rz
  clear kz
  simp only [ans]
  go_wp2
  refine bodyPost_ret (v := ans false false 0 0) (by simp [results, Try.results82, go_sem, ans, cell_of (resLaidP rz false false 0)]) rfl ⟨rfl, blk_res hz (by omega) _ _ _, KZ.out.res (Nat.le_refl _) _ _ _⟩
set_option maxRecDepth 100000 in
set_option maxHeartbeats 1600000 in
theorem p_r9_yes (tc : Tc) (t : Nat) (g : Nat) (x y : Int) (w : World) (h : w.heap[t]? = some (.cells tc.cells 103 (0, 0))) (hE : w.heap[g]? = some (.cells #[.int .i64 x, .int .i64 y] 124 (0, 0))) (he : tc.e = some ⟨g, 0, none⟩) (hx : x = 0) (hy : y = tc.old) :
    Calls Try.prog 82 #[.pointer (some ⟨t, 0, none⟩)] w fun e w' => e = .returned (ans true true tc.old 0) ∧ w'.heap[t]? = some (.cells tc.idle.cells 103 (0, 0)) ∧ w'.heap[g]? = some (.cells #[.int .i64 0, .int .i64 tc.val] 124 (0, 0)) ∧ Kept [t, g] w w' := by
  have hs := lt_of_block h
  have hnt : t ≠ w.heap.size := Nat.ne_of_lt hs
  have hnt' : w.heap.size ≠ t := Ne.symm hnt
  have hc : ∀ o, w.cell? ⟨t, o, none⟩ = tc.cells[o]? := cell_of h
  simp only [Tc.cells] at hc
  have hg := lt_of_block hE
  have hgt : g ≠ t := ne_of_blocks hE h (by simp)
  have hgt' : t ≠ g := Ne.symm hgt
  have hgn : g ≠ w.heap.size := Nat.ne_of_lt hg
  have hgn' : w.heap.size ≠ g := Ne.symm hgn
  simp only [he] at hc
  have H : Hid _ := h
  have HE : Hid _ := hE
  have HEE : Hid _ := he
  clear h hE he
  subst hx hy
  go_enter Try.func82, Try.ntmps82
  go_wp2_with fail
  have hs1 : t < w.heap.size + 1 := by omega
  have hs3 : t < w.heap.size + 1 + 1 := by omega
  have hs4 : t < w.heap.size + 1 + 1 + 1 := by omega
  have hs5 : t < w.heap.size + 2 := by omega
  have hs6 : t < w.heap.size + 3 := by omega
  go_region_held3 (fun w' => w'.cell? ⟨t, 6, none⟩ = some (Value.pointer (some ⟨g, 0, none⟩)) ∧ w'.cell? ⟨t, 5, none⟩ = some (Value.int IntKind.i64 tc.old) ∧ w'.cell? ⟨t, 4, none⟩ = some (Value.int IntKind.i64 tc.val)) (first | exact ⟨c96, c95, c94⟩ | (refine ⟨?_, ?_, ?_⟩ <;> go_simp)) (first | (go_at_call 79; refine (g_having tc.old _).mono ?_; rintro e w' ⟨rfl, rfl⟩) | (go_at_call 79; refine (g_having tc.val _).mono ?_; rintro e w' ⟨rfl, rfl⟩) | (go_at_call 78; refine Calls.mono (g_setIfC_yes g 0 tc.old 0 tc.val _ (by repeat (first | with_reducible exact HE.out | with_reducible refine blk_drew ?_ | with_reducible refine blk_drewN ?_ _ | with_reducible refine block_set_ne ?_ (by assumption) _ _ | with_reducible refine block_alloc_lt ?_ _))) ?_; rintro e w9 ⟨rfl, e9, k9⟩; have t9 : w9.heap[t]? = some (.cells tc.cells 103 (0, 0)) := k9.at (by repeat (first | with_reducible exact H.out | with_reducible refine blk_drew ?_ | with_reducible refine blk_drewN ?_ _ | with_reducible refine block_set_ne ?_ (by assumption) _ _ | with_reducible refine block_alloc_lt ?_ _)) (by simp <;> omega); have c96 : w9.cell? ⟨t, 6, none⟩ = some (Value.pointer (some ⟨g, 0, none⟩)) := (cell_of t9 6).trans (by simp [Tc.cells, HEE.out]); have c95 : w9.cell? ⟨t, 5, none⟩ = some (Value.int IntKind.i64 tc.old) := cell_of t9 5; have c94 : w9.cell? ⟨t, 4, none⟩ = some (Value.int IntKind.i64 tc.val) := cell_of t9 4))
  clear hc
  go_wp2_with fail
  refine Calls.mono (g_doneWith tc t tc.old _ (by repeat (first | with_reducible exact t9 | with_reducible refine blk_drew ?_ | with_reducible refine blk_drewN ?_ _ | with_reducible refine block_set_ne ?_ (by assumption) _ _ | with_reducible refine block_alloc_lt ?_ _))) ?_
  rintro e wz ⟨rfl, hz, kz⟩
  have rz : wz.heap[w.heap.size]? = some (.cells #[.bool false, .bool false, .int .i64 0] 30 (0, 0)) := kz.at (k9.at (by repeat (first | with_reducible exact block_alloc_new _ _ | with_reducible refine blk_drew ?_ | with_reducible refine blk_drewN ?_ _ | with_reducible refine block_set_ne ?_ (by assumption) _ _ | with_reducible exact newBox (by with_reducible first | exact rfl | exact size_setP _ _ _ | exact (size_setP _ _ _).trans (size_setP _ _ _) | exact (size_setP _ _ _).trans ((size_setP _ _ _).trans (size_setP _ _ _))) _ | with_reducible refine block_alloc_lt ?_ _)) (by simp <;> omega)) (by simp <;> omega)
  have sz0 : wz.heap[g]? = some (.cells #[.int .i64 0, .int .i64 tc.val] 124 (0, 0)) := kz.at (by repeat (first | with_reducible exact e9 | with_reducible refine blk_drew ?_ | with_reducible refine blk_drewN ?_ _ | with_reducible refine block_set_ne ?_ (by assumption) _ _ | with_reducible refine block_alloc_lt ?_ _)) (by simp <;> omega)
  have KZ : Hid (Kept [t, g] w wz) := Kept.drop (Kept.trans (by repeat (first | with_reducible exact Kept.refl _ _ | with_reducible refine Kept.drew ?_ | with_reducible refine Kept.drewN ?_ _ | with_reducible refine Kept.alloc ?_ _ | with_reducible refine Kept.setAt ?_ (.inl mem0) _ _ | with_reducible refine Kept.setAt ?_ (.inl mem1) _ _ | with_reducible refine Kept.setAt ?_ (.inl mem2) _ _ | with_reducible refine Kept.setAt ?_ (.inr (Nat.le_refl _)) _ _)) (k9.mono (by simp))) kz (by simp)
  have hcz : ∀ o, wz.cell? ⟨w.heap.size, o, none⟩ = #[.bool false, .bool false, .int .i64 0][o]? := cell_of rz
  have hfz : ∀ o, wz.frozen? ⟨w.heap.size, o, none⟩ = false := frozen_of rz
  clear kz
  simp only [ans]
  go_wp2
  refine bodyPost_ret (v := ans true true tc.old 0) (by simp [results, Try.results82, go_sem, ans, cell_of (resLaidP rz true true tc.old)]) rfl ⟨rfl, blk_res hz (by omega) _ _ _, blk_res sz0 (by omega) _ _ _, KZ.out.res (Nat.le_refl _) _ _ _⟩
set_option maxRecDepth 100000 in
set_option maxHeartbeats 1600000 in
theorem p_r8_on (tc : Tc) (t : Nat) (g : Nat) (x y : Int) (w : World) (h : w.heap[t]? = some (.cells tc.cells 103 (0, 0))) (hE : w.heap[g]? = some (.cells #[.int .i64 x, .int .i64 y] 124 (0, 0))) (he : tc.e = some ⟨g, 0, none⟩) (hx : x = 0) (hy : y = tc.old) :
    Calls Try.prog 71 #[.pointer (some ⟨t, 0, none⟩)] w fun e w' => e = .returned (ans false false 0 0) ∧ w'.heap[t]? = some (.cells { tc with nx := .func (.func 82) #[.pointer (some ⟨t, 0, none⟩)] #[] }.cells 103 (0, 0)) ∧ Kept [t] w w' := by
  have hs := lt_of_block h
  have hnt : t ≠ w.heap.size := Nat.ne_of_lt hs
  have hnt' : w.heap.size ≠ t := Ne.symm hnt
  have hc : ∀ o, w.cell? ⟨t, o, none⟩ = tc.cells[o]? := cell_of h
  simp only [Tc.cells] at hc
  have hg := lt_of_block hE
  have hgt : g ≠ t := ne_of_blocks hE h (by simp)
  have hgt' : t ≠ g := Ne.symm hgt
  have hgn : g ≠ w.heap.size := Nat.ne_of_lt hg
  have hgn' : w.heap.size ≠ g := Ne.symm hgn
  simp only [he] at hc
  have H : Hid _ := h
  have HE : Hid _ := hE
  have HEE : Hid _ := he
  clear h hE he
  have hq := neq113Yes hx hy
  go_enter Try.func71, Try.ntmps71
  go_wp2_with fail
  have hs1 : t < w.heap.size + 1 := by omega
  have hs3 : t < w.heap.size + 1 + 1 := by omega
  have hs4 : t < w.heap.size + 1 + 1 + 1 := by omega
  have hs5 : t < w.heap.size + 2 := by omega
  have hs6 : t < w.heap.size + 3 := by omega
  go_region_held3 (fun w' => w'.cell? ⟨t, 6, none⟩ = some (Value.pointer (some ⟨g, 0, none⟩)) ∧ w'.cell? ⟨t, 5, none⟩ = some (Value.int IntKind.i64 tc.old)) (first | (refine ⟨?_, ?_⟩ <;> go_simp)) (first | (go_at_call 79; refine (g_having tc.old _).mono ?_; rintro e w' ⟨rfl, rfl⟩) | (go_at_call 53; refine Calls.mono (g_lookC g x y _ (by repeat (first | with_reducible exact HE.out | with_reducible refine blk_drew ?_ | with_reducible refine blk_drewN ?_ _ | with_reducible refine block_set_ne ?_ (by assumption) _ _ | with_reducible refine block_alloc_lt ?_ _))) ?_; rintro e w9 ⟨rfl, rfl⟩))
  clear hc
  go_wp2_with fail
  refine Calls.mono (g_goOn tc t (.func 82) #[.pointer (some ⟨t, 0, none⟩)] #[] _ (by repeat (first | with_reducible exact H.out | with_reducible refine blk_drew ?_ | with_reducible refine blk_drewN ?_ _ | with_reducible refine block_set_ne ?_ (by assumption) _ _ | with_reducible refine block_alloc_lt ?_ _))) ?_
  rintro e wz ⟨rfl, hz, kz⟩
  have rz : wz.heap[w.heap.size]? = some (.cells #[.bool false, .bool false, .int .i64 0] 30 (0, 0)) := kz.at (by repeat (first | with_reducible exact block_alloc_new _ _ | with_reducible refine blk_drew ?_ | with_reducible refine blk_drewN ?_ _ | with_reducible refine block_set_ne ?_ (by assumption) _ _ | with_reducible exact newBox (by with_reducible first | exact rfl | exact size_setP _ _ _ | exact (size_setP _ _ _).trans (size_setP _ _ _) | exact (size_setP _ _ _).trans ((size_setP _ _ _).trans (size_setP _ _ _))) _ | with_reducible refine block_alloc_lt ?_ _)) (by simp <;> omega)
  have KZ : Hid (Kept [t] w wz) := Kept.drop (by repeat (first | with_reducible exact Kept.refl _ _ | with_reducible refine Kept.drew ?_ | with_reducible refine Kept.drewN ?_ _ | with_reducible refine Kept.alloc ?_ _ | with_reducible refine Kept.setAt ?_ (.inl mem0) _ _ | with_reducible refine Kept.setAt ?_ (.inl mem1) _ _ | with_reducible refine Kept.setAt ?_ (.inl mem2) _ _ | with_reducible refine Kept.setAt ?_ (.inr (Nat.le_refl _)) _ _)) kz (by simp)
  have hcz : ∀ o, wz.cell? ⟨w.heap.size, o, none⟩ = #[.bool false, .bool false, .int .i64 0][o]? := cell_of rz
  have hfz : ∀ o, wz.frozen? ⟨w.heap.size, o, none⟩ = false := frozen_of rz
  clear kz
  simp only [ans]
  go_wp2
  refine bodyPost_ret (v := ans false false 0 0) (by simp [results, Try.results71, go_sem, ans, cell_of (resLaidP rz false false 0)]) rfl ⟨rfl, blk_res hz (by omega) _ _ _, KZ.out.res (Nat.le_refl _) _ _ _⟩
set_option maxRecDepth 100000 in
set_option maxHeartbeats 1600000 in
theorem p_r8_none (tc : Tc) (t : Nat) (g : Nat) (x y : Int) (w : World) (h : w.heap[t]? = some (.cells tc.cells 103 (0, 0))) (hE : w.heap[g]? = some (.cells #[.int .i64 x, .int .i64 y] 124 (0, 0))) (he : tc.e = some ⟨g, 0, none⟩) (hx : ¬ (x = 0 ∧ y = tc.old)) :
    Calls Try.prog 71 #[.pointer (some ⟨t, 0, none⟩)] w fun e w' => e = .returned (ans true false 0 0) ∧ w'.heap[t]? = some (.cells tc.idle.cells 103 (0, 0)) ∧ Kept [t] w w' := by
  have hs := lt_of_block h
  have hnt : t ≠ w.heap.size := Nat.ne_of_lt hs
  have hnt' : w.heap.size ≠ t := Ne.symm hnt
  have hc : ∀ o, w.cell? ⟨t, o, none⟩ = tc.cells[o]? := cell_of h
  simp only [Tc.cells] at hc
  have hg := lt_of_block hE
  have hgt : g ≠ t := ne_of_blocks hE h (by simp)
  have hgt' : t ≠ g := Ne.symm hgt
  have hgn : g ≠ w.heap.size := Nat.ne_of_lt hg
  have hgn' : w.heap.size ≠ g := Ne.symm hgn
  simp only [he] at hc
  have H : Hid _ := h
  have HE : Hid _ := hE
  have HEE : Hid _ := he
  clear h hE he
  have hq := neq113No hx
  go_enter Try.func71, Try.ntmps71
  go_wp2_with fail
  have hs1 : t < w.heap.size + 1 := by omega
  have hs3 : t < w.heap.size + 1 + 1 := by omega
  have hs4 : t < w.heap.size + 1 + 1 + 1 := by omega
  have hs5 : t < w.heap.size + 2 := by omega
  have hs6 : t < w.heap.size + 3 := by omega
  go_region_held3 (fun w' => w'.cell? ⟨t, 6, none⟩ = some (Value.pointer (some ⟨g, 0, none⟩)) ∧ w'.cell? ⟨t, 5, none⟩ = some (Value.int IntKind.i64 tc.old)) (first | (refine ⟨?_, ?_⟩ <;> go_simp)) (first | (go_at_call 79; refine (g_having tc.old _).mono ?_; rintro e w' ⟨rfl, rfl⟩) | (go_at_call 53; refine Calls.mono (g_lookC g x y _ (by repeat (first | with_reducible exact HE.out | with_reducible refine blk_drew ?_ | with_reducible refine blk_drewN ?_ _ | with_reducible refine block_set_ne ?_ (by assumption) _ _ | with_reducible refine block_alloc_lt ?_ _))) ?_; rintro e w9 ⟨rfl, rfl⟩))
  clear hc
  go_wp2_with fail
  refine Calls.mono (g_doneNothing tc t _ (by repeat (first | with_reducible exact H.out | with_reducible refine blk_drew ?_ | with_reducible refine blk_drewN ?_ _ | with_reducible refine block_set_ne ?_ (by assumption) _ _ | with_reducible refine block_alloc_lt ?_ _))) ?_
  rintro e wz ⟨rfl, hz, kz⟩
  have rz : wz.heap[w.heap.size]? = some (.cells #[.bool false, .bool false, .int .i64 0] 30 (0, 0)) := kz.at (by repeat (first | with_reducible exact block_alloc_new _ _ | with_reducible refine blk_drew ?_ | with_reducible refine blk_drewN ?_ _ | with_reducible refine block_set_ne ?_ (by assumption) _ _ | with_reducible exact newBox (by with_reducible first | exact rfl | exact size_setP _ _ _ | exact (size_setP _ _ _).trans (size_setP _ _ _) | exact (size_setP _ _ _).trans ((size_setP _ _ _).trans (size_setP _ _ _))) _ | with_reducible refine block_alloc_lt ?_ _)) (by simp <;> omega)
  have KZ : Hid (Kept [t] w wz) := Kept.drop (by repeat (first | with_reducible exact Kept.refl _ _ | with_reducible refine Kept.drew ?_ | with_reducible refine Kept.drewN ?_ _ | with_reducible refine Kept.alloc ?_ _ | with_reducible refine Kept.setAt ?_ (.inl mem0) _ _ | with_reducible refine Kept.setAt ?_ (.inl mem1) _ _ | with_reducible refine Kept.setAt ?_ (.inl mem2) _ _ | with_reducible refine Kept.setAt ?_ (.inr (Nat.le_refl _)) _ _)) kz (by simp)
  have hcz : ∀ o, wz.cell? ⟨w.heap.size, o, none⟩ = #[.bool false, .bool false, .int .i64 0][o]? := cell_of rz
  have hfz : ∀ o, wz.frozen? ⟨w.heap.size, o, none⟩ = false := frozen_of rz
  clear kz
  simp only [ans]
  go_wp2
  refine bodyPost_ret (v := ans true false 0 0) (by simp [results, Try.results71, go_sem, ans, cell_of (resLaidP rz true false 0)]) rfl ⟨rfl, blk_res hz (by omega) _ _ _, KZ.out.res (Nat.le_refl _) _ _ _⟩
end Go.Proofs.Ytmnkphenobfbfaa
