import Derived.Test.YtfgfpggjcfhccaaGreatPd
namespace Go.Proofs.YtfgfpggjcfhccaaGreat
open Go.RowKit
theorem idx_pI (f : Nat → Option Addr) (x : Int) (h0 : 0 ≤ x) (h7 : x < 8) (w : World) : Sem.run Tryz.prog (Instr.index 99 (Value.agg #[Value.pointer (f 0), .pointer (f 1), .pointer (f 2), .pointer (f 3), .pointer (f 4), .pointer (f 5), .pointer (f 6), .pointer (f 7)]) (Value.int IntKind.i64 x)) w = .ok (.pointer (f x.toNat)) w := by
  obtain ⟨k, rfl⟩ := Int.eq_ofNat_of_zero_le h0
  exact idx_p f k (by omega) w
theorem fld101 (f : Nat → Option Addr) (b : Bool) (w : World) : Sem.run Tryz.prog (Instr.field 101 (Value.agg #[Value.pointer (f 0), .pointer (f 1), .pointer (f 2), .pointer (f 3), .pointer (f 4), .pointer (f 5), .pointer (f 6), .pointer (f 7), .bool b]) 0) w = .ok (.agg #[Value.pointer (f 0), .pointer (f 1), .pointer (f 2), .pointer (f 3), .pointer (f 4), .pointer (f 5), .pointer (f 6), .pointer (f 7)]) w := by kernel_rfl
theorem fld105 (f : Nat → Option Addr) (b : Bool) (w : World) : Sem.run Tryz.prog (Instr.field 105 (Value.agg #[Value.pointer (f 0), .pointer (f 1), .pointer (f 2), .pointer (f 3), .pointer (f 4), .pointer (f 5), .pointer (f 6), .pointer (f 7), .bool b]) 0) w = .ok (.agg #[Value.pointer (f 0), .pointer (f 1), .pointer (f 2), .pointer (f 3), .pointer (f 4), .pointer (f 5), .pointer (f 6), .pointer (f 7)]) w := by kernel_rfl
set_option maxRecDepth 100000 in
set_option maxHeartbeats 1600000 in
theorem p_s1_no (tc : Tc) (sh : Sh) (t : Nat) (w : World) (h : w.heap[t]? = some (.cells tc.cells 116 (0, 0))) (hS : w.heap[tc.s]? = some (.cells sh.cells 111 (0, 0))) (hk0 : 0 ≤ tc.key) (hk7 : tc.key < 8) (hR : sh.R tc.key.toNat = none) :
    Calls Tryz.prog 69 #[.pointer (some ⟨t, 0, none⟩)] w fun e w' => e = .returned (ans false false 0 0) ∧ w'.heap[t]? = some (.cells { tc with e := none, nx := .func (.func 83) #[.pointer (some ⟨t, 0, none⟩)] #[] }.cells 116 (0, 0)) ∧ Kept [t] w w' := by
  have hs := lt_of_block h
  have hs2 := lt_of_block hS
  have hne : t ≠ tc.s := ne_of_blocks h hS (by simp)
  have hne' : tc.s ≠ t := Ne.symm hne
  have hnt : t ≠ w.heap.size := Nat.ne_of_lt hs
  have hns : tc.s ≠ w.heap.size := Nat.ne_of_lt hs2
  have hnt' : w.heap.size ≠ t := Ne.symm hnt
  have hns' : w.heap.size ≠ tc.s := Ne.symm hns
  have hc : ∀ o, w.cell? ⟨t, o, none⟩ = tc.cells[o]? := cell_of h
  simp only [Tc.cells] at hc
  have hn := idx_pI sh.R tc.key hk0 hk7
  rw [hR] at hn
  have hf : ∀ o, w.frozen? ⟨t, o, none⟩ = false := frozen_of h
  have hfl := fld101 sh.R sh.am
  have H : Hid _ := h
  have HS : Hid _ := hS
  clear h hS hR
  go_enter Tryz.func69, Tryz.ntmps69
  go_wp2_with fail
  go_region_held3 (fun w' => w'.cell? ⟨t, 1, none⟩ = some (Value.pointer (some ⟨tc.s, 0, none⟩)) ∧ w'.cell? ⟨t, 3, none⟩ = some (Value.int IntKind.i64 tc.key)) ((refine ⟨?_, ?_⟩ <;> go_simp)) ((go_at_call 45; refine (g_lookRead sh tc.s _ (by repeat (first | with_reducible exact HS.out | with_reducible refine blk_drew ?_ | with_reducible refine blk_drewN ?_ _ | with_reducible refine block_set_ne ?_ (by assumption) _ _ | with_reducible refine block_alloc_lt ?_ _))).mono ?_; rintro e w' ⟨rfl, rfl⟩; simp only [tabCells]))
  clear hn hfl hf
  go_wp2_with fail
  refine Calls.mono (g_goOn { tc with e := none } t (.func 83) #[.pointer (some ⟨t, 0, none⟩)] #[] _ (by repeat (first | with_reducible refine blk_drew ?_ | with_reducible refine blk_drewN ?_ _ | with_reducible refine block_alloc_lt ?_ _ | exact (block_set_same H.out _ _).trans (by simp [Tc.cells])))) ?_
  rintro e wz ⟨rfl, hz, kz⟩
  have rz : wz.heap[w.heap.size]? = some (.cells #[.bool false, .bool false, .int .i64 0] 52 (0, 0)) := kz.at (by repeat (first | with_reducible exact block_alloc_new _ _ | with_reducible refine blk_drew ?_ | with_reducible refine blk_drewN ?_ _ | with_reducible refine block_set_ne ?_ (by assumption) _ _ | with_reducible exact newBox (by with_reducible first | exact rfl | exact size_setP _ _ _ | exact (size_setP _ _ _).trans (size_setP _ _ _) | exact (size_setP _ _ _).trans ((size_setP _ _ _).trans (size_setP _ _ _))) _ | with_reducible refine block_alloc_lt ?_ _)) (by simp; omega)
  have KZ : Hid (Kept [t] w wz) := Kept.drop (by repeat (first | with_reducible exact Kept.refl _ _ | with_reducible refine Kept.drew ?_ | with_reducible refine Kept.drewN ?_ _ | with_reducible refine Kept.alloc ?_ _ | with_reducible refine Kept.setAt ?_ (.inl mem0) _ _ | with_reducible refine Kept.setAt ?_ (.inl mem1) _ _ | with_reducible refine Kept.setAt ?_ (.inl mem2) _ _ | with_reducible refine Kept.setAt ?_ (.inr (Nat.le_refl _)) _ _)) kz (by simp)
  have hcz : ∀ o, wz.cell? ⟨w.heap.size, o, none⟩ = #[.bool false, .bool false, .int .i64 0][o]? := cell_of rz
  have hfz : ∀ o, wz.frozen? ⟨w.heap.size, o, none⟩ = false := frozen_of rz
  clear kz
  simp only [ans]
  go_wp2
  refine bodyPost_ret (v := ans false false 0 0) (by simp [results, Tryz.results69, go_sem, ans, cell_of (resLaidP rz false false 0)]) rfl ⟨rfl, blk_res hz (by omega) _ _ _, KZ.out.res (Nat.le_refl _) _ _ _⟩
set_option maxRecDepth 100000 in
set_option maxHeartbeats 1600000 in
theorem p_s1_in (tc : Tc) (sh : Sh) (t : Nat) (a : Addr) (w : World) (h : w.heap[t]? = some (.cells tc.cells 116 (0, 0))) (hS : w.heap[tc.s]? = some (.cells sh.cells 111 (0, 0))) (hk0 : 0 ≤ tc.key) (hk7 : tc.key < 8) (hR : sh.R tc.key.toNat = some a) :
    Calls Tryz.prog 69 #[.pointer (some ⟨t, 0, none⟩)] w fun e w' => e = .returned (ans false false 0 0) ∧ w'.heap[t]? = some (.cells { tc with e := some a, nx := .func (.func 84) #[.pointer (some ⟨t, 0, none⟩)] #[] }.cells 116 (0, 0)) ∧ Kept [t] w w' := by
  have hs := lt_of_block h
  have hs2 := lt_of_block hS
  have hne : t ≠ tc.s := ne_of_blocks h hS (by simp)
  have hne' : tc.s ≠ t := Ne.symm hne
  have hnt : t ≠ w.heap.size := Nat.ne_of_lt hs
  have hns : tc.s ≠ w.heap.size := Nat.ne_of_lt hs2
  have hnt' : w.heap.size ≠ t := Ne.symm hnt
  have hns' : w.heap.size ≠ tc.s := Ne.symm hns
  have hc : ∀ o, w.cell? ⟨t, o, none⟩ = tc.cells[o]? := cell_of h
  simp only [Tc.cells] at hc
  have hn := idx_pI sh.R tc.key hk0 hk7
  rw [hR] at hn
  have hf : ∀ o, w.frozen? ⟨t, o, none⟩ = false := frozen_of h
  have hfl := fld101 sh.R sh.am
  have H : Hid _ := h
  have HS : Hid _ := hS
  clear h hS hR
  go_enter Tryz.func69, Tryz.ntmps69
  go_wp2_with fail
  go_region_held3 (fun w' => w'.cell? ⟨t, 1, none⟩ = some (Value.pointer (some ⟨tc.s, 0, none⟩)) ∧ w'.cell? ⟨t, 3, none⟩ = some (Value.int IntKind.i64 tc.key)) ((refine ⟨?_, ?_⟩ <;> go_simp)) ((go_at_call 45; refine (g_lookRead sh tc.s _ (by repeat (first | with_reducible exact HS.out | with_reducible refine blk_drew ?_ | with_reducible refine blk_drewN ?_ _ | with_reducible refine block_set_ne ?_ (by assumption) _ _ | with_reducible refine block_alloc_lt ?_ _))).mono ?_; rintro e w' ⟨rfl, rfl⟩; simp only [tabCells]))
  clear hn hfl hf
  go_wp2_with fail
  refine Calls.mono (g_goOn { tc with e := some a } t (.func 84) #[.pointer (some ⟨t, 0, none⟩)] #[] _ (by repeat (first | with_reducible refine blk_drew ?_ | with_reducible refine blk_drewN ?_ _ | with_reducible refine block_alloc_lt ?_ _ | exact (block_set_same H.out _ _).trans (by simp [Tc.cells])))) ?_
  rintro e wz ⟨rfl, hz, kz⟩
  have rz : wz.heap[w.heap.size]? = some (.cells #[.bool false, .bool false, .int .i64 0] 52 (0, 0)) := kz.at (by repeat (first | with_reducible exact block_alloc_new _ _ | with_reducible refine blk_drew ?_ | with_reducible refine blk_drewN ?_ _ | with_reducible refine block_set_ne ?_ (by assumption) _ _ | with_reducible exact newBox (by with_reducible first | exact rfl | exact size_setP _ _ _ | exact (size_setP _ _ _).trans (size_setP _ _ _) | exact (size_setP _ _ _).trans ((size_setP _ _ _).trans (size_setP _ _ _))) _ | with_reducible refine block_alloc_lt ?_ _)) (by simp; omega)
  have KZ : Hid (Kept [t] w wz) := Kept.drop (by repeat (first | with_reducible exact Kept.refl _ _ | with_reducible refine Kept.drew ?_ | with_reducible refine Kept.drewN ?_ _ | with_reducible refine Kept.alloc ?_ _ | with_reducible refine Kept.setAt ?_ (.inl mem0) _ _ | with_reducible refine Kept.setAt ?_ (.inl mem1) _ _ | with_reducible refine Kept.setAt ?_ (.inl mem2) _ _ | with_reducible refine Kept.setAt ?_ (.inr (Nat.le_refl _)) _ _)) kz (by simp)
  have hcz : ∀ o, wz.cell? ⟨w.heap.size, o, none⟩ = #[.bool false, .bool false, .int .i64 0][o]? := cell_of rz
  have hfz : ∀ o, wz.frozen? ⟨w.heap.size, o, none⟩ = false := frozen_of rz
  clear kz
  simp only [ans]
  go_wp2
  refine bodyPost_ret (v := ans false false 0 0) (by simp [results, Tryz.results69, go_sem, ans, cell_of (resLaidP rz false false 0)]) rfl ⟨rfl, blk_res hz (by omega) _ _ _, KZ.out.res (Nat.le_refl _) _ _ _⟩
set_option maxRecDepth 100000 in
set_option maxHeartbeats 1600000 in
theorem p_s5_no (tc : Tc) (sh : Sh) (t : Nat) (w : World) (h : w.heap[t]? = some (.cells tc.cells 116 (0, 0))) (hS : w.heap[tc.s]? = some (.cells sh.cells 111 (0, 0))) (hk0 : 0 ≤ tc.key) (hk7 : tc.key < 8) (hR : sh.R tc.key.toNat = none) :
    Calls Tryz.prog 89 #[.pointer (some ⟨t, 0, none⟩)] w fun e w' => e = .returned (ans false false 0 0) ∧ w'.heap[t]? = some (.cells { tc with e := none, nx := .func (.func 94) #[.pointer (some ⟨t, 0, none⟩)] #[] }.cells 116 (0, 0)) ∧ Kept [t] w w' := by
  have hs := lt_of_block h
  have hs2 := lt_of_block hS
  have hne : t ≠ tc.s := ne_of_blocks h hS (by simp)
  have hne' : tc.s ≠ t := Ne.symm hne
  have hnt : t ≠ w.heap.size := Nat.ne_of_lt hs
  have hns : tc.s ≠ w.heap.size := Nat.ne_of_lt hs2
  have hnt' : w.heap.size ≠ t := Ne.symm hnt
  have hns' : w.heap.size ≠ tc.s := Ne.symm hns
  have hc : ∀ o, w.cell? ⟨t, o, none⟩ = tc.cells[o]? := cell_of h
  simp only [Tc.cells] at hc
  have hn := idx_pI sh.R tc.key hk0 hk7
  rw [hR] at hn
  have hf : ∀ o, w.frozen? ⟨t, o, none⟩ = false := frozen_of h
  have hfl := fld101 sh.R sh.am
  have H : Hid _ := h
  have HS : Hid _ := hS
  clear h hS hR
  go_enter Tryz.func89, Tryz.ntmps89
  go_wp2_with fail
  go_region_held3 (fun w' => w'.cell? ⟨t, 1, none⟩ = some (Value.pointer (some ⟨tc.s, 0, none⟩)) ∧ w'.cell? ⟨t, 3, none⟩ = some (Value.int IntKind.i64 tc.key)) ((refine ⟨?_, ?_⟩ <;> go_simp)) ((go_at_call 45; refine (g_lookRead sh tc.s _ (by repeat (first | with_reducible exact HS.out | with_reducible refine blk_drew ?_ | with_reducible refine blk_drewN ?_ _ | with_reducible refine block_set_ne ?_ (by assumption) _ _ | with_reducible refine block_alloc_lt ?_ _))).mono ?_; rintro e w' ⟨rfl, rfl⟩; simp only [tabCells]))
  clear hn hfl hf
  go_wp2_with fail
  refine Calls.mono (g_goOn { tc with e := none } t (.func 94) #[.pointer (some ⟨t, 0, none⟩)] #[] _ (by repeat (first | with_reducible refine blk_drew ?_ | with_reducible refine blk_drewN ?_ _ | with_reducible refine block_alloc_lt ?_ _ | exact (block_set_same H.out _ _).trans (by simp [Tc.cells])))) ?_
  rintro e wz ⟨rfl, hz, kz⟩
  have rz : wz.heap[w.heap.size]? = some (.cells #[.bool false, .bool false, .int .i64 0] 52 (0, 0)) := kz.at (by repeat (first | with_reducible exact block_alloc_new _ _ | with_reducible refine blk_drew ?_ | with_reducible refine blk_drewN ?_ _ | with_reducible refine block_set_ne ?_ (by assumption) _ _ | with_reducible exact newBox (by with_reducible first | exact rfl | exact size_setP _ _ _ | exact (size_setP _ _ _).trans (size_setP _ _ _) | exact (size_setP _ _ _).trans ((size_setP _ _ _).trans (size_setP _ _ _))) _ | with_reducible refine block_alloc_lt ?_ _)) (by simp; omega)
  have KZ : Hid (Kept [t] w wz) := Kept.drop (by repeat (first | with_reducible exact Kept.refl _ _ | with_reducible refine Kept.drew ?_ | with_reducible refine Kept.drewN ?_ _ | with_reducible refine Kept.alloc ?_ _ | with_reducible refine Kept.setAt ?_ (.inl mem0) _ _ | with_reducible refine Kept.setAt ?_ (.inl mem1) _ _ | with_reducible refine Kept.setAt ?_ (.inl mem2) _ _ | with_reducible refine Kept.setAt ?_ (.inr (Nat.le_refl _)) _ _)) kz (by simp)
  have hcz : ∀ o, wz.cell? ⟨w.heap.size, o, none⟩ = #[.bool false, .bool false, .int .i64 0][o]? := cell_of rz
  have hfz : ∀ o, wz.frozen? ⟨w.heap.size, o, none⟩ = false := frozen_of rz
  clear kz
  simp only [ans]
  go_wp2
  refine bodyPost_ret (v := ans false false 0 0) (by simp [results, Tryz.results89, go_sem, ans, cell_of (resLaidP rz false false 0)]) rfl ⟨rfl, blk_res hz (by omega) _ _ _, KZ.out.res (Nat.le_refl _) _ _ _⟩
set_option maxRecDepth 100000 in
set_option maxHeartbeats 1600000 in
theorem p_s5_in (tc : Tc) (sh : Sh) (t : Nat) (a : Addr) (w : World) (h : w.heap[t]? = some (.cells tc.cells 116 (0, 0))) (hS : w.heap[tc.s]? = some (.cells sh.cells 111 (0, 0))) (hk0 : 0 ≤ tc.key) (hk7 : tc.key < 8) (hR : sh.R tc.key.toNat = some a) :
    Calls Tryz.prog 89 #[.pointer (some ⟨t, 0, none⟩)] w fun e w' => e = .returned (ans false false 0 0) ∧ w'.heap[t]? = some (.cells { tc with e := some a, nx := .func (.func 95) #[.pointer (some ⟨t, 0, none⟩)] #[] }.cells 116 (0, 0)) ∧ Kept [t] w w' := by
  have hs := lt_of_block h
  have hs2 := lt_of_block hS
  have hne : t ≠ tc.s := ne_of_blocks h hS (by simp)
  have hne' : tc.s ≠ t := Ne.symm hne
  have hnt : t ≠ w.heap.size := Nat.ne_of_lt hs
  have hns : tc.s ≠ w.heap.size := Nat.ne_of_lt hs2
  have hnt' : w.heap.size ≠ t := Ne.symm hnt
  have hns' : w.heap.size ≠ tc.s := Ne.symm hns
  have hc : ∀ o, w.cell? ⟨t, o, none⟩ = tc.cells[o]? := cell_of h
  simp only [Tc.cells] at hc
  have hn := idx_pI sh.R tc.key hk0 hk7
  rw [hR] at hn
  have hf : ∀ o, w.frozen? ⟨t, o, none⟩ = false := frozen_of h
  have hfl := fld101 sh.R sh.am
  have H : Hid _ := h
  have HS : Hid _ := hS
  clear h hS hR
  go_enter Tryz.func89, Tryz.ntmps89
  go_wp2_with fail
  go_region_held3 (fun w' => w'.cell? ⟨t, 1, none⟩ = some (Value.pointer (some ⟨tc.s, 0, none⟩)) ∧ w'.cell? ⟨t, 3, none⟩ = some (Value.int IntKind.i64 tc.key)) ((refine ⟨?_, ?_⟩ <;> go_simp)) ((go_at_call 45; refine (g_lookRead sh tc.s _ (by repeat (first | with_reducible exact HS.out | with_reducible refine blk_drew ?_ | with_reducible refine blk_drewN ?_ _ | with_reducible refine block_set_ne ?_ (by assumption) _ _ | with_reducible refine block_alloc_lt ?_ _))).mono ?_; rintro e w' ⟨rfl, rfl⟩; simp only [tabCells]))
  clear hn hfl hf
  go_wp2_with fail
  refine Calls.mono (g_goOn { tc with e := some a } t (.func 95) #[.pointer (some ⟨t, 0, none⟩)] #[] _ (by repeat (first | with_reducible refine blk_drew ?_ | with_reducible refine blk_drewN ?_ _ | with_reducible refine block_alloc_lt ?_ _ | exact (block_set_same H.out _ _).trans (by simp [Tc.cells])))) ?_
  rintro e wz ⟨rfl, hz, kz⟩
  have rz : wz.heap[w.heap.size]? = some (.cells #[.bool false, .bool false, .int .i64 0] 52 (0, 0)) := kz.at (by repeat (first | with_reducible exact block_alloc_new _ _ | with_reducible refine blk_drew ?_ | with_reducible refine blk_drewN ?_ _ | with_reducible refine block_set_ne ?_ (by assumption) _ _ | with_reducible exact newBox (by with_reducible first | exact rfl | exact size_setP _ _ _ | exact (size_setP _ _ _).trans (size_setP _ _ _) | exact (size_setP _ _ _).trans ((size_setP _ _ _).trans (size_setP _ _ _))) _ | with_reducible refine block_alloc_lt ?_ _)) (by simp; omega)
  have KZ : Hid (Kept [t] w wz) := Kept.drop (by repeat (first | with_reducible exact Kept.refl _ _ | with_reducible refine Kept.drew ?_ | with_reducible refine Kept.drewN ?_ _ | with_reducible refine Kept.alloc ?_ _ | with_reducible refine Kept.setAt ?_ (.inl mem0) _ _ | with_reducible refine Kept.setAt ?_ (.inl mem1) _ _ | with_reducible refine Kept.setAt ?_ (.inl mem2) _ _ | with_reducible refine Kept.setAt ?_ (.inr (Nat.le_refl _)) _ _)) kz (by simp)
  have hcz : ∀ o, wz.cell? ⟨w.heap.size, o, none⟩ = #[.bool false, .bool false, .int .i64 0][o]? := cell_of rz
  have hfz : ∀ o, wz.frozen? ⟨w.heap.size, o, none⟩ = false := frozen_of rz
  clear kz
  simp only [ans]
  go_wp2
  refine bodyPost_ret (v := ans false false 0 0) (by simp [results, Tryz.results89, go_sem, ans, cell_of (resLaidP rz false false 0)]) rfl ⟨rfl, blk_res hz (by omega) _ _ _, KZ.out.res (Nat.le_refl _) _ _ _⟩
end Go.Proofs.YtfgfpggjcfhccaaGreat
