import Derived.Test.YtmnkphenobfbfaaXa
namespace Go.Proofs.Ytmnkphenobfbfaa
open Go.RowKit
theorem idx_pI (f : Nat → Option Addr) (x : Int) (h0 : 0 ≤ x) (h7 : x < 8) (w : World) : Sem.run Try.prog (Instr.index 85 (Value.agg #[Value.pointer (f 0), .pointer (f 1), .pointer (f 2), .pointer (f 3), .pointer (f 4), .pointer (f 5), .pointer (f 6), .pointer (f 7)]) (Value.int IntKind.i64 x)) w = .ok (.pointer (f x.toNat)) w := by
  obtain ⟨k, rfl⟩ := Int.eq_ofNat_of_zero_le h0
  exact idx_p f k (by omega) w
theorem fld101 (f : Nat → Option Addr) (b : Bool) (w : World) : Sem.run Try.prog (Instr.field 87 (Value.agg #[Value.pointer (f 0), .pointer (f 1), .pointer (f 2), .pointer (f 3), .pointer (f 4), .pointer (f 5), .pointer (f 6), .pointer (f 7), .bool b]) 0) w = .ok (.agg #[Value.pointer (f 0), .pointer (f 1), .pointer (f 2), .pointer (f 3), .pointer (f 4), .pointer (f 5), .pointer (f 6), .pointer (f 7)]) w := by kernel_rfl
theorem fld105 (f : Nat → Option Addr) (b : Bool) (w : World) : Sem.run Try.prog (Instr.field 91 (Value.agg #[Value.pointer (f 0), .pointer (f 1), .pointer (f 2), .pointer (f 3), .pointer (f 4), .pointer (f 5), .pointer (f 6), .pointer (f 7), .bool b]) 0) w = .ok (.agg #[Value.pointer (f 0), .pointer (f 1), .pointer (f 2), .pointer (f 3), .pointer (f 4), .pointer (f 5), .pointer (f 6), .pointer (f 7)]) w := by kernel_rfl
set_option maxRecDepth 100000 in
set_option maxHeartbeats 1600000 in
theorem p_s1_no (tc : Tc) (sh : Sh) (t : Nat) (w : World) (h : w.heap[t]? = some (.cells tc.cells 103 (0, 0))) (hS : w.heap[tc.s]? = some (.cells sh.cells 97 (0, 0))) (hk0 : 0 ≤ tc.key) (hk7 : tc.key < 8) (hR : sh.R tc.key.toNat = none) :
    Calls Try.prog 50 #[.pointer (some ⟨t, 0, none⟩)] w fun e w' => e = .returned (ans false false 0 0) ∧ w'.heap[t]? = some (.cells { tc with e := none, nx := .func (.func 62) #[.pointer (some ⟨t, 0, none⟩)] #[] }.cells 103 (0, 0)) ∧ Kept [t] w w' := by
  have hs := lt_of_block h
  have hs2 := lt_of_block hS
  have hne : t ≠ tc.s := ne_of_blocks h hS (by simp)
  have hne' : tc.s ≠ t := Ne.symm hne
  have hnt : t ≠ w.heap.size := Nat.ne_of_lt hs
  have hns : tc.s ≠ w.heap.size := Nat.ne_of_lt hs2
  have hnt' : w.heap.size ≠ t := Ne.symm hnt
  have hns' : w.heap.size ≠ tc.s := Ne.symm hns
  have hc : ∀ o, w.cell? ⟨t, o, none⟩ = tc.cells[o]? := cell_of h
  simp only [Tc.cells] at hc
  have hn := idx_pI sh.R tc.key hk0 hk7
  rw [hR] at hn
  have hf : ∀ o, w.frozen? ⟨t, o, none⟩ = false := frozen_of h
  have hfl := fld101 sh.R sh.am
  have H : Hid _ := h
  have HS : Hid _ := hS
  clear h hS hR
  go_enter Try.func50, Try.ntmps50
  go_wp2_with fail
  go_region_held3 (fun w' => w'.cell? ⟨t, 1, none⟩ = some (Value.pointer (some ⟨tc.s, 0, none⟩)) ∧ w'.cell? ⟨t, 3, none⟩ = some (Value.int IntKind.i64 tc.key)) ((refine ⟨?_, ?_⟩ <;> go_simp)) ((go_at_call 38; refine (g_lookRead sh tc.s _ (by repeat (first | with_reducible exact HS.out | with_reducible refine blk_drew ?_ | with_reducible refine blk_drewN ?_ _ | with_reducible refine block_set_ne ?_ (by assumption) _ _ | with_reducible refine block_alloc_lt ?_ _))).mono ?_; rintro e w' ⟨rfl, rfl⟩; simp only [tabCells]))
  clear hn hfl hf
  go_wp2_with fail
  refine Calls.mono (g_goOn { tc with e := none } t (.func 62) #[.pointer (some ⟨t, 0, none⟩)] #[] _ (by repeat (first | with_reducible refine blk_drew ?_ | with_reducible refine blk_drewN ?_ _ | with_reducible refine block_alloc_lt ?_ _ | exact (block_set_same H.out _ _).trans (by simp [Tc.cells])))) ?_
  rintro e wz ⟨rfl, hz, kz⟩
  have rz : wz.heap[w.heap.size]? = some (.cells #[.bool false, .bool false, .int .i64 0] 30 (0, 0)) := kz.at (by repeat (first | with_reducible exact block_alloc_new _ _ | with_reducible refine blk_drew ?_ | with_reducible refine blk_drewN ?_ _ | with_reducible refine block_set_ne ?_ (by assumption) _ _ | with_reducible exact newBox (by with_reducible first | exact rfl | exact size_setP _ _ _ | exact (size_setP _ _ _).trans (size_setP _ _ _) | exact (size_setP _ _ _).trans ((size_setP _ _ _).trans (size_setP _ _ _))) _ | with_reducible refine block_alloc_lt ?_ _)) (by simp; omega)
  have KZ : Hid (Kept [t] w wz) := Kept.drop (by repeat (first | with_reducible exact Kept.refl _ _ | with_reducible refine Kept.drew ?_ | with_reducible refine Kept.drewN ?_ _ | with_reducible refine Kept.alloc ?_ _ | with_reducible refine Kept.setAt ?_ (.inl mem0) _ _ | with_reducible refine Kept.setAt ?_ (.inl mem1) _ _ | with_reducible refine Kept.setAt ?_ (.inl mem2) _ _ | with_reducible refine Kept.setAt ?_ (.inr (Nat.le_refl _)) _ _)) kz (by simp)
  have hcz : ∀ o, wz.cell? ⟨w.heap.size, o, none⟩ = #[.bool false, .bool false, .int .i64 0][o]? := cell_of rz
  have hfz : ∀ o, wz.frozen? ⟨w.heap.size, o, none⟩ = false := frozen_of rz
  clear kz
  simp only [ans]
  go_wp2
  refine bodyPost_ret (v := ans false false 0 0) (by simp [results, Try.results50, go_sem, ans, cell_of (resLaidP rz false false 0)]) rfl ⟨rfl, blk_res hz (by omega) _ _ _, KZ.out.res (Nat.le_refl _) _ _ _⟩
set_option maxRecDepth 100000 in
set_option maxHeartbeats 1600000 in
theorem p_s1_in (tc : Tc) (sh : Sh) (t : Nat) (a : Addr) (w : World) (h : w.heap[t]? = some (.cells tc.cells 103 (0, 0))) (hS : w.heap[tc.s]? = some (.cells sh.cells 97 (0, 0))) (hk0 : 0 ≤ tc.key) (hk7 : tc.key < 8) (hR : sh.R tc.key.toNat = some a) :
    Calls Try.prog 50 #[.pointer (some ⟨t, 0, none⟩)] w fun e w' => e = .returned (ans false false 0 0) ∧ w'.heap[t]? = some (.cells { tc with e := some a, nx := .func (.func 63) #[.pointer (some ⟨t, 0, none⟩)] #[] }.cells 103 (0, 0)) ∧ Kept [t] w w' := by
  have hs := lt_of_block h
  have hs2 := lt_of_block hS
  have hne : t ≠ tc.s := ne_of_blocks h hS (by simp)
  have hne' : tc.s ≠ t := Ne.symm hne
  have hnt : t ≠ w.heap.size := Nat.ne_of_lt hs
  have hns : tc.s ≠ w.heap.size := Nat.ne_of_lt hs2
  have hnt' : w.heap.size ≠ t := Ne.symm hnt
  have hns' : w.heap.size ≠ tc.s := Ne.symm hns
  have hc : ∀ o, w.cell? ⟨t, o, none⟩ = tc.cells[o]? := cell_of h
  simp only [Tc.cells] at hc
  have hn := idx_pI sh.R tc.key hk0 hk7
  rw [hR] at hn
  have hf : ∀ o, w.frozen? ⟨t, o, none⟩ = false := frozen_of h
  have hfl := fld101 sh.R sh.am
  have H : Hid _ := h
  have HS : Hid _ := hS
  clear h hS hR
  go_enter Try.func50, Try.ntmps50
  go_wp2_with fail
  go_region_held3 (fun w' => w'.cell? ⟨t, 1, none⟩ = some (Value.pointer (some ⟨tc.s, 0, none⟩)) ∧ w'.cell? ⟨t, 3, none⟩ = some (Value.int IntKind.i64 tc.key)) ((refine ⟨?_, ?_⟩ <;> go_simp)) ((go_at_call 38; refine (g_lookRead sh tc.s _ (by repeat (first | with_reducible exact HS.out | with_reducible refine blk_drew ?_ | with_reducible refine blk_drewN ?_ _ | with_reducible refine block_set_ne ?_ (by assumption) _ _ | with_reducible refine block_alloc_lt ?_ _))).mono ?_; rintro e w' ⟨rfl, rfl⟩; simp only [tabCells]))
  clear hn hfl hf
  go_wp2_with fail
  refine Calls.mono (g_goOn { tc with e := some a } t (.func 63) #[.pointer (some ⟨t, 0, none⟩)] #[] _ (by repeat (first | with_reducible refine blk_drew ?_ | with_reducible refine blk_drewN ?_ _ | with_reducible refine block_alloc_lt ?_ _ | exact (block_set_same H.out _ _).trans (by simp [Tc.cells])))) ?_
  rintro e wz ⟨rfl, hz, kz⟩
  have rz : wz.heap[w.heap.size]? = some (.cells #[.bool false, .bool false, .int .i64 0] 30 (0, 0)) := kz.at (by repeat (first | with_reducible exact block_alloc_new _ _ | with_reducible refine blk_drew ?_ | with_reducible refine blk_drewN ?_ _ | with_reducible refine block_set_ne ?_ (by assumption) _ _ | with_reducible exact newBox (by with_reducible first | exact rfl | exact size_setP _ _ _ | exact (size_setP _ _ _).trans (size_setP _ _ _) | exact (size_setP _ _ _).trans ((size_setP _ _ _).trans (size_setP _ _ _))) _ | with_reducible refine block_alloc_lt ?_ _)) (by simp; omega)
  have KZ : Hid (Kept [t] w wz) := Kept.drop (by repeat (first | with_reducible exact Kept.refl _ _ | with_reducible refine Kept.drew ?_ | with_reducible refine Kept.drewN ?_ _ | with_reducible refine Kept.alloc ?_ _ | with_reducible refine Kept.setAt ?_ (.inl mem0) _ _ | with_reducible refine Kept.setAt ?_ (.inl mem1) _ _ | with_reducible refine Kept.setAt ?_ (.inl mem2) _ _ | with_reducible refine Kept.setAt ?_ (.inr (Nat.le_refl _)) _ _)) kz (by simp)
  have hcz : ∀ o, wz.cell? ⟨w.heap.size, o, none⟩ = #[.bool false, .bool false, .int .i64 0][o]? := cell_of rz
  have hfz : ∀ o, wz.frozen? ⟨w.heap.size, o, none⟩ = false := frozen_of rz
  clear kz
  simp only [ans]
  go_wp2
  refine bodyPost_ret (v := ans false false 0 0) (by simp [results, Try.results50, go_sem, ans, cell_of (resLaidP rz false false 0)]) rfl ⟨rfl, blk_res hz (by omega) _ _ _, KZ.out.res (Nat.le_refl _) _ _ _⟩
set_option maxRecDepth 100000 in
set_option maxHeartbeats 1600000 in
theorem p_s5_no (tc : Tc) (sh : Sh) (t : Nat) (w : World) (h : w.heap[t]? = some (.cells tc.cells 103 (0, 0))) (hS : w.heap[tc.s]? = some (.cells sh.cells 97 (0, 0))) (hk0 : 0 ≤ tc.key) (hk7 : tc.key < 8) (hR : sh.R tc.key.toNat = none) :
    Calls Try.prog 68 #[.pointer (some ⟨t, 0, none⟩)] w fun e w' => e = .returned (ans false false 0 0) ∧ w'.heap[t]? = some (.cells { tc with e := none, nx := .func (.func 76) #[.pointer (some ⟨t, 0, none⟩)] #[] }.cells 103 (0, 0)) ∧ Kept [t] w w' := by
  have hs := lt_of_block h
  have hs2 := lt_of_block hS
  have hne : t ≠ tc.s := ne_of_blocks h hS (by simp)
  have hne' : tc.s ≠ t := Ne.symm hne
  have hnt : t ≠ w.heap.size := Nat.ne_of_lt hs
  have hns : tc.s ≠ w.heap.size := Nat.ne_of_lt hs2
  have hnt' : w.heap.size ≠ t := Ne.symm hnt
  have hns' : w.heap.size ≠ tc.s := Ne.symm hns
  have hc : ∀ o, w.cell? ⟨t, o, none⟩ = tc.cells[o]? := cell_of h
  simp only [Tc.cells] at hc
  have hn := idx_pI sh.R tc.key hk0 hk7
  rw [hR] at hn
  have hf : ∀ o, w.frozen? ⟨t, o, none⟩ = false := frozen_of h
  have hfl := fld101 sh.R sh.am
  have H : Hid _ := h
  have HS : Hid _ := hS
  clear h hS hR
  go_enter Try.func68, Try.ntmps68
  go_wp2_with fail
  go_region_held3 (fun w' => w'.cell? ⟨t, 1, none⟩ = some (Value.pointer (some ⟨tc.s, 0, none⟩)) ∧ w'.cell? ⟨t, 3, none⟩ = some (Value.int IntKind.i64 tc.key)) ((refine ⟨?_, ?_⟩ <;> go_simp)) ((go_at_call 38; refine (g_lookRead sh tc.s _ (by repeat (first | with_reducible exact HS.out | with_reducible refine blk_drew ?_ | with_reducible refine blk_drewN ?_ _ | with_reducible refine block_set_ne ?_ (by assumption) _ _ | with_reducible refine block_alloc_lt ?_ _))).mono ?_; rintro e w' ⟨rfl, rfl⟩; simp only [tabCells]))
  clear hn hfl hf
  go_wp2_with fail
  refine Calls.mono (g_goOn { tc with e := none } t (.func 76) #[.pointer (some ⟨t, 0, none⟩)] #[] _ (by repeat (first | with_reducible refine blk_drew ?_ | with_reducible refine blk_drewN ?_ _ | with_reducible refine block_alloc_lt ?_ _ | exact (block_set_same H.out _ _).trans (by simp [Tc.cells])))) ?_
  rintro e wz ⟨rfl, hz, kz⟩
  have rz : wz.heap[w.heap.size]? = some (.cells #[.bool false, .bool false, .int .i64 0] 30 (0, 0)) := kz.at (by repeat (first | with_reducible exact block_alloc_new _ _ | with_reducible refine blk_drew ?_ | with_reducible refine blk_drewN ?_ _ | with_reducible refine block_set_ne ?_ (by assumption) _ _ | with_reducible exact newBox (by with_reducible first | exact rfl | exact size_setP _ _ _ | exact (size_setP _ _ _).trans (size_setP _ _ _) | exact (size_setP _ _ _).trans ((size_setP _ _ _).trans (size_setP _ _ _))) _ | with_reducible refine block_alloc_lt ?_ _)) (by simp; omega)
  have KZ : Hid (Kept [t] w wz) := Kept.drop (by repeat (first | with_reducible exact Kept.refl _ _ | with_reducible refine Kept.drew ?_ | with_reducible refine Kept.drewN ?_ _ | with_reducible refine Kept.alloc ?_ _ | with_reducible refine Kept.setAt ?_ (.inl mem0) _ _ | with_reducible refine Kept.setAt ?_ (.inl mem1) _ _ | with_reducible refine Kept.setAt ?_ (.inl mem2) _ _ | with_reducible refine Kept.setAt ?_ (.inr (Nat.le_refl _)) _ _)) kz (by simp)
  have hcz : ∀ o, wz.cell? ⟨w.heap.size, o, none⟩ = #[.bool false, .bool false, .int .i64 0][o]? := cell_of rz
  have hfz : ∀ o, wz.frozen? ⟨w.heap.size, o, none⟩ = false := frozen_of rz
  clear kz
  simp only [ans]
  go_wp2
  refine bodyPost_ret (v := ans false false 0 0) (by simp [results, Try.results68, go_sem, ans, cell_of (resLaidP rz false false 0)]) rfl ⟨rfl, blk_res hz (by omega) _ _ _, KZ.out.res (Nat.le_refl _) _ _ _⟩
set_option maxRecDepth 100000 in
set_option maxHeartbeats 1600000 in
theorem p_s5_in (tc : Tc) (sh : Sh) (t : Nat) (a : Addr) (w : World) (h : w.heap[t]? = some (.cells tc.cells 103 (0, 0))) (hS : w.heap[tc.s]? = some (.cells sh.cells 97 (0, 0))) (hk0 : 0 ≤ tc.key) (hk7 : tc.key < 8) (hR : sh.R tc.key.toNat = some a) :
    Calls Try.prog 68 #[.pointer (some ⟨t, 0, none⟩)] w fun e w' => e = .returned (ans false false 0 0) ∧ w'.heap[t]? = some (.cells { tc with e := some a, nx := .func (.func 77) #[.pointer (some ⟨t, 0, none⟩)] #[] }.cells 103 (0, 0)) ∧ Kept [t] w w' := by
  have hs := lt_of_block h
  have hs2 := lt_of_block hS
  have hne : t ≠ tc.s := ne_of_blocks h hS (by simp)
  have hne' : tc.s ≠ t := Ne.symm hne
  have hnt : t ≠ w.heap.size := Nat.ne_of_lt hs
  have hns : tc.s ≠ w.heap.size := Nat.ne_of_lt hs2
  have hnt' : w.heap.size ≠ t := Ne.symm hnt
  have hns' : w.heap.size ≠ tc.s := Ne.symm hns
  have hc : ∀ o, w.cell? ⟨t, o, none⟩ = tc.cells[o]? := cell_of h
  simp only [Tc.cells] at hc
  have hn := idx_pI sh.R tc.key hk0 hk7
  rw [hR] at hn
  have hf : ∀ o, w.frozen? ⟨t, o, none⟩ = false := frozen_of h
  have hfl := fld101 sh.R sh.am
  have H : Hid _ := h
  have HS : Hid _ := hS
  clear h hS hR
  go_enter Try.func68, Try.ntmps68
  go_wp2_with fail
  go_region_held3 (fun w' => w'.cell? ⟨t, 1, none⟩ = some (Value.pointer (some ⟨tc.s, 0, none⟩)) ∧ w'.cell? ⟨t, 3, none⟩ = some (Value.int IntKind.i64 tc.key)) ((refine ⟨?_, ?_⟩ <;> go_simp)) ((go_at_call 38; refine (g_lookRead sh tc.s _ (by repeat (first | with_reducible exact HS.out | with_reducible refine blk_drew ?_ | with_reducible refine blk_drewN ?_ _ | with_reducible refine block_set_ne ?_ (by assumption) _ _ | with_reducible refine block_alloc_lt ?_ _))).mono ?_; rintro e w' ⟨rfl, rfl⟩; simp only [tabCells]))
  clear hn hfl hf
  go_wp2_with fail
  refine Calls.mono (g_goOn { tc with e := some a } t (.func 77) #[.pointer (some ⟨t, 0, none⟩)] #[] _ (by repeat (first | with_reducible refine blk_drew ?_ | with_reducible refine blk_drewN ?_ _ | with_reducible refine block_alloc_lt ?_ _ | exact (block_set_same H.out _ _).trans (by simp [Tc.cells])))) ?_
  rintro e wz ⟨rfl, hz, kz⟩
  have rz : wz.heap[w.heap.size]? = some (.cells #[.bool false, .bool false, .int .i64 0] 30 (0, 0)) := kz.at (by repeat (first | with_reducible exact block_alloc_new _ _ | with_reducible refine blk_drew ?_ | with_reducible refine blk_drewN ?_ _ | with_reducible refine block_set_ne ?_ (by assumption) _ _ | with_reducible exact newBox (by with_reducible first | exact rfl | exact size_setP _ _ _ | exact (size_setP _ _ _).trans (size_setP _ _ _) | exact (size_setP _ _ _).trans ((size_setP _ _ _).trans (size_setP _ _ _))) _ | with_reducible refine block_alloc_lt ?_ _)) (by simp; omega)
  have KZ : Hid (Kept [t] w wz) := Kept.drop (by repeat (first | with_reducible exact Kept.refl _ _ | with_reducible refine Kept.drew ?_ | with_reducible refine Kept.drewN ?_ _ | with_reducible refine Kept.alloc ?_ _ | with_reducible refine Kept.setAt ?_ (.inl mem0) _ _ | with_reducible refine Kept.setAt ?_ (.inl mem1) _ _ | with_reducible refine Kept.setAt ?_ (.inl mem2) _ _ | with_reducible refine Kept.setAt ?_ (.inr (Nat.le_refl _)) _ _)) kz (by simp)
  have hcz : ∀ o, wz.cell? ⟨w.heap.size, o, none⟩ = #[.bool false, .bool false, .int .i64 0][o]? := cell_of rz
  have hfz : ∀ o, wz.frozen? ⟨w.heap.size, o, none⟩ = false := frozen_of rz
  clear kz
  simp only [ans]
  go_wp2
  refine bodyPost_ret (v := ans false false 0 0) (by simp [results, Try.results68, go_sem, ans, cell_of (resLaidP rz false false 0)]) rfl ⟨rfl, blk_res hz (by omega) _ _ _, KZ.out.res (Nat.le_refl _) _ _ _⟩
end Go.Proofs.Ytmnkphenobfbfaa
namespace Go.Proofs.Ytmnkphenobfbfaa
open Go.RowKit
set_option maxRecDepth 100000 in
set_option maxHeartbeats 1600000 in
theorem p_s2_out (tc : Tc) (t : Nat) (g : Nat) (x y : Int) (w : World) (h : w.heap[t]? = some (.cells tc.cells 103 (0, 0))) (hE : w.heap[g]? = some (.cells #[.int .i64 x, .int .i64 y] 124 (0, 0))) (he : tc.e = some ⟨g, 0, none⟩) (hx : x = 2) :
    Calls Try.prog 63 #[.pointer (some ⟨t, 0, none⟩)] w fun e w' => e = .returned (ans false false 0 0) ∧ w'.heap[t]? = some (.cells { tc with sst := x, sv := y, nx := .func (.func 62) #[.pointer (some ⟨t, 0, none⟩)] #[] }.cells 103 (0, 0)) ∧ Kept [t] w w' := by
  have hs := lt_of_block h
  have hnt : t ≠ w.heap.size := Nat.ne_of_lt hs
  have hnt' : w.heap.size ≠ t := Ne.symm hnt
  have hc : ∀ o, w.cell? ⟨t, o, none⟩ = tc.cells[o]? := cell_of h
  simp only [Tc.cells] at hc
  have hg := lt_of_block hE
  have hgt : g ≠ t := ne_of_blocks hE h (by simp)
  have hgt' : t ≠ g := Ne.symm hgt
  have hgn : g ≠ w.heap.size := Nat.ne_of_lt hg
  have hgn' : w.heap.size ≠ g := Ne.symm hgn
  simp only [he] at hc
  have hf : ∀ o, w.frozen? ⟨t, o, none⟩ = false := frozen_of h
  have H : Hid _ := h
  have HE : Hid _ := hE
  have HEE : Hid _ := he
  clear h hE he
  subst hx
  go_enter Try.func63, Try.ntmps63
  go_wp2_with fail
  refine Calls.mono (g_lookC g 2 y _ (by repeat (first | with_reducible exact HE.out | with_reducible refine blk_drew ?_ | with_reducible refine blk_drewN ?_ _ | with_reducible refine block_set_ne ?_ (by assumption) _ _ | with_reducible refine block_alloc_lt ?_ _))) ?_
  rintro e w1 ⟨rfl, rfl⟩
  go_wp2_with fail
  clear hc hf
  refine Calls.mono (g_goOn { tc with sst := 2, sv := y } t (.func 62) #[.pointer (some ⟨t, 0, none⟩)] #[] _ (by repeat (first | with_reducible refine blk_drew ?_ | with_reducible refine blk_drewN ?_ _ | with_reducible refine block_alloc_lt ?_ _ | exact (block_set_same (block_set_same H.out _ _) _ _).trans (by simp [Tc.cells])))) ?_
  rintro e wz ⟨rfl, hz, kz⟩
  have rz : wz.heap[w.heap.size]? = some (.cells #[.bool false, .bool false, .int .i64 0] 30 (0, 0)) := kz.at (by repeat (first | with_reducible exact block_alloc_new _ _ | with_reducible refine blk_drew ?_ | with_reducible refine blk_drewN ?_ _ | with_reducible refine block_set_ne ?_ (by assumption) _ _ | with_reducible exact newBox (by with_reducible first | exact rfl | exact size_setP _ _ _ | exact (size_setP _ _ _).trans (size_setP _ _ _) | exact (size_setP _ _ _).trans ((size_setP _ _ _).trans (size_setP _ _ _))) _ | with_reducible refine block_alloc_lt ?_ _)) (by simp <;> omega)
  have KZ : Hid (Kept [t] w wz) := Kept.drop (by repeat (first | with_reducible exact Kept.refl _ _ | with_reducible refine Kept.drew ?_ | with_reducible refine Kept.drewN ?_ _ | with_reducible refine Kept.alloc ?_ _ | with_reducible refine Kept.setAt ?_ (.inl mem0) _ _ | with_reducible refine Kept.setAt ?_ (.inl mem1) _ _ | with_reducible refine Kept.setAt ?_ (.inl mem2) _ _ | with_reducible refine Kept.setAt ?_ (.inr (Nat.le_refl _)) _ _)) kz (by simp)
  have hcz : ∀ o, wz.cell? ⟨w.heap.size, o, none⟩ = #[.bool false, .bool false, .int .i64 0][o]? := cell_of rz
  have hfz : ∀ o, wz.frozen? ⟨w.heap.size, o, none⟩ = false := frozen_of rz
  clear kz
  simp only [ans]
  go_wp2
  refine bodyPost_ret (v := ans false false 0 0) (by simp [results, Try.results63, go_sem, ans, cell_of (resLaidP rz false false 0)]) rfl ⟨rfl, blk_res hz (by omega) _ _ _, KZ.out.res (Nat.le_refl _) _ _ _⟩
set_option maxRecDepth 100000 in
set_option maxHeartbeats 1600000 in
theorem p_s2_on (tc : Tc) (t : Nat) (g : Nat) (x y : Int) (w : World) (h : w.heap[t]? = some (.cells tc.cells 103 (0, 0))) (hE : w.heap[g]? = some (.cells #[.int .i64 x, .int .i64 y] 124 (0, 0))) (he : tc.e = some ⟨g, 0, none⟩) (hx : ¬ x = 2) :
    Calls Try.prog 63 #[.pointer (some ⟨t, 0, none⟩)] w fun e w' => e = .returned (ans false false 0 0) ∧ w'.heap[t]? = some (.cells { tc with sst := x, sv := y, nx := .func (.func 69) #[.pointer (some ⟨t, 0, none⟩)] #[] }.cells 103 (0, 0)) ∧ Kept [t] w w' := by
  have hs := lt_of_block h
  have hnt : t ≠ w.heap.size := Nat.ne_of_lt hs
  have hnt' : w.heap.size ≠ t := Ne.symm hnt
  have hc : ∀ o, w.cell? ⟨t, o, none⟩ = tc.cells[o]? := cell_of h
  simp only [Tc.cells] at hc
  have hg := lt_of_block hE
  have hgt : g ≠ t := ne_of_blocks hE h (by simp)
  have hgt' : t ≠ g := Ne.symm hgt
  have hgn : g ≠ w.heap.size := Nat.ne_of_lt hg
  have hgn' : w.heap.size ≠ g := Ne.symm hgn
  simp only [he] at hc
  have hf : ∀ o, w.frozen? ⟨t, o, none⟩ = false := frozen_of h
  have H : Hid _ := h
  have HE : Hid _ := hE
  have HEE : Hid _ := he
  clear h hE he
  go_enter Try.func63, Try.ntmps63
  go_wp2_with fail
  refine Calls.mono (g_lookC g x y _ (by repeat (first | with_reducible exact HE.out | with_reducible refine blk_drew ?_ | with_reducible refine blk_drewN ?_ _ | with_reducible refine block_set_ne ?_ (by assumption) _ _ | with_reducible refine block_alloc_lt ?_ _))) ?_
  rintro e w1 ⟨rfl, rfl⟩
  go_wp2_with fail
  clear hc hf
  refine Calls.mono (g_goOn { tc with sst := x, sv := y } t (.func 69) #[.pointer (some ⟨t, 0, none⟩)] #[] _ (by repeat (first | with_reducible refine blk_drew ?_ | with_reducible refine blk_drewN ?_ _ | with_reducible refine block_alloc_lt ?_ _ | exact (block_set_same (block_set_same H.out _ _) _ _).trans (by simp [Tc.cells])))) ?_
  rintro e wz ⟨rfl, hz, kz⟩
  have rz : wz.heap[w.heap.size]? = some (.cells #[.bool false, .bool false, .int .i64 0] 30 (0, 0)) := kz.at (by repeat (first | with_reducible exact block_alloc_new _ _ | with_reducible refine blk_drew ?_ | with_reducible refine blk_drewN ?_ _ | with_reducible refine block_set_ne ?_ (by assumption) _ _ | with_reducible exact newBox (by with_reducible first | exact rfl | exact size_setP _ _ _ | exact (size_setP _ _ _).trans (size_setP _ _ _) | exact (size_setP _ _ _).trans ((size_setP _ _ _).trans (size_setP _ _ _))) _ | with_reducible refine block_alloc_lt ?_ _)) (by simp <;> omega)
  have KZ : Hid (Kept [t] w wz) := Kept.drop (by repeat (first | with_reducible exact Kept.refl _ _ | with_reducible refine Kept.drew ?_ | with_reducible refine Kept.drewN ?_ _ | with_reducible refine Kept.alloc ?_ _ | with_reducible refine Kept.setAt ?_ (.inl mem0) _ _ | with_reducible refine Kept.setAt ?_ (.inl mem1) _ _ | with_reducible refine Kept.setAt ?_ (.inl mem2) _ _ | with_reducible refine Kept.setAt ?_ (.inr (Nat.le_refl _)) _ _)) kz (by simp)
  have hcz : ∀ o, wz.cell? ⟨w.heap.size, o, none⟩ = #[.bool false, .bool false, .int .i64 0][o]? := cell_of rz
  have hfz : ∀ o, wz.frozen? ⟨w.heap.size, o, none⟩ = false := frozen_of rz
  clear kz
  simp only [ans]
  go_wp2
  refine bodyPost_ret (v := ans false false 0 0) (by simp [results, Try.results63, go_sem, ans, cell_of (resLaidP rz false false 0)]) rfl ⟨rfl, blk_res hz (by omega) _ _ _, KZ.out.res (Nat.le_refl _) _ _ _⟩
set_option maxRecDepth 100000 in
set_option maxHeartbeats 1600000 in
theorem p_s3_no (tc : Tc) (t : Nat) (g : Nat) (x y : Int) (w : World) (h : w.heap[t]? = some (.cells tc.cells 103 (0, 0))) (hE : w.heap[g]? = some (.cells #[.int .i64 x, .int .i64 y] 124 (0, 0))) (he : tc.e = some ⟨g, 0, none⟩) (hx : ¬ (x = tc.sst ∧ y = tc.sv)) :
    Calls Try.prog 69 #[.pointer (some ⟨t, 0, none⟩)] w fun e w' => e = .returned (ans false false 0 0) ∧ w'.heap[t]? = some (.cells { tc with nx := .func (.func 63) #[.pointer (some ⟨t, 0, none⟩)] #[] }.cells 103 (0, 0)) ∧ Kept [t] w w' := by
  have hs := lt_of_block h
  have hnt : t ≠ w.heap.size := Nat.ne_of_lt hs
  have hnt' : w.heap.size ≠ t := Ne.symm hnt
  have hc : ∀ o, w.cell? ⟨t, o, none⟩ = tc.cells[o]? := cell_of h
  simp only [Tc.cells] at hc
  have hg := lt_of_block hE
  have hgt : g ≠ t := ne_of_blocks hE h (by simp)
  have hgt' : t ≠ g := Ne.symm hgt
  have hgn : g ≠ w.heap.size := Nat.ne_of_lt hg
  have hgn' : w.heap.size ≠ g := Ne.symm hgn
  simp only [he] at hc
  have H : Hid _ := h
  have HE : Hid _ := hE
  have HEE : Hid _ := he
  clear h hE he
  go_enter Try.func69, Try.ntmps69
  go_wp2_with fail
  go_region_held3 (fun w' => w'.cell? ⟨t, 6, none⟩ = some (Value.pointer (some ⟨g, 0, none⟩)) ∧ w'.cell? ⟨t, 7, none⟩ = some (Value.int IntKind.i64 tc.sst) ∧ w'.cell? ⟨t, 8, none⟩ = some (Value.int IntKind.i64 tc.sv) ∧ w'.cell? ⟨t, 4, none⟩ = some (Value.int IntKind.i64 tc.val)) (first | exact ⟨c96, c97, c98, c94⟩ | (refine ⟨?_, ?_, ?_, ?_⟩ <;> go_simp)) (first | (go_at_call 79; refine (g_having tc.val _).mono ?_; rintro e w' ⟨rfl, rfl⟩) | (go_at_call 78; refine Calls.mono (g_setIfC_no g x y tc.sst tc.sv 0 tc.val _ (by repeat (first | with_reducible exact HE.out | with_reducible refine blk_drew ?_ | with_reducible refine blk_drewN ?_ _ | with_reducible refine block_set_ne ?_ (by assumption) _ _ | with_reducible refine block_alloc_lt ?_ _)) hx) ?_; rintro e w9 ⟨rfl, k9⟩; have t9 : w9.heap[t]? = some (.cells tc.cells 103 (0, 0)) := k9.at (by repeat (first | with_reducible exact H.out | with_reducible refine blk_drew ?_ | with_reducible refine blk_drewN ?_ _ | with_reducible refine block_set_ne ?_ (by assumption) _ _ | with_reducible refine block_alloc_lt ?_ _)) (by simp); have c96 : w9.cell? ⟨t, 6, none⟩ = some (Value.pointer (some ⟨g, 0, none⟩)) := (cell_of t9 6).trans (by simp [Tc.cells, HEE.out]); have c97 : w9.cell? ⟨t, 7, none⟩ = some (Value.int IntKind.i64 tc.sst) := cell_of t9 7; have c98 : w9.cell? ⟨t, 8, none⟩ = some (Value.int IntKind.i64 tc.sv) := cell_of t9 8; have c94 : w9.cell? ⟨t, 4, none⟩ = some (Value.int IntKind.i64 tc.val) := cell_of t9 4))
  clear hc
  go_wp2_with fail
  refine Calls.mono (g_goOn tc t (.func 63) #[.pointer (some ⟨t, 0, none⟩)] #[] _ (k9.at (by repeat (first | with_reducible exact H.out | with_reducible refine blk_drew ?_ | with_reducible refine blk_drewN ?_ _ | with_reducible refine block_set_ne ?_ (by assumption) _ _ | with_reducible refine block_alloc_lt ?_ _)) (by simp))) ?_
  rintro e wz ⟨rfl, hz, kz⟩
  have rz : wz.heap[w.heap.size]? = some (.cells #[.bool false, .bool false, .int .i64 0] 30 (0, 0)) := kz.at (k9.at (by repeat (first | with_reducible exact block_alloc_new _ _ | with_reducible refine blk_drew ?_ | with_reducible refine blk_drewN ?_ _ | with_reducible refine block_set_ne ?_ (by assumption) _ _ | with_reducible exact newBox (by with_reducible first | exact rfl | exact size_setP _ _ _ | exact (size_setP _ _ _).trans (size_setP _ _ _) | exact (size_setP _ _ _).trans ((size_setP _ _ _).trans (size_setP _ _ _))) _ | with_reducible refine block_alloc_lt ?_ _)) (by simp)) (by simp <;> omega)
  have KZ : Hid (Kept [t] w wz) := Kept.drop (Kept.trans (by repeat (first | with_reducible exact Kept.refl _ _ | with_reducible refine Kept.drew ?_ | with_reducible refine Kept.drewN ?_ _ | with_reducible refine Kept.alloc ?_ _ | with_reducible refine Kept.setAt ?_ (.inl mem0) _ _ | with_reducible refine Kept.setAt ?_ (.inl mem1) _ _ | with_reducible refine Kept.setAt ?_ (.inl mem2) _ _ | with_reducible refine Kept.setAt ?_ (.inr (Nat.le_refl _)) _ _)) (k9.mono (by simp))) kz (by simp)
  have hcz : ∀ o, wz.cell? ⟨w.heap.size, o, none⟩ = #[.bool false, .bool false, .int .i64 0][o]? := cell_of rz
  have hfz : ∀ o, wz.frozen? ⟨w.heap.size, o, none⟩ = false := frozen_of rz
  clear kz
  simp only [ans]
  go_wp2
  refine bodyPost_ret (v := ans false false 0 0) (by simp [results, Try.results69, go_sem, ans, cell_of (resLaidP rz false false 0)]) rfl ⟨rfl, blk_res hz (by omega) _ _ _, KZ.out.res (Nat.le_refl _) _ _ _⟩
set_option maxRecDepth 100000 in
set_option maxHeartbeats 1600000 in
theorem p_s3_yes (tc : Tc) (t : Nat) (g : Nat) (x y : Int) (w : World) (h : w.heap[t]? = some (.cells tc.cells 103 (0, 0))) (hE : w.heap[g]? = some (.cells #[.int .i64 x, .int .i64 y] 124 (0, 0))) (he : tc.e = some ⟨g, 0, none⟩) (hx : x = tc.sst) (hy : y = tc.sv) :
    Calls Try.prog 69 #[.pointer (some ⟨t, 0, none⟩)] w fun e w' => e = .returned (ans true true tc.val 0) ∧ w'.heap[t]? = some (.cells tc.idle.cells 103 (0, 0)) ∧ w'.heap[g]? = some (.cells #[.int .i64 0, .int .i64 tc.val] 124 (0, 0)) ∧ Kept [t, g] w w' := by
  have hs := lt_of_block h
  have hnt : t ≠ w.heap.size := Nat.ne_of_lt hs
  have hnt' : w.heap.size ≠ t := Ne.symm hnt
  have hc : ∀ o, w.cell? ⟨t, o, none⟩ = tc.cells[o]? := cell_of h
  simp only [Tc.cells] at hc
  have hg := lt_of_block hE
  have hgt : g ≠ t := ne_of_blocks hE h (by simp)
  have hgt' : t ≠ g := Ne.symm hgt
  have hgn : g ≠ w.heap.size := Nat.ne_of_lt hg
  have hgn' : w.heap.size ≠ g := Ne.symm hgn
  simp only [he] at hc
  have H : Hid _ := h
  have HE : Hid _ := hE
  have HEE : Hid _ := he
  clear h hE he
  subst hx hy
  go_enter Try.func69, Try.ntmps69
  go_wp2_with fail
  go_region_held3 (fun w' => w'.cell? ⟨t, 6, none⟩ = some (Value.pointer (some ⟨g, 0, none⟩)) ∧ w'.cell? ⟨t, 7, none⟩ = some (Value.int IntKind.i64 tc.sst) ∧ w'.cell? ⟨t, 8, none⟩ = some (Value.int IntKind.i64 tc.sv) ∧ w'.cell? ⟨t, 4, none⟩ = some (Value.int IntKind.i64 tc.val)) (first | exact ⟨c96, c97, c98, c94⟩ | (refine ⟨?_, ?_, ?_, ?_⟩ <;> go_simp)) (first | (go_at_call 79; refine (g_having tc.val _).mono ?_; rintro e w' ⟨rfl, rfl⟩) | (go_at_call 78; refine Calls.mono (g_setIfC_yes g tc.sst tc.sv 0 tc.val _ (by repeat (first | with_reducible exact HE.out | with_reducible refine blk_drew ?_ | with_reducible refine blk_drewN ?_ _ | with_reducible refine block_set_ne ?_ (by assumption) _ _ | with_reducible refine block_alloc_lt ?_ _))) ?_; rintro e w9 ⟨rfl, e9, k9⟩; have t9 : w9.heap[t]? = some (.cells tc.cells 103 (0, 0)) := k9.at (by repeat (first | with_reducible exact H.out | with_reducible refine blk_drew ?_ | with_reducible refine blk_drewN ?_ _ | with_reducible refine block_set_ne ?_ (by assumption) _ _ | with_reducible refine block_alloc_lt ?_ _)) (by simp <;> omega); have c96 : w9.cell? ⟨t, 6, none⟩ = some (Value.pointer (some ⟨g, 0, none⟩)) := (cell_of t9 6).trans (by simp [Tc.cells, HEE.out]); have c97 : w9.cell? ⟨t, 7, none⟩ = some (Value.int IntKind.i64 tc.sst) := cell_of t9 7; have c98 : w9.cell? ⟨t, 8, none⟩ = some (Value.int IntKind.i64 tc.sv) := cell_of t9 8; have c94 : w9.cell? ⟨t, 4, none⟩ = some (Value.int IntKind.i64 tc.val) := cell_of t9 4))
  clear hc
  go_wp2_with fail
  refine Calls.mono (g_doneWith tc t tc.val _ (by repeat (first | with_reducible exact t9 | with_reducible refine blk_drew ?_ | with_reducible refine blk_drewN ?_ _ | with_reducible refine block_set_ne ?_ (by assumption) _ _ | with_reducible refine block_alloc_lt ?_ _))) ?_
  rintro e wz ⟨rfl, hz, kz⟩
  have rz : wz.heap[w.heap.size]? = some (.cells #[.bool false, .bool false, .int .i64 0] 30 (0, 0)) := kz.at (k9.at (by repeat (first | with_reducible exact block_alloc_new _ _ | with_reducible refine blk_drew ?_ | with_reducible refine blk_drewN ?_ _ | with_reducible refine block_set_ne ?_ (by assumption) _ _ | with_reducible exact newBox (by with_reducible first | exact rfl | exact size_setP _ _ _ | exact (size_setP _ _ _).trans (size_setP _ _ _) | exact (size_setP _ _ _).trans ((size_setP _ _ _).trans (size_setP _ _ _))) _ | with_reducible refine block_alloc_lt ?_ _)) (by simp <;> omega)) (by simp <;> omega)
  have sz0 : wz.heap[g]? = some (.cells #[.int .i64 0, .int .i64 tc.val] 124 (0, 0)) := kz.at (by repeat (first | with_reducible exact e9 | with_reducible refine blk_drew ?_ | with_reducible refine blk_drewN ?_ _ | with_reducible refine block_set_ne ?_ (by assumption) _ _ | with_reducible refine block_alloc_lt ?_ _)) (by simp <;> omega)
  have KZ : Hid (Kept [t, g] w wz) := Kept.drop (Kept.trans (by repeat (first | with_reducible exact Kept.refl _ _ | with_reducible refine Kept.drew ?_ | with_reducible refine Kept.drewN ?_ _ | with_reducible refine Kept.alloc ?_ _ | with_reducible refine Kept.setAt ?_ (.inl mem0) _ _ | with_reducible refine Kept.setAt ?_ (.inl mem1) _ _ | with_reducible refine Kept.setAt ?_ (.inl mem2) _ _ | with_reducible refine Kept.setAt ?_ (.inr (Nat.le_refl _)) _ _)) (k9.mono (by simp))) kz (by simp)
  have hcz : ∀ o, wz.cell? ⟨w.heap.size, o, none⟩ = #[.bool false, .bool false, .int .i64 0][o]? := cell_of rz
  have hfz : ∀ o, wz.frozen? ⟨w.heap.size, o, none⟩ = false := frozen_of rz
  clear kz
  simp only [ans]
  go_wp2
  refine bodyPost_ret (v := ans true true tc.val 0) (by simp [results, Try.results69, go_sem, ans, cell_of (resLaidP rz true true tc.val)]) rfl ⟨rfl, blk_res hz (by omega) _ _ _, blk_res sz0 (by omega) _ _ _, KZ.out.res (Nat.le_refl _) _ _ _⟩
set_option maxRecDepth 100000 in
set_option maxHeartbeats 1600000 in
theorem p_s4_no (tc : Tc) (sh : Sh) (t : Nat) (w : World) (h : w.heap[t]? = some (.cells tc.cells 103 (0, 0))) (hS : w.heap[tc.s]? = some (.cells sh.cells 97 (0, 0))) (hl : ¬ sh.hol = -1) :
    Calls Try.prog 62 #[.pointer (some ⟨t, 0, none⟩)] w fun e w' => e = .returned (ans false false 0 4) ∧ Kept [] w w' := by
  have hs := lt_of_block h
  have hs2 := lt_of_block hS
  have hne : t ≠ tc.s := ne_of_blocks h hS (by simp)
  have hne' : tc.s ≠ t := Ne.symm hne
  have hnt : t ≠ w.heap.size := Nat.ne_of_lt hs
  have hns : tc.s ≠ w.heap.size := Nat.ne_of_lt hs2
  have hnt' : w.heap.size ≠ t := Ne.symm hnt
  have hns' : w.heap.size ≠ tc.s := Ne.symm hns
  have H : Hid _ := h
  have HS : Hid _ := hS
  clear h hS
  go_enter Try.func62, Try.ntmps62
  go_wp2_with fail
  refine Calls.mono (g_takeLock_no tc sh t _ _ (by repeat (first | with_reducible exact H.out | with_reducible refine blk_drew ?_ | with_reducible refine blk_drewN ?_ _ | with_reducible refine block_set_ne ?_ (by assumption) _ _ | with_reducible refine block_alloc_lt ?_ _)) (by repeat (first | with_reducible exact HS.out | with_reducible refine blk_drew ?_ | with_reducible refine blk_drewN ?_ _ | with_reducible refine block_set_ne ?_ (by assumption) _ _ | with_reducible refine block_alloc_lt ?_ _)) hl) ?_
  rintro e wz ⟨rfl, kz⟩
  have rz : wz.heap[w.heap.size]? = some (.cells #[.bool false, .bool false, .int .i64 0] 30 (0, 0)) := kz.at (by repeat (first | with_reducible exact block_alloc_new _ _ | with_reducible refine blk_drew ?_ | with_reducible refine blk_drewN ?_ _ | with_reducible refine block_set_ne ?_ (by assumption) _ _ | with_reducible exact newBox (by with_reducible first | exact rfl | exact size_setP _ _ _ | exact (size_setP _ _ _).trans (size_setP _ _ _) | exact (size_setP _ _ _).trans ((size_setP _ _ _).trans (size_setP _ _ _))) _ | with_reducible refine block_alloc_lt ?_ _)) (by simp <;> omega)
  have KZ : Hid (Kept [] w wz) := Kept.drop (by repeat (first | with_reducible exact Kept.refl _ _ | with_reducible refine Kept.drew ?_ | with_reducible refine Kept.drewN ?_ _ | with_reducible refine Kept.alloc ?_ _ | with_reducible refine Kept.setAt ?_ (.inl mem0) _ _ | with_reducible refine Kept.setAt ?_ (.inl mem1) _ _ | with_reducible refine Kept.setAt ?_ (.inl mem2) _ _ | with_reducible refine Kept.setAt ?_ (.inr (Nat.le_refl _)) _ _)) kz (by simp)
  have hcz : ∀ o, wz.cell? ⟨w.heap.size, o, none⟩ = #[.bool false, .bool false, .int .i64 0][o]? := cell_of rz
  have hfz : ∀ o, wz.frozen? ⟨w.heap.size, o, none⟩ = false := frozen_of rz
  clear kz
  simp only [ans]
  go_wp2
  refine bodyPost_ret (v := ans false false 0 4) (by simp [results, Try.results62, go_sem, ans, cell_of (resLaidP rz false false 0)]) rfl ⟨rfl, KZ.out.res (Nat.le_refl _) _ _ _⟩
set_option maxRecDepth 100000 in
set_option maxHeartbeats 1600000 in
theorem p_s4_yes (tc : Tc) (sh : Sh) (t : Nat) (w : World) (h : w.heap[t]? = some (.cells tc.cells 103 (0, 0))) (hS : w.heap[tc.s]? = some (.cells sh.cells 97 (0, 0))) (hl : sh.hol = -1) :
    Calls Try.prog 62 #[.pointer (some ⟨t, 0, none⟩)] w fun e w' => e = .returned (ans false false 0 0) ∧ w'.heap[t]? = some (.cells { tc with nx := .func (.func 68) #[.pointer (some ⟨t, 0, none⟩)] #[] }.cells 103 (0, 0)) ∧ w'.heap[tc.s]? = some (.cells { sh with hol := tc.i }.cells 97 (0, 0)) ∧ Kept [t, tc.s] w w' := by
  have hs := lt_of_block h
  have hs2 := lt_of_block hS
  have hne : t ≠ tc.s := ne_of_blocks h hS (by simp)
  have hne' : tc.s ≠ t := Ne.symm hne
  have hnt : t ≠ w.heap.size := Nat.ne_of_lt hs
  have hns : tc.s ≠ w.heap.size := Nat.ne_of_lt hs2
  have hnt' : w.heap.size ≠ t := Ne.symm hnt
  have hns' : w.heap.size ≠ tc.s := Ne.symm hns
  have H : Hid _ := h
  have HS : Hid _ := hS
  clear h hS
  go_enter Try.func62, Try.ntmps62
  go_wp2_with fail
  refine Calls.mono (g_takeLock_yes tc sh t (.func 68) #[.pointer (some ⟨t, 0, none⟩)] #[] _ (by repeat (first | with_reducible exact H.out | with_reducible refine blk_drew ?_ | with_reducible refine blk_drewN ?_ _ | with_reducible refine block_set_ne ?_ (by assumption) _ _ | with_reducible refine block_alloc_lt ?_ _)) (by repeat (first | with_reducible exact HS.out | with_reducible refine blk_drew ?_ | with_reducible refine blk_drewN ?_ _ | with_reducible refine block_set_ne ?_ (by assumption) _ _ | with_reducible refine block_alloc_lt ?_ _)) hl) ?_
  rintro e wz ⟨rfl, hz, sz0, kz⟩
  have rz : wz.heap[w.heap.size]? = some (.cells #[.bool false, .bool false, .int .i64 0] 30 (0, 0)) := kz.at (by repeat (first | with_reducible exact block_alloc_new _ _ | with_reducible refine blk_drew ?_ | with_reducible refine blk_drewN ?_ _ | with_reducible refine block_set_ne ?_ (by assumption) _ _ | with_reducible exact newBox (by with_reducible first | exact rfl | exact size_setP _ _ _ | exact (size_setP _ _ _).trans (size_setP _ _ _) | exact (size_setP _ _ _).trans ((size_setP _ _ _).trans (size_setP _ _ _))) _ | with_reducible refine block_alloc_lt ?_ _)) (by simp <;> omega)
  have KZ : Hid (Kept [t, tc.s] w wz) := Kept.drop (by repeat (first | with_reducible exact Kept.refl _ _ | with_reducible refine Kept.drew ?_ | with_reducible refine Kept.drewN ?_ _ | with_reducible refine Kept.alloc ?_ _ | with_reducible refine Kept.setAt ?_ (.inl mem0) _ _ | with_reducible refine Kept.setAt ?_ (.inl mem1) _ _ | with_reducible refine Kept.setAt ?_ (.inl mem2) _ _ | with_reducible refine Kept.setAt ?_ (.inr (Nat.le_refl _)) _ _)) kz (by simp)
  have hcz : ∀ o, wz.cell? ⟨w.heap.size, o, none⟩ = #[.bool false, .bool false, .int .i64 0][o]? := cell_of rz
  have hfz : ∀ o, wz.frozen? ⟨w.heap.size, o, none⟩ = false := frozen_of rz
  clear kz
  simp only [ans]
  go_wp2
  refine bodyPost_ret (v := ans false false 0 0) (by simp [results, Try.results62, go_sem, ans, cell_of (resLaidP rz false false 0)]) rfl ⟨rfl, blk_res hz (by omega) _ _ _, blk_res sz0 (by omega) _ _ _, KZ.out.res (Nat.le_refl _) _ _ _⟩
set_option maxRecDepth 100000 in
set_option maxHeartbeats 1600000 in
theorem p_s6_out (tc : Tc) (t : Nat) (g : Nat) (x y : Int) (w : World) (h : w.heap[t]? = some (.cells tc.cells 103 (0, 0))) (hE : w.heap[g]? = some (.cells #[.int .i64 x, .int .i64 y] 124 (0, 0))) (he : tc.e = some ⟨g, 0, none⟩) (hx : ¬ x = 2) :
    Calls Try.prog 77 #[.pointer (some ⟨t, 0, none⟩)] w fun e w' => e = .returned (ans false false 0 0) ∧ w'.heap[t]? = some (.cells { tc with nx := .func (.func 85) #[.pointer (some ⟨t, 0, none⟩)] #[] }.cells 103 (0, 0)) ∧ Kept [t] w w' := by
  have hs := lt_of_block h
  have hnt : t ≠ w.heap.size := Nat.ne_of_lt hs
  have hnt' : w.heap.size ≠ t := Ne.symm hnt
  have hc : ∀ o, w.cell? ⟨t, o, none⟩ = tc.cells[o]? := cell_of h
  simp only [Tc.cells] at hc
  have hg := lt_of_block hE
  have hgt : g ≠ t := ne_of_blocks hE h (by simp)
  have hgt' : t ≠ g := Ne.symm hgt
  have hgn : g ≠ w.heap.size := Nat.ne_of_lt hg
  have hgn' : w.heap.size ≠ g := Ne.symm hgn
  simp only [he] at hc
  have H : Hid _ := h
  have HE : Hid _ := hE
  have HEE : Hid _ := he
  clear h hE he
  go_enter Try.func77, Try.ntmps77
  go_wp2_with fail
  refine Calls.mono (g_setIfC_no g x y 2 0 1 0 _ (by repeat (first | with_reducible exact HE.out | with_reducible refine blk_drew ?_ | with_reducible refine blk_drewN ?_ _ | with_reducible refine block_set_ne ?_ (by assumption) _ _ | with_reducible refine block_alloc_lt ?_ _)) (fun hh => hx hh.1)) ?_
  rintro e w9 ⟨rfl, k9⟩
  clear hc
  go_wp2_with fail
  refine Calls.mono (g_goOn tc t (.func 85) #[.pointer (some ⟨t, 0, none⟩)] #[] _ (k9.at (by repeat (first | with_reducible exact H.out | with_reducible refine blk_drew ?_ | with_reducible refine blk_drewN ?_ _ | with_reducible refine block_set_ne ?_ (by assumption) _ _ | with_reducible refine block_alloc_lt ?_ _)) (by simp))) ?_
  rintro e wz ⟨rfl, hz, kz⟩
  have rz : wz.heap[w.heap.size]? = some (.cells #[.bool false, .bool false, .int .i64 0] 30 (0, 0)) := kz.at (k9.at (by repeat (first | with_reducible exact block_alloc_new _ _ | with_reducible refine blk_drew ?_ | with_reducible refine blk_drewN ?_ _ | with_reducible refine block_set_ne ?_ (by assumption) _ _ | with_reducible exact newBox (by with_reducible first | exact rfl | exact size_setP _ _ _ | exact (size_setP _ _ _).trans (size_setP _ _ _) | exact (size_setP _ _ _).trans ((size_setP _ _ _).trans (size_setP _ _ _))) _ | with_reducible refine block_alloc_lt ?_ _)) (by simp)) (by simp <;> omega)
  have KZ : Hid (Kept [t] w wz) := Kept.drop (Kept.trans (by repeat (first | with_reducible exact Kept.refl _ _ | with_reducible refine Kept.drew ?_ | with_reducible refine Kept.drewN ?_ _ | with_reducible refine Kept.alloc ?_ _ | with_reducible refine Kept.setAt ?_ (.inl mem0) _ _ | with_reducible refine Kept.setAt ?_ (.inl mem1) _ _ | with_reducible refine Kept.setAt ?_ (.inl mem2) _ _ | with_reducible refine Kept.setAt ?_ (.inr (Nat.le_refl _)) _ _)) (k9.mono (by simp))) kz (by simp)
  have hcz : ∀ o, wz.cell? ⟨w.heap.size, o, none⟩ = #[.bool false, .bool false, .int .i64 0][o]? := cell_of rz
  have hfz : ∀ o, wz.frozen? ⟨w.heap.size, o, none⟩ = false := frozen_of rz
  clear kz
  simp only [ans]
  go_wp2
  refine bodyPost_ret (v := ans false false 0 0) (by simp [results, Try.results77, go_sem, ans, cell_of (resLaidP rz false false 0)]) rfl ⟨rfl, blk_res hz (by omega) _ _ _, KZ.out.res (Nat.le_refl _) _ _ _⟩
set_option maxRecDepth 100000 in
set_option maxHeartbeats 1600000 in
theorem p_s6_on (tc : Tc) (t : Nat) (g : Nat) (x y : Int) (w : World) (h : w.heap[t]? = some (.cells tc.cells 103 (0, 0))) (hE : w.heap[g]? = some (.cells #[.int .i64 x, .int .i64 y] 124 (0, 0))) (he : tc.e = some ⟨g, 0, none⟩) (hx : x = 2) (hy : y = 0) :
    Calls Try.prog 77 #[.pointer (some ⟨t, 0, none⟩)] w fun e w' => e = .returned (ans false false 0 0) ∧ w'.heap[t]? = some (.cells { tc with nx := .func (.func 88) #[.pointer (some ⟨t, 0, none⟩)] #[] }.cells 103 (0, 0)) ∧ w'.heap[g]? = some (.cells #[.int .i64 1, .int .i64 0] 124 (0, 0)) ∧ Kept [t, g] w w' := by
  have hs := lt_of_block h
  have hnt : t ≠ w.heap.size := Nat.ne_of_lt hs
  have hnt' : w.heap.size ≠ t := Ne.symm hnt
  have hc : ∀ o, w.cell? ⟨t, o, none⟩ = tc.cells[o]? := cell_of h
  simp only [Tc.cells] at hc
  have hg := lt_of_block hE
  have hgt : g ≠ t := ne_of_blocks hE h (by simp)
  have hgt' : t ≠ g := Ne.symm hgt
  have hgn : g ≠ w.heap.size := Nat.ne_of_lt hg
  have hgn' : w.heap.size ≠ g := Ne.symm hgn
  simp only [he] at hc
  have H : Hid _ := h
  have HE : Hid _ := hE
  have HEE : Hid _ := he
  clear h hE he
  subst hx hy
  go_enter Try.func77, Try.ntmps77
  go_wp2_with fail
  refine Calls.mono (g_setIfC_yes g 2 0 1 0 _ (by repeat (first | with_reducible exact HE.out | with_reducible refine blk_drew ?_ | with_reducible refine blk_drewN ?_ _ | with_reducible refine block_set_ne ?_ (by assumption) _ _ | with_reducible refine block_alloc_lt ?_ _))) ?_
  rintro e w9 ⟨rfl, e9, k9⟩
  clear hc
  go_wp2_with fail
  refine Calls.mono (g_goOn tc t (.func 88) #[.pointer (some ⟨t, 0, none⟩)] #[] _ (k9.at (by repeat (first | with_reducible exact H.out | with_reducible refine blk_drew ?_ | with_reducible refine blk_drewN ?_ _ | with_reducible refine block_set_ne ?_ (by assumption) _ _ | with_reducible refine block_alloc_lt ?_ _)) (by simp <;> omega))) ?_
  rintro e wz ⟨rfl, hz, kz⟩
  have rz : wz.heap[w.heap.size]? = some (.cells #[.bool false, .bool false, .int .i64 0] 30 (0, 0)) := kz.at (k9.at (by repeat (first | with_reducible exact block_alloc_new _ _ | with_reducible refine blk_drew ?_ | with_reducible refine blk_drewN ?_ _ | with_reducible refine block_set_ne ?_ (by assumption) _ _ | with_reducible exact newBox (by with_reducible first | exact rfl | exact size_setP _ _ _ | exact (size_setP _ _ _).trans (size_setP _ _ _) | exact (size_setP _ _ _).trans ((size_setP _ _ _).trans (size_setP _ _ _))) _ | with_reducible refine block_alloc_lt ?_ _)) (by simp <;> omega)) (by simp <;> omega)
  have sz0 : wz.heap[g]? = some (.cells #[.int .i64 1, .int .i64 0] 124 (0, 0)) := kz.at e9 (by simp <;> omega)
  have KZ : Hid (Kept [t, g] w wz) := Kept.drop (Kept.trans (by repeat (first | with_reducible exact Kept.refl _ _ | with_reducible refine Kept.drew ?_ | with_reducible refine Kept.drewN ?_ _ | with_reducible refine Kept.alloc ?_ _ | with_reducible refine Kept.setAt ?_ (.inl mem0) _ _ | with_reducible refine Kept.setAt ?_ (.inl mem1) _ _ | with_reducible refine Kept.setAt ?_ (.inl mem2) _ _ | with_reducible refine Kept.setAt ?_ (.inr (Nat.le_refl _)) _ _)) (k9.mono (by simp))) kz (by simp)
  have hcz : ∀ o, wz.cell? ⟨w.heap.size, o, none⟩ = #[.bool false, .bool false, .int .i64 0][o]? := cell_of rz
  have hfz : ∀ o, wz.frozen? ⟨w.heap.size, o, none⟩ = false := frozen_of rz
  clear kz
  simp only [ans]
  go_wp2
  refine bodyPost_ret (v := ans false false 0 0) (by simp [results, Try.results77, go_sem, ans, cell_of (resLaidP rz false false 0)]) rfl ⟨rfl, blk_res hz (by omega) _ _ _, blk_res sz0 (by omega) _ _ _, KZ.out.res (Nat.le_refl _) _ _ _⟩
end Go.Proofs.Ytmnkphenobfbfaa
