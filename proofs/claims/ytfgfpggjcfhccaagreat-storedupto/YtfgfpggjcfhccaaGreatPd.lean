import Derived.Test.YtfgfpggjcfhccaaGreatPc
namespace Go.Proofs.YtfgfpggjcfhccaaGreat
open Go.RowKit
set_option maxRecDepth 100000 in
set_option maxHeartbeats 800000 in
theorem g_takeLock_no (tc : Tc) (sh : Sh) (t : Nat) (nx : Value) (w : World) (h : w.heap[t]? = some (.cells tc.cells 116 (0, 0))) (hS : w.heap[tc.s]? = some (.cells sh.cells 111 (0, 0))) (hl : ¬ sh.hol = -1) :
    Calls Tryz.prog 87 #[.pointer (some ⟨t, 0, none⟩), nx] w fun e w' => e = .returned (ans false false 0 4) ∧ Kept [] w w' := by
  have hs := lt_of_block h
  have hs2 := lt_of_block hS
  have hc : ∀ o, w.cell? ⟨t, o, none⟩ = tc.cells[o]? := cell_of h
  have hl2 : w.cell? ⟨tc.s, 19, none⟩ = some (.int .i64 sh.hol) := cell_of hS 19
  simp only [Tc.cells] at hc
  go_enter Tryz.func87, Tryz.ntmps87
  go_wp2_with fail
  go_quiet ((go_at_call 91; refine Calls.quiet_of_same (g_setIfInt_no tc.s 19 sh.hol (-1) tc.i _ (cell_of (block_alloc_lt hS _) 19) hl)))
  go_wp2
  refine bodyPost_ret (v := ans false false 0 4) (by simp [results, Tryz.results87, go_sem, ans]) rfl ⟨rfl, ?_⟩
  exact (((Kept.refl [] w).alloc _).drewN _).res (Nat.le_refl _) _ _ _
theorem newBox {w w1 : World} (h : w1.heap.size = w.heap.size) (x : Obj) : (w1.alloc x).heap[w.heap.size]? = some x := by
  rw [← h]; exact block_alloc_new w1 x
theorem size_setP (w : World) (a : Addr) (v : Value) : (w.setCell a v).heap.size = w.heap.size := by simp [World.setCell]
theorem Kept.setAt {F : List Nat} {a w : World} (h : Kept F a w) {b : Nat} (hb : b ∈ F ∨ a.heap.size ≤ b) (o : Nat) (u : Value) : Kept F a (w.setCell ⟨b, o, none⟩ u) := h.setCell hb u
theorem mem0 {a : Nat} {l : List Nat} : a ∈ a :: l := List.mem_cons_self
theorem mem1 {a b : Nat} {l : List Nat} : a ∈ b :: a :: l := List.mem_cons_of_mem _ List.mem_cons_self
theorem mem2 {a b c : Nat} {l : List Nat} : a ∈ b :: c :: a :: l := List.mem_cons_of_mem _ (List.mem_cons_of_mem _ List.mem_cons_self)
set_option maxRecDepth 100000 in
set_option maxHeartbeats 1600000 in
theorem g_takeLock_yes (tc : Tc) (sh : Sh) (t : Nat) (fn : Fn) (a b : Array Value) (w : World) (h : w.heap[t]? = some (.cells tc.cells 116 (0, 0))) (hS : w.heap[tc.s]? = some (.cells sh.cells 111 (0, 0))) (hl : sh.hol = -1) :
    Calls Tryz.prog 87 #[.pointer (some ⟨t, 0, none⟩), .func fn a b] w fun e w' => e = .returned (ans false false 0 0) ∧ w'.heap[t]? = some (.cells { tc with nx := .func fn a b }.cells 116 (0, 0)) ∧ w'.heap[tc.s]? = some (.cells { sh with hol := tc.i }.cells 111 (0, 0)) ∧ Kept [t, tc.s] w w' := by
  have hs := lt_of_block h
  have hs2 := lt_of_block hS
  have hne : t ≠ tc.s := ne_of_blocks h hS (by simp)
  have hne' : tc.s ≠ t := Ne.symm hne
  have hnt : t ≠ w.heap.size := Nat.ne_of_lt hs
  have hns : tc.s ≠ w.heap.size := Nat.ne_of_lt hs2
  have hnt' : w.heap.size ≠ t := Ne.symm hnt
  have hns' : w.heap.size ≠ tc.s := Ne.symm hns
  have hc : ∀ o, w.cell? ⟨t, o, none⟩ = tc.cells[o]? := cell_of h
  simp only [Tc.cells] at hc
  have hl2 : w.cell? ⟨tc.s, 19, none⟩ = some (.int .i64 sh.hol) := cell_of hS 19
  rw [hl] at hl2
  have hf2 : w.frozen? ⟨tc.s, 19, none⟩ = false := frozen_of hS 19
  have H : Hid _ := h
  have HS : Hid _ := hS
  clear h hS hl
  go_enter Tryz.func87, Tryz.ntmps87
  go_wp2_with fail
  go_region_held3 (fun w' => ∀ o, w'.cell? ⟨t, o, none⟩ = #[Value.int IntKind.i64 tc.i, .pointer (some ⟨tc.s, 0, none⟩), .int IntKind.i64 tc.kind, .int IntKind.i64 tc.key, .int IntKind.i64 tc.val, .int IntKind.i64 tc.old, .pointer tc.e, .int IntKind.i64 tc.sst, .int IntKind.i64 tc.sv, .int IntKind.i64 tc.cp, tc.nx][o]?) ((intro o; go_simp)) ((go_at_call 91; refine (g_setIfInt_yes tc.s 19 (-1) tc.i _ (by go_simp) (by go_simp)).mono ?_; rintro e w' ⟨rfl, rfl⟩))
  clear hc hl2 hf2
  go_wp2_with fail
  refine Calls.mono (g_goOn tc t fn a b _ (by repeat (first | with_reducible exact H.out | with_reducible refine blk_drew ?_ | with_reducible refine blk_drewN ?_ _ | with_reducible refine block_set_ne ?_ (by assumption) _ _ | with_reducible refine block_alloc_lt ?_ _))) ?_
  rintro e wz ⟨rfl, hz, kz⟩
  have rz : wz.heap[w.heap.size]? = some (.cells #[.bool false, .bool false, .int .i64 0] 52 (0, 0)) := kz.at (by repeat (first | with_reducible exact block_alloc_new _ _ | with_reducible refine blk_drew ?_ | with_reducible refine blk_drewN ?_ _ | with_reducible refine block_set_ne ?_ (by assumption) _ _ | with_reducible exact newBox (by with_reducible first | exact rfl | exact size_setP _ _ _ | exact (size_setP _ _ _).trans (size_setP _ _ _) | exact (size_setP _ _ _).trans ((size_setP _ _ _).trans (size_setP _ _ _))) _ | with_reducible refine block_alloc_lt ?_ _)) (by simp; omega)
  have sz0 : wz.heap[tc.s]? = some (.cells { sh with hol := tc.i }.cells 111 (0, 0)) := kz.at (blk_drew (block_alloc_lt ((block_set_same HS.out _ _).trans (by simp [Sh.cells])) _)) (by simp; omega)
  have KZ : Hid (Kept [t, tc.s] w wz) := Kept.drop (by repeat (first | with_reducible exact Kept.refl _ _ | with_reducible refine Kept.drew ?_ | with_reducible refine Kept.drewN ?_ _ | with_reducible refine Kept.alloc ?_ _ | with_reducible refine Kept.setAt ?_ (.inl mem0) _ _ | with_reducible refine Kept.setAt ?_ (.inl mem1) _ _ | with_reducible refine Kept.setAt ?_ (.inl mem2) _ _ | with_reducible refine Kept.setAt ?_ (.inr (Nat.le_refl _)) _ _)) kz (by simp)
  have hcz : ∀ o, wz.cell? ⟨w.heap.size, o, none⟩ = #[.bool false, .bool false, .int .i64 0][o]? := cell_of rz
  have hfz : ∀ o, wz.frozen? ⟨w.heap.size, o, none⟩ = false := frozen_of rz
  clear kz
  simp only [ans]
  go_wp2
  refine bodyPost_ret (v := ans false false 0 0) (by simp [results, Tryz.results87, go_sem, ans, cell_of (resLaidP rz false false 0)]) rfl ⟨rfl, blk_res hz (by omega) _ _ _, blk_res sz0 (by omega) _ _ _, KZ.out.res (Nat.le_refl _) _ _ _⟩
theorem tabSet (f : Nat → Option Addr) (k : Nat) (e0 : Option Addr) (b : Bool) (hk : k < 8) :
    ([Value.pointer (f 0), .pointer (f 1), .pointer (f 2), .pointer (f 3), .pointer (f 4), .pointer (f 5), .pointer (f 6), .pointer (f 7), .bool b].set k (.pointer e0)).toArray = tabCells (fun j => if j = k then e0 else f j) b := by
  match k, hk with
  | 0, _ | 1, _ | 2, _ | 3, _ | 4, _ | 5, _ | 6, _ | 7, _ => rfl
set_option maxRecDepth 100000 in
set_option maxHeartbeats 1600000 in
theorem g_putInDirty (sh : Sh) (s : Nat) (k : Nat) (e0 : Option Addr) (w : World) (hS : w.heap[s]? = some (.cells sh.cells 111 (0, 0))) (hk : k < 8) :
    Calls Tryz.prog 107 #[.pointer (some ⟨s, 0, none⟩), .int .i64 k, .pointer e0] w fun e w' => e = .returned (.tuple #[]) ∧ w'.heap[s]? = some (.cells { sh with D := fun j => if j = k then e0 else sh.D j }.cells 111 (0, 0)) ∧ Kept [s] w w' := by
  have hs := lt_of_block hS
  have hk1 : (k : Int) < 8 := by omega
  have hkt : ((k : Int)).toNat = k := by simp
  go_enter Tryz.func107, Tryz.ntmps107
  go_wp2_with fail
  refine (g_lookDirty sh s _ hS).mono ?_
  rintro e w1 ⟨rfl, rfl⟩
  simp only [tabCells]
  go_wp2_with fail
  simp only [tabSet sh.D k e0 sh.hd hk]
  generalize hG : (fun j => if j = k then e0 else sh.D j) = G
  have HG : Hid _ := hG
  clear hG
  have h1 := block_alloc_lt (block_alloc_lt hS (.cells (tabCells sh.D sh.hd) 105)) (.cells (tabCells G sh.hd) 105)
  have g1 := block_alloc_new (w.alloc (.cells (tabCells sh.D sh.hd) 105)) (.cells (tabCells G sh.hd) 105)
  have k1 := ((Kept.refl [s] w).alloc (.cells (tabCells sh.D sh.hd) 105)).alloc (.cells (tabCells G sh.hd) 105)
  simp only [World.size_alloc] at g1
  simp only [tabCells] at h1 g1 k1 ⊢
  generalize (w.alloc (.cells #[Value.pointer (sh.D 0), .pointer (sh.D 1), .pointer (sh.D 2), .pointer (sh.D 3), .pointer (sh.D 4), .pointer (sh.D 5), .pointer (sh.D 6), .pointer (sh.D 7), .bool sh.hd] 105)).alloc (.cells #[Value.pointer (G 0), .pointer (G 1), .pointer (G 2), .pointer (G 3), .pointer (G 4), .pointer (G 5), .pointer (G 6), .pointer (G 7), .bool sh.hd] 105) = W at *
  have hc1 : ∀ o, W.cell? ⟨w.heap.size + 1, o, none⟩ = #[Value.pointer (G 0), .pointer (G 1), .pointer (G 2), .pointer (G 3), .pointer (G 4), .pointer (G 5), .pointer (G 6), .pointer (G 7), .bool sh.hd][o]? := cell_of g1
  have H1 : Hid _ := h1
  have K1 : Hid _ := k1
  clear h1 k1 hS
  go_region_with ((go_at_call 109; refine Calls.mono (g_setDirty sh s G sh.hd _ (blk_drew H1.out)) ?_; rintro e wz ⟨rfl, hz, kz⟩))
  all_goals
    go_wp2
    go_end0
    obtain rfl := HG.out
    exact ⟨rfl, hz, K1.out.drew.trans kz⟩
set_option maxRecDepth 100000 in
set_option maxHeartbeats 1600000 in
theorem g_newEntry (v : Int) (w : World) :
    Calls Tryz.prog 108 #[.int .i64 v] w fun e w' => ∃ g, e = .returned (.pointer (some ⟨g, 0, none⟩)) ∧ w'.heap[g]? = some (.cells #[.int .i64 0, .int .i64 v] 141 (0, 0)) ∧ w.heap.size ≤ g ∧ Kept [] w w' := by
  go_enter Tryz.func108, Tryz.ntmps108
  go_wp2_with fail
  go_region_with (first | (go_at_call 97; refine Calls.mono (g_having v _) ?_; rintro e w1 ⟨rfl, rfl⟩) | (go_at_call 105; refine Calls.mono (g_setC w.heap.size 0 0 0 v _ (by repeat (first | with_reducible exact block_alloc_new _ _ | with_reducible refine blk_drew ?_ | with_reducible refine block_alloc_lt ?_ _))) ?_; rintro e wz ⟨rfl, hz, kz⟩))
  all_goals
    go_wp2
    go_ret
    refine ⟨_, rfl, hz, Nat.le_refl _, Kept.drop (F' := [w.heap.size]) (by repeat (first | with_reducible exact Kept.refl _ _ | with_reducible refine Kept.drew ?_ | with_reducible refine Kept.alloc ?_ _)) kz (by simp)⟩
end Go.Proofs.YtfgfpggjcfhccaaGreat
