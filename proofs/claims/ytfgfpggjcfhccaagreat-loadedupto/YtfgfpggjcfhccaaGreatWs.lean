import Derived.Test.YtfgfpggjcfhccaaGreatTk
import Derived.Test.YtfgfpggjcfhccaaGreatOp
namespace Go.Proofs.YtfgfpggjcfhccaaGreat
open Go.RowKit
/-- A World with one map and L lists, begun at w0. -/
structure WAt (wb b : Nat) (p : PM) (q : RM) (cl : Bool) (th : Nat → Option (Int × Int × Int)) (L : Nat) (w0 w : World) : Prop where
  two : Two b p q w cl th
  keys : KeysOk th
  at_ : ∃ pb cap ls l3 xs ys pcs, w.heap[wb]? = some (.cells #[.slice (some ⟨pb, 0, none⟩) 1 cap, ls, l3] 64 (0, 0)) ∧ w.heap[pb]? = some (.cells pcs 22 (0, 0)) ∧ pcs[0]? = some (.pointer (some ⟨b, 0, none⟩)) ∧ LAt w0.heap.size ls l3 L xs ys w
  fresh : ∀ x, x ∈ wb :: p.m :: p.c :: q.r :: q.tb :: p.ts → w0.heap.size ≤ x
  kept : Kept [] w0 w
set_option maxRecDepth 100000 in
set_option maxHeartbeats 1600000 in
theorem wstep_other (wb : Nat) (kd mp i y0 y1 y2 y3 : Int) (w : World) (h1 : kd ≠ 1) (h : kd < 2 ∨ 5 < kd) :
    Calls Tryz.prog 20 #[.pointer (some ⟨wb, 0, none⟩), .agg #[.int .i64 kd, .int .i64 mp, .int .i64 i, .int .i64 y0, .int .i64 y1, .int .i64 y2, .int .i64 y3]] w fun e w' => e = .returned (.bool true) ∧ Kept [] w w' := by
  have e1 : (kd == 1) = false := beq_eq_false_iff_ne.2 h1
  by_cases h2 : kd < 2
  · clear h
    go_enter Tryz.func20, Tryz.ntmps20
    go_wp2
    go_ret
    exact ⟨rfl, (Kept.refl [] w).alloc _⟩
  · have h5 : 5 < kd := by omega
    clear h
    go_enter Tryz.func20, Tryz.ntmps20
    go_wp2
    go_ret
    exact ⟨rfl, (Kept.refl [] w).alloc _⟩
set_option maxRecDepth 100000 in
set_option maxHeartbeats 3200000 in
/-- Begin, Step, Close: whatever 'does' does. -/
theorem wstep_does (wb b pb cap : Nat) (ls l3 : Value) (pcs : Array Value) (kd mp i y0 y1 y2 y3 : Int) (w : World) (Q : World → World → Prop) (hk : kd = 2 ∨ kd = 3 ∨ kd = 5)
    (hb : w.heap[wb]? = some (.cells #[.slice (some ⟨pb, 0, none⟩) 1 cap, ls, l3] 64 (0, 0))) (hpb : w.heap[pb]? = some (.cells pcs 22 (0, 0))) (hpc : pcs[0]? = some (.pointer (some ⟨b, 0, none⟩)))
    (hd : ∀ W, Kept [] w W → Calls Tryz.prog 8 #[.pointer (some ⟨b, 0, none⟩), .agg #[.int .i64 kd, .int .i64 mp, .int .i64 i, .int .i64 y0, .int .i64 y1, .int .i64 y2, .int .i64 y3]] W fun e w' => e = .returned (.bool true) ∧ Q W w') :
    Calls Tryz.prog 20 #[.pointer (some ⟨wb, 0, none⟩), .agg #[.int .i64 kd, .int .i64 mp, .int .i64 i, .int .i64 y0, .int .i64 y1, .int .i64 y2, .int .i64 y3]] w fun e w' => e = .returned (.bool true) ∧ ∃ W, Kept [] w W ∧ Q W w' := by
  have zb := lt_of_block hb
  have e1 : (kd == 1) = false := beq_eq_false_iff_ne.2 (by omega)
  have e4 : (kd == 4) = false := beq_eq_false_iff_ne.2 (by omega)
  have h2 : ¬ kd < 2 := by omega
  have h5 : ¬ 5 < kd := by omega
  have d0 : w.cell? ⟨wb, 0, none⟩ = some (.slice (some ⟨pb, 0, none⟩) 1 cap) := cell_of hb 0
  have ho : (w.alloc (.cells #[Value.int .i64 kd, .int .i64 mp, .int .i64 i, .int .i64 y0, .int .i64 y1, .int .i64 y2, .int .i64 y3] 34)).heap[w.heap.size]? = some (.cells #[Value.int .i64 kd, .int .i64 mp, .int .i64 i, .int .i64 y0, .int .i64 y1, .int .i64 y2, .int .i64 y3] 34 (0, 0)) := block_alloc_new _ _
  have hK : Kept [] w (w.alloc (.cells #[Value.int .i64 kd, .int .i64 mp, .int .i64 i, .int .i64 y0, .int .i64 y1, .int .i64 y2, .int .i64 y3] 34)) := (Kept.refl _ w).alloc _
  have HD : Hid _ := hd
  clear hk hd
  go_enter Tryz.func20, Tryz.ntmps20
  go_wp2_with fail
  have g0 := cell_of (hK.at hb (by simp)) 0
  have gp := (cell_of (hK.at hpb (by simp)) 0).trans hpc
  generalize (w.alloc (.cells #[Value.int .i64 kd, .int .i64 mp, .int .i64 i, .int .i64 y0, .int .i64 y1, .int .i64 y2, .int .i64 y3] 34)) = W0 at *
  have d2 : ∀ x, W0.cell? ⟨w.heap.size, x, none⟩ = #[Value.int .i64 kd, .int .i64 mp, .int .i64 i, .int .i64 y0, .int .i64 y1, .int .i64 y2, .int .i64 y3][x]? := cell_of ho
  go_region_held3 (fun w' => w'.cell? ⟨wb, 0, none⟩ = some (.slice (some ⟨pb, 0, none⟩) 1 cap) ∧ w'.cell? ⟨pb, 0, none⟩ = some (.pointer (some ⟨b, 0, none⟩)) ∧ (∀ x, w'.cell? ⟨w.heap.size, x, none⟩ = #[Value.int .i64 kd, .int .i64 mp, .int .i64 i, .int .i64 y0, .int .i64 y1, .int .i64 y2, .int .i64 y3][x]?))
    (first | exact ⟨g0, gp, d2⟩)
    (first | (go_at_call 39; refine (pick_one mp _).mono ?_; rintro e w1 ⟨rfl, rfl⟩))
  go_wp2_with fail
  refine (HD.out _ hK.drew).mono ?_
  rintro e w2 ⟨rfl, hq⟩
  have HQ : Hid _ := hq
  clear hq g0 gp d2 d0
  go_wp2
  go_ret
  exact ⟨rfl, _, hK.drew, HQ.out⟩
end Go.Proofs.YtfgfpggjcfhccaaGreat
