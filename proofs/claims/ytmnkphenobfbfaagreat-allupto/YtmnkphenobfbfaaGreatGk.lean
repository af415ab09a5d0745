import Derived.Test.YtmnkphenobfbfaaGreatGj
import Derived.Test.YtmnkphenobfbfaaGreatGg
import Derived.Deep.LoopGhost
namespace Go.Proofs.YtmnkphenobfbfaaGreat
open Go.RowKit
/-- A World with one map and L lists, begun at w0. -/
structure WAt (wb b : Nat) (p : PM) (q : RM) (cl : Bool) (th : Nat → Option (Int × Int × Int)) (L : Nat) (w0 w : World) : Prop where
  two : Two b p q w cl th
  keys : KeysOk th
  at_ : ∃ pb cap ls l3 xs ys pcs, w.heap[wb]? = some (.cells #[.slice (some ⟨pb, 0, none⟩) 1 cap, ls, l3] 64 (0, 0)) ∧ w.heap[pb]? = some (.cells pcs 22 (0, 0)) ∧ pcs[0]? = some (.pointer (some ⟨b, 0, none⟩)) ∧ LAt w0.heap.size ls l3 L xs ys w
  fresh : ∀ x, x ∈ wb :: p.m :: p.c :: q.r :: q.tb :: p.ts → w0.heap.size ≤ x
  kept : Kept [] w0 w
set_option maxRecDepth 100000 in
set_option maxHeartbeats 1600000 in
theorem wstep_other (wb : Nat) (kd mp i y0 y1 y2 y3 : Int) (w : World) (h1 : kd ≠ 1) (h : kd < 2 ∨ 5 < kd) :
    Calls Tryz.prog 21 #[.pointer (some ⟨wb, 0, none⟩), .agg #[.int .i64 kd, .int .i64 mp, .int .i64 i, .int .i64 y0, .int .i64 y1, .int .i64 y2, .int .i64 y3]] w fun e w' => e = .returned (.bool true) ∧ Kept [] w w' := by
  have e1 : (kd == 1) = false := beq_eq_false_iff_ne.2 h1
  by_cases h2 : kd < 2
  · clear h
    go_enter Tryz.func21, Tryz.ntmps21
    go_wp2
    go_ret
    exact ⟨rfl, (Kept.refl [] w).alloc _⟩
  · have h5 : 5 < kd := by omega
    clear h
    go_enter Tryz.func21, Tryz.ntmps21
    go_wp2
    go_ret
    exact ⟨rfl, (Kept.refl [] w).alloc _⟩
set_option maxRecDepth 100000 in
set_option maxHeartbeats 3200000 in
/-- Begin, Step, Close: whatever 'does' does. -/
theorem wstep_does (wb b pb cap : Nat) (ls l3 : Value) (pcs : Array Value) (kd mp i y0 y1 y2 y3 : Int) (w : World) (Q : World → World → Prop) (hk : kd = 2 ∨ kd = 3 ∨ kd = 5)
    (hb : w.heap[wb]? = some (.cells #[.slice (some ⟨pb, 0, none⟩) 1 cap, ls, l3] 64 (0, 0))) (hpb : w.heap[pb]? = some (.cells pcs 22 (0, 0))) (hpc : pcs[0]? = some (.pointer (some ⟨b, 0, none⟩)))
    (hd : ∀ W, Kept [] w W → Calls Tryz.prog 9 #[.pointer (some ⟨b, 0, none⟩), .agg #[.int .i64 kd, .int .i64 mp, .int .i64 i, .int .i64 y0, .int .i64 y1, .int .i64 y2, .int .i64 y3]] W fun e w' => e = .returned (.bool true) ∧ Q W w') :
    Calls Tryz.prog 21 #[.pointer (some ⟨wb, 0, none⟩), .agg #[.int .i64 kd, .int .i64 mp, .int .i64 i, .int .i64 y0, .int .i64 y1, .int .i64 y2, .int .i64 y3]] w fun e w' => e = .returned (.bool true) ∧ ∃ W, Kept [] w W ∧ Q W w' := by
  have zb := lt_of_block hb
  have e1 : (kd == 1) = false := beq_eq_false_iff_ne.2 (by omega)
  have e4 : (kd == 4) = false := beq_eq_false_iff_ne.2 (by omega)
  have h2 : ¬ kd < 2 := by omega
  have h5 : ¬ 5 < kd := by omega
  have d0 : w.cell? ⟨wb, 0, none⟩ = some (.slice (some ⟨pb, 0, none⟩) 1 cap) := cell_of hb 0
  have ho : (w.alloc (.cells #[Value.int .i64 kd, .int .i64 mp, .int .i64 i, .int .i64 y0, .int .i64 y1, .int .i64 y2, .int .i64 y3] 34)).heap[w.heap.size]? = some (.cells #[Value.int .i64 kd, .int .i64 mp, .int .i64 i, .int .i64 y0, .int .i64 y1, .int .i64 y2, .int .i64 y3] 34 (0, 0)) := block_alloc_new _ _
  have hK : Kept [] w (w.alloc (.cells #[Value.int .i64 kd, .int .i64 mp, .int .i64 i, .int .i64 y0, .int .i64 y1, .int .i64 y2, .int .i64 y3] 34)) := (Kept.refl _ w).alloc _
  have HD : Hid _ := hd
  clear hk hd
  go_enter Tryz.func21, Tryz.ntmps21
  go_wp2_with fail
  have g0 := cell_of (hK.at hb (by simp)) 0
  have gp := (cell_of (hK.at hpb (by simp)) 0).trans hpc
  generalize (w.alloc (.cells #[Value.int .i64 kd, .int .i64 mp, .int .i64 i, .int .i64 y0, .int .i64 y1, .int .i64 y2, .int .i64 y3] 34)) = W0 at *
  have d2 : ∀ x, W0.cell? ⟨w.heap.size, x, none⟩ = #[Value.int .i64 kd, .int .i64 mp, .int .i64 i, .int .i64 y0, .int .i64 y1, .int .i64 y2, .int .i64 y3][x]? := cell_of ho
  go_region_held3 (fun w' => w'.cell? ⟨wb, 0, none⟩ = some (.slice (some ⟨pb, 0, none⟩) 1 cap) ∧ w'.cell? ⟨pb, 0, none⟩ = some (.pointer (some ⟨b, 0, none⟩)) ∧ (∀ x, w'.cell? ⟨w.heap.size, x, none⟩ = #[Value.int .i64 kd, .int .i64 mp, .int .i64 i, .int .i64 y0, .int .i64 y1, .int .i64 y2, .int .i64 y3][x]?))
    (first | exact ⟨g0, gp, d2⟩)
    (first | (go_at_call 40; refine (pick_one mp _).mono ?_; rintro e w1 ⟨rfl, rfl⟩))
  go_wp2_with fail
  refine (HD.out _ hK.drew).mono ?_
  rintro e w2 ⟨rfl, hq⟩
  have HQ : Hid _ := hq
  clear hq g0 gp d2 d0
  go_wp2
  go_ret
  exact ⟨rfl, _, hK.drew, HQ.out⟩
end Go.Proofs.YtmnkphenobfbfaaGreat
namespace Go.Proofs.YtmnkphenobfbfaaGreat
open Go.RowKit
/-- F holds the World's own block and its rows alone. -/
def Rows25 (F : List Nat) (w : World) : Prop := ∀ y, y ∈ F → ∃ cs, w.heap[y]? = some (.cells cs 64 (0, 0)) ∨ w.heap[y]? = some (.cells cs 25 (0, 0))
theorem Rows25.off {F : List Nat} {w : World} (h : Rows25 F w) {x : Nat} {o : Obj} (hx : w.heap[x]? = some o) (h1 : ∀ cs, o ≠ .cells cs 64 (0, 0)) (h2 : ∀ cs, o ≠ .cells cs 25 (0, 0)) : x ∉ F := by
  intro hm
  obtain ⟨cs, hc | hc⟩ := h x hm
  · exact h1 cs (Option.some.inj (hx.symm.trans hc))
  · exact h2 cs (Option.some.inj (hx.symm.trans hc))
theorem Two.rows {b : Nat} {p : PM} {q : RM} {w w' : World} {cl : Bool} {th : Nat → Option (Int × Int × Int)} {F : List Nat} (h : Two b p q w cl th) (k : Kept F w w') (hF : Rows25 F w) : Two b p q w' cl th := by
  obtain ⟨cs, g1, _⟩ := h.q.tb
  obtain ⟨cs', g2, _⟩ := h.p.tb
  exact ⟨h.n, k.at h.b (hF.off h.b (by simp) (by simp)),
    h.p.kept k ⟨hF.off h.p.m (by simp) (by simp), hF.off h.p.c (by simp) (by simp), hF.off h.p.s (by simp) (by simp), hF.off g2 (by simp) (by simp), fun i t hi => hF.off (h.p.ts i t hi) (by simp) (by simp)⟩,
    h.q.kept k (hF.off h.q.r (by simp) (by simp)) (hF.off g1 (by simp) (by simp))⟩
theorem rows25_of {wb B L : Nat} {cells : Array Value} {ls l3 : Value} {xs ys : List Value} {w : World} (hb : w.heap[wb]? = some (.cells cells 64 (0, 0))) (h : LAt B ls l3 L xs ys w) : Rows25 (wb :: (ls.ownBlock.toList ++ l3.ownBlock.toList)) w := by
  intro y hy
  simp at hy
  rcases hy with rfl | hy | hy
  · exact ⟨_, .inl hb⟩
  · obtain ⟨cs, h1, _⟩ := own_lt h.row hy
    exact ⟨cs, .inr h1⟩
  · obtain ⟨cs, h1, _⟩ := own_lt h.row3 hy
    exact ⟨cs, .inr h1⟩
/-- Blocks that are none of the World's turn. -/
theorem LAt.kept {B L : Nat} {ls l3 : Value} {xs ys : List Value} {w w' : World} {F : List Nat} (h : LAt B ls l3 L xs ys w) (k : Kept F w w') (hF : ∀ y, y ∈ F → ∀ cs, w.heap[y]? ≠ some (.cells cs 84 (0, 0)) ∧ w.heap[y]? ≠ some (.cells cs 25 (0, 0))) : LAt B ls l3 L xs ys w' := by
  refine ⟨ownsRow.keptF h.row k (fun g hg hm => ?_), ownsRow.keptF h.row3 k (fun g hg hm => ?_), h.apart, fun k' x hk => (h.good k' x hk).kept k (fun y hy cs => (hF y hy cs).1), fun k' x hk => (h.good3 k' x hk).kept k (fun y hy cs => (hF y hy cs).1)⟩
  · obtain ⟨cs, h1, _⟩ := own_lt h.row hg
    exact (hF g hm cs).2 h1
  · obtain ⟨cs, h1, _⟩ := own_lt h.row3 hg
    exact (hF g hm cs).2 h1
theorem LAt.keptNil {B L : Nat} {ls l3 : Value} {xs ys : List Value} {w w' : World} (h : LAt B ls l3 L xs ys w) (k : Kept [] w w') : LAt B ls l3 L xs ys w' := h.kept k (by simp)
structure Looked (wb b pb cap L B : Nat) (p : PM) (q : RM) (cl : Bool) (th : Nat → Option (Int × Int × Int)) (pcs : Array Value) (w w' : World) : Prop where
  out : ∃ ls' l3' xs' ys', Two b p q w' cl th ∧ w'.heap[wb]? = some (.cells #[.slice (some ⟨pb, 0, none⟩) 1 cap, ls', l3'] 64 (0, 0)) ∧ w'.heap[pb]? = some (.cells pcs 22 (0, 0)) ∧ LAt B ls' l3' (L + 2) xs' ys' w' ∧ (∀ w0 : World, w0.heap.size = B → B ≤ p.m → B ≤ wb → Kept [] w0 w → Kept [] w0 w')
set_option maxRecDepth 100000 in
set_option maxHeartbeats 3200000 in
theorem wstep_look (wb b pb cap B L : Nat) (p : PM) (q : RM) (cl : Bool) (th : Nat → Option (Int × Int × Int)) (ls l3 : Value) (xs ys : List Value) (pcs : Array Value) (mp i y0 y1 y2 y3 : Int) (w : World)
    (hT : Two b p q w cl th) (hb : w.heap[wb]? = some (.cells #[.slice (some ⟨pb, 0, none⟩) 1 cap, ls, l3] 64 (0, 0))) (hpb : w.heap[pb]? = some (.cells pcs 22 (0, 0))) (hpc : pcs[0]? = some (.pointer (some ⟨b, 0, none⟩)))
    (hl : LAt B ls l3 L xs ys w) (hL : L + 1 ≤ 4000000) (hB : B ≤ w.heap.size) :
    Calls Tryz.prog 21 #[.pointer (some ⟨wb, 0, none⟩), .agg #[.int .i64 4, .int .i64 mp, .int .i64 i, .int .i64 y0, .int .i64 y1, .int .i64 y2, .int .i64 y3]] w fun e w' => e = .returned (.bool true) ∧ Looked wb b pb cap L B p q cl th pcs w w' := by
  have zb := lt_of_block hb
  have d0 : w.cell? ⟨wb, 0, none⟩ = some (.slice (some ⟨pb, 0, none⟩) 1 cap) := cell_of hb 0
  have ho : (w.alloc (.cells #[Value.int .i64 4, .int .i64 mp, .int .i64 i, .int .i64 y0, .int .i64 y1, .int .i64 y2, .int .i64 y3] 34)).heap[w.heap.size]? = some (.cells #[Value.int .i64 4, .int .i64 mp, .int .i64 i, .int .i64 y0, .int .i64 y1, .int .i64 y2, .int .i64 y3] 34 (0, 0)) := block_alloc_new _ _
  have hK : Kept [] w (w.alloc (.cells #[Value.int .i64 4, .int .i64 mp, .int .i64 i, .int .i64 y0, .int .i64 y1, .int .i64 y2, .int .i64 y3] 34)) := (Kept.refl _ w).alloc _
  have HL : Hid _ := hl
  have HT : Hid _ := hT
  clear hl hT
  go_enter Tryz.func21, Tryz.ntmps21
  go_wp2_with fail
  have g0 := cell_of (hK.at hb (by simp)) 0
  have gp := (cell_of (hK.at hpb (by simp)) 0).trans hpc
  generalize (w.alloc (.cells #[Value.int .i64 4, .int .i64 mp, .int .i64 i, .int .i64 y0, .int .i64 y1, .int .i64 y2, .int .i64 y3] 34)) = W0 at *
  have d2 : ∀ x, W0.cell? ⟨w.heap.size, x, none⟩ = #[Value.int .i64 4, .int .i64 mp, .int .i64 i, .int .i64 y0, .int .i64 y1, .int .i64 y2, .int .i64 y3][x]? := cell_of ho
  go_region_held3 (fun w' => w'.cell? ⟨wb, 0, none⟩ = some (.slice (some ⟨pb, 0, none⟩) 1 cap) ∧ w'.cell? ⟨pb, 0, none⟩ = some (.pointer (some ⟨b, 0, none⟩)) ∧ (∀ x, w'.cell? ⟨w.heap.size, x, none⟩ = #[Value.int .i64 4, .int .i64 mp, .int .i64 i, .int .i64 y0, .int .i64 y1, .int .i64 y2, .int .i64 y3][x]?))
    (first | exact ⟨g0, gp, d2⟩)
    (first | (go_at_call 40; refine (pick_one mp _).mono ?_; rintro e w1 ⟨rfl, rfl⟩))
  go_wp2_with fail
  refine (seen_any b p q cl _ th (HT.out.keptNil hK.drew)).mono ?_
  rintro e w2 ⟨b1, b2, rfl, hb1, hz1, hb2, hz2, hT2, k2⟩
  clear g0 gp d2 d0
  have K2 : Kept [p.m] w w2 := (hK.drew.mono (by simp)).trans k2
  have nm : ∀ (x : Nat) (o : Obj), w.heap[x]? = some o → (∀ cs, o ≠ Obj.cells cs 78 (0, 0)) → x ∉ [p.m] := fun x o hx h1 hm => by
    simp at hm
    subst hm
    exact h1 _ (Option.some.inj (hx.symm.trans HT.out.p.m))
  have hbW := K2.at hb (nm _ _ hb (by simp))
  have hpW := K2.at hpb (nm _ _ hpb (by simp))
  have lW : LAt B ls l3 L xs ys w2 := HL.out.kept K2 (fun y hy cs => by
    simp at hy
    subst hy
    rw [HT.out.p.m]
    simp)
  have hv := block_alloc_new w2 (.cells #[Value.slice (some ⟨b1, 0, none⟩) 0 0, .bool false, .bool false, .slice (some ⟨b2, 0, none⟩) 0 0, .int .i64 0, .int .i64 (-1)] 27)
  have a1 := block_alloc_lt hb1 (.cells #[Value.slice (some ⟨b1, 0, none⟩) 0 0, .bool false, .bool false, .slice (some ⟨b2, 0, none⟩) 0 0, .int .i64 0, .int .i64 (-1)] 27)
  have a2 := block_alloc_lt hb2 (.cells #[Value.slice (some ⟨b1, 0, none⟩) 0 0, .bool false, .bool false, .slice (some ⟨b2, 0, none⟩) 0 0, .int .i64 0, .int .i64 (-1)] 27)
  have aW := block_alloc_lt hbW (.cells #[Value.slice (some ⟨b1, 0, none⟩) 0 0, .bool false, .bool false, .slice (some ⟨b2, 0, none⟩) 0 0, .int .i64 0, .int .i64 (-1)] 27)
  have aP := block_alloc_lt hpW (.cells #[Value.slice (some ⟨b1, 0, none⟩) 0 0, .bool false, .bool false, .slice (some ⟨b2, 0, none⟩) 0 0, .int .i64 0, .int .i64 (-1)] 27)
  have lV := lW.keptNil ((Kept.refl [] w2).alloc (.cells #[Value.slice (some ⟨b1, 0, none⟩) 0 0, .bool false, .bool false, .slice (some ⟨b2, 0, none⟩) 0 0, .int .i64 0, .int .i64 (-1)] 27))
  have tV := hT2.keptNil ((Kept.refl [] w2).alloc (.cells #[Value.slice (some ⟨b1, 0, none⟩) 0 0, .bool false, .bool false, .slice (some ⟨b2, 0, none⟩) 0 0, .int .i64 0, .int .i64 (-1)] 27))
  have KV := K2.alloc (.cells #[Value.slice (some ⟨b1, 0, none⟩) 0 0, .bool false, .bool false, .slice (some ⟨b2, 0, none⟩) 0 0, .int .i64 0, .int .i64 (-1)] 27)
  have zV := Nat.le_trans hB KV.size
  have HV : Hid _ := And.intro lV tV
  clear lV tV lW hT2
  go_wp2_with fail
  generalize (w2.alloc (.cells #[Value.slice (some ⟨b1, 0, none⟩) 0 0, .bool false, .bool false, .slice (some ⟨b2, 0, none⟩) 0 0, .int .i64 0, .int .i64 (-1)] 27)) = W3 at *
  refine (takes_any wb B L b1 _ ls l3 xs ys W3 aW HV.out.1 (by omega) zV a1).mono ?_
  rintro e w4 ⟨rfl, T4⟩
  obtain ⟨ls4, l34, ys4, h4, l4, k4⟩ := T4.out
  have r4 := rows25_of aW HV.out.1
  have hv4 := k4.at hv (r4.off hv (by simp) (by simp))
  have a24 := k4.at a2 (r4.off a2 (by simp) (by simp))
  have aP4 := k4.at aP (r4.off aP (by simp) (by simp))
  have t4 := HV.out.2.rows k4 r4
  have c3 : ∀ o, w4.cell? ⟨w2.heap.size, o, none⟩ = #[Value.slice (some ⟨b1, 0, none⟩) 0 0, .bool false, .bool false, .slice (some ⟨b2, 0, none⟩) 0 0, .int .i64 0, .int .i64 (-1)][o]? := cell_of hv4
  have z4 := Nat.le_trans zV k4.size
  have HW : Hid _ := And.intro l4 (And.intro t4 T4)
  clear l4 t4 T4
  go_wp2_with fail
  refine (takes_any wb B (L + 1) b2 _ ls4 l34 _ ys4 w4 h4 HW.out.1 (by omega) z4 a24).mono ?_
  rintro e w5 ⟨rfl, T5⟩
  obtain ⟨ls5, l35, ys5, h5, l5, k5⟩ := T5.out
  have r5 := rows25_of h4 HW.out.1
  have aP5 := k5.at aP4 (r5.off aP4 (by simp) (by simp))
  have t5 := HW.out.2.1.rows k5 r5
  have HX : Hid (Looked wb b pb cap L B p q cl th pcs w w5) := by
    refine ⟨⟨ls5, l35, _, ys5, t5, h5, aP5, l5, fun w0 hw0 hpm hwb k0 => ?_⟩⟩
    have K3 : Kept [] w0 W3 := k0.drop KV (fun x hx hlt => by simp at hx; omega)
    have own : ∀ (g : Nat) (sl : Value) (n : Nat) (zs : List Value) (u : World), u.ownsRow B 25 1 sl n zs → sl.ownBlock = some g → B ≤ g := fun g sl n zs u hu hg => by obtain ⟨cs, _, h⟩ := own_lt hu hg; exact h
    have K4 : Kept [] w0 w4 := K3.drop k4 (fun x hx hlt => by
      simp at hx
      rcases hx with rfl | hx | hx
      · omega
      · have := own _ _ _ _ _ HV.out.1.row hx; omega
      · have := own _ _ _ _ _ HV.out.1.row3 hx; omega)
    exact K4.drop k5 (fun x hx hlt => by
      simp at hx
      rcases hx with rfl | hx | hx
      · omega
      · have := own _ _ _ _ _ HW.out.1.row hx; omega
      · have := own _ _ _ _ _ HW.out.1.row3 hx; omega)
  clear l5 t5 T5 c3
  go_wp2
  go_ret
  exact ⟨rfl, HX.out⟩
end Go.Proofs.YtmnkphenobfbfaaGreat
namespace Go.Proofs.YtmnkphenobfbfaaGreat
open Go.RowKit
theorem info22 : (Tryz.prog.info? 22).map (fun i => (i.zero, i.size, i.bytes)) = some (some (.pointer none), 1, 8) := by kernel_rfl
theorem ownsRow.kept22 {w w' : World} {B n : Nat} {sl : Value} {zs : List Value} (h : w.ownsRow B 22 1 sl n zs) (k : Kept [] w w') : w'.ownsRow B 22 1 sl n zs := by
  refine ⟨h.1, ?_⟩
  rcases h.2 with h2 | ⟨g, cap, cur, a1, a2, a3, a4⟩
  · exact .inl h2
  · exact .inr ⟨g, cap, cur, a1, a2, k.at a3 (by simp), a4⟩
structure Opened0 (wb : Nat) (w w' : World) : Prop where
  out : ∃ b p q, p.ts.length = 3 ∧ WAt wb b p q false (fun _ => none) 0 w w'
set_option maxRecDepth 100000 in
set_option maxHeartbeats 3200000 in
theorem wstep_new (wb : Nat) (w0 w : World) (hb : w.heap[wb]? = some (.cells #[.slice none 0 0, .slice none 0 0, .slice none 0 0] 64 (0, 0))) (hw : Kept [] w0 w) (hz : w0.heap.size ≤ wb) :
    Calls Tryz.prog 21 #[.pointer (some ⟨wb, 0, none⟩), .agg #[.int .i64 1, .int .i64 0, .int .i64 3, .int .i64 0, .int .i64 0, .int .i64 0, .int .i64 0]] w fun e w' => e = .returned (.bool true) ∧ Opened0 wb w0 w' := by
  obtain ⟨i1, hi1, hy0, hy1, hy2⟩ := info_parts info22
  have zb := lt_of_block hb
  have hK : Kept [] w (w.alloc (.cells #[.int .i64 1, .int .i64 0, .int .i64 3, .int .i64 0, .int .i64 0, .int .i64 0, .int .i64 0] 34)) := (Kept.refl _ w).alloc _
  go_enter Tryz.func21, Tryz.ntmps21
  go_wp2_with fail
  generalize (w.alloc (.cells #[.int .i64 1, .int .i64 0, .int .i64 3, .int .i64 0, .int .i64 0, .int .i64 0, .int .i64 0] 34)) = W0 at *
  refine (open_yes 3 W0 (by omega) (by omega)).mono ?_
  rintro e w1 ⟨b, p, q, rfl, hl3, hT, k1, hzb, hf⟩
  have K1 := hK.trans k1
  have hb1 := K1.at hb (by simp)
  have d0 : w1.cell? ⟨wb, 0, none⟩ = some (.slice none 0 0) := cell_of hb1 0
  have zb1 := lt_of_block hb1
  have kz := K1.size
  have hz1 := hw.size
  have zW := hK.size
  have row0 : (w1.alloc (.cells #[.pointer (some ⟨b, 0, none⟩)] 22)).ownsRow w0.heap.size 22 1 (.slice none 0 0) 0 [] := ⟨rfl, .inl ⟨rfl, rfl⟩⟩
  have HF : Hid _ := And.intro hl3 (And.intro hT hf)
  clear hl3 hT hf
  go_wp2_with (at_builtin; go_must (refine wpList_append_lies _ rfl _ _ _ rfl w0.heap.size 22 i1 _ 1 8 Tryz.underlying61 hi1 hy0 hy1 hy2 rfl (by omega) (.slice none 0 0) 0 [] rfl row0 ⟨w1.heap.size, 0, none⟩ 1 1 [.pointer (some ⟨b, 0, none⟩)] rfl rfl (news1 w1 _ 22) (by simp [Value.oneCell']) (by omega) (by unfold maxLen; omega) (by omega) (by simp; omega) (w1.heap.size + 1) (by simp) ?_); intro g cap w2 hown1 hgrow hat hlt1; have hm1 := (hgrow.block wb (by simp; omega) (by simp [Value.ownBlock])).trans (block_alloc_lt hb1 _); have s4 := cell_of hm1 0; have sf := frozen_of hm1 0)
  go_ret
  refine ⟨rfl, ⟨b, p, q, HF.out.1, ?_⟩⟩
  have k2 : Kept [] w1 w2 := by
    refine ⟨hgrow.os, hgrow.tape, hgrow.output, ?_, fun x hx _ => ?_⟩
    · have := hgrow.size; simp at this; omega
    · exact (hgrow.block x (by simp; omega) (by simp [Value.ownBlock])).trans (Below.heap_alloc _ _ _ hx)
  have hg : g = w1.heap.size + 1 := by
    rcases hat with h | h
    · simp [Value.ownBlock] at h
    · exact h
  obtain ⟨cur, hcur, hcur0⟩ : ∃ cur, w2.heap[g]? = some (.cells cur 22 (0, 0)) ∧ cur[0]? = some (.pointer (some ⟨b, 0, none⟩)) := by
    rcases hown1.2 with ⟨_, h0⟩ | ⟨g', cap', cur, e1, _, e3, _, _, _, e7⟩
    · omega
    · cases e1
      refine ⟨cur, e3, ?_⟩
      have := congrArg (fun l => l[0]?) e7
      simpa using this
  have T2 := HF.out.2.1.keptNil k2
  have k3 : Kept [wb] w2 (w2.setCell ⟨wb, 0, none⟩ (.slice (some ⟨g, 0, none⟩) 1 cap)) := (Kept.refl _ w2).setCell (.inl (by simp)) _
  have r3 : Rows25 [wb] w2 := fun y hy => by simp at hy; subst hy; exact ⟨_, .inl hm1⟩
  refine ⟨T2.rows k3 r3, (fun i k v o hh => by cases hh), ⟨g, cap, .slice none 0 0, .slice none 0 0, [], [], cur, ?_, block_set_ne hcur (ne_of_blocks hcur hm1 (by simp)) _ _, hcur0, ?_⟩, fun x hx => ?_, ?_⟩
  · rw [block_set_same hm1]; simp
  · exact ⟨⟨rfl, .inl ⟨rfl, rfl⟩⟩, ⟨rfl, .inl ⟨rfl, rfl⟩⟩, fun g hg => by simp [Value.ownBlock] at hg, fun k x hk => by simp at hk, fun k x hk => by simp at hk⟩
  · rcases List.mem_cons.1 hx with rfl | hx
    · exact hz
    · have := HF.out.2.2 x hx; omega
  · exact (hw.trans (K1.trans k2)).setCell (.inr hz) _
end Go.Proofs.YtmnkphenobfbfaaGreat
namespace Go.Proofs.YtmnkphenobfbfaaGreat
open Go.RowKit
theorem WAt.keptNil {wb b : Nat} {p : PM} {q : RM} {cl : Bool} {th : Nat → Option (Int × Int × Int)} {L : Nat} {w0 w w' : World} (h : WAt wb b p q cl th L w0 w) (k : Kept [] w w') : WAt wb b p q cl th L w0 w' := by
  obtain ⟨pb, cap, ls, l3, xs, ys, pcs, h1, h2, h3, h4⟩ := h.at_
  exact ⟨h.two.keptNil k, h.keys, ⟨pb, cap, ls, l3, xs, ys, pcs, k.at h1 (by simp), k.at h2 (by simp), h3, h4.keptNil k⟩, h.fresh, h.kept.trans k⟩
/-- Blocks of the two maps alone. -/
def Maps (F : List Nat) (w : World) : Prop := ∀ y, y ∈ F → ∀ cs, w.heap[y]? ≠ some (.cells cs 64 (0, 0)) ∧ w.heap[y]? ≠ some (.cells cs 22 (0, 0)) ∧ w.heap[y]? ≠ some (.cells cs 84 (0, 0)) ∧ w.heap[y]? ≠ some (.cells cs 25 (0, 0))
theorem Two.maps {b : Nat} {p : PM} {q : RM} {w : World} {cl : Bool} {th : Nat → Option (Int × Int × Int)} (h : Two b p q w cl th) : Maps (p.m :: p.c :: q.r :: q.tb :: p.ts) w := by
  intro y hy cs
  obtain ⟨tcs, g1, _⟩ := h.q.tb
  simp only [List.mem_cons] at hy
  rcases hy with rfl | rfl | rfl | rfl | hy
  · rw [h.p.m]; simp
  · rw [h.p.c]; simp
  · rw [h.q.r]; simp
  · rw [g1]; simp
  · obtain ⟨i, hi⟩ := List.getElem?_of_mem hy
    rw [h.p.ts i y hi]; simp
theorem WAt.after {wb b : Nat} {p : PM} {q : RM} {cl cl' : Bool} {th th' : Nat → Option (Int × Int × Int)} {L : Nat} {w0 w w' : World} {F : List Nat} (h : WAt wb b p q cl th L w0 w) (k : Kept F w w')
    (hF : ∀ y, y ∈ F → y ∈ p.m :: p.c :: q.r :: q.tb :: p.ts) (h2 : Two b p q w' cl' th') (hk : KeysOk th') : WAt wb b p q cl' th' L w0 w' := by
  obtain ⟨pb, cap, ls, l3, xs, ys, pcs, e1, e2, e3, e4⟩ := h.at_
  have hm := h.two.maps
  refine ⟨h2, hk, ⟨pb, cap, ls, l3, xs, ys, pcs, k.at e1 (fun hy => (hm _ (hF _ hy) _).1 e1), k.at e2 (fun hy => (hm _ (hF _ hy) _).2.1 e2), e3, e4.kept k (fun y hy cs => ⟨(hm y (hF y hy) cs).2.2.1, (hm y (hF y hy) cs).2.2.2⟩)⟩, h.fresh, h.kept.drop k (fun x hx hlt => ?_)⟩
  have := h.fresh x (List.mem_cons_of_mem _ (hF x hx))
  omega
structure Stepped (wb b : Nat) (p : PM) (q : RM) (L : Nat) (w0 w' : World) : Prop where
  out : ∃ cl th L', L' ≤ L + 2 ∧ WAt wb b p q cl th L' w0 w'
theorem wstep (wb b : Nat) (p : PM) (q : RM) (cl : Bool) (th : Nat → Option (Int × Int × Int)) (L : Nat) (kd mp i y0 y1 y2 y3 : Int) (w0 w : World) (h : WAt wb b p q cl th L w0 w) (h1 : kd ≠ 1) (h2 : kd = 2 → y0 ≤ 0) (hL : L + 1 ≤ 4000000) :
    Calls Tryz.prog 21 #[.pointer (some ⟨wb, 0, none⟩), .agg #[.int .i64 kd, .int .i64 mp, .int .i64 i, .int .i64 y0, .int .i64 y1, .int .i64 y2, .int .i64 y3]] w fun e w' => e = .returned (.bool true) ∧ Stepped wb b p q L w0 w' := by
  by_cases ho : kd < 2 ∨ 5 < kd
  · refine (wstep_other wb kd mp i y0 y1 y2 y3 w h1 ho).mono ?_
    rintro e w' ⟨rfl, k⟩
    exact ⟨rfl, ⟨cl, th, L, by omega, h.keptNil k⟩⟩
  · obtain ⟨pb, cap, ls, l3, xs, ys, pcs, e1, e2, e3, e4⟩ := h.at_
    by_cases h4 : kd = 4
    · subst h4
      refine (wstep_look wb b pb cap w0.heap.size L p q cl th ls l3 xs ys pcs mp i y0 y1 y2 y3 w h.two e1 e2 e3 e4 hL h.kept.size).mono ?_
      rintro e w' ⟨rfl, hl⟩
      obtain ⟨ls', l3', xs', ys', a1, a2, a3, a4, a5⟩ := hl.out
      exact ⟨rfl, ⟨cl, th, L + 2, by omega, ⟨a1, h.keys, ⟨pb, cap, ls', l3', xs', ys', pcs, a2, a3, e3, a4⟩, h.fresh, a5 w0 rfl (h.fresh _ (by simp)) (h.fresh _ (by simp)) h.kept⟩⟩⟩
    · by_cases hk2 : kd = 2
      · subst hk2
        refine (wstep_does wb b pb cap ls l3 pcs 2 mp i y0 y1 y2 y3 w (fun W w' => Two b p q w' cl (beginT cl p.ts.length th i y0 y1 y2 y3) ∧ Kept (p.m :: q.tb :: p.ts) W w') (by omega) e1 e2 e3 (fun W hW => does_begin b p q cl mp i y0 y1 y2 y3 W th (h.two.keptNil hW) (h2 rfl))).mono ?_
        rintro e w' ⟨rfl, W, hW, hT, hK⟩
        exact ⟨rfl, ⟨_, _, L, by omega, (h.keptNil hW).after hK (by simp only [List.mem_cons]; intro y hy; rcases hy with hy | hy | hy; exact .inl hy; exact .inr (.inr (.inr (.inl hy))); exact .inr (.inr (.inr (.inr hy)))) hT (keys_beginT h.keys)⟩⟩
      · by_cases hk3 : kd = 3
        · subst hk3
          refine (wstep_does wb b pb cap ls l3 pcs 3 mp i y0 y1 y2 y3 w (fun W w' => Two b p q w' cl (stepT cl p.ts.length th i) ∧ Kept (p.m :: q.tb :: p.ts) W w') (by omega) e1 e2 e3 (fun W hW => does_step b p q cl mp i y0 y1 y2 y3 W th (h.two.keptNil hW) h.keys)).mono ?_
          rintro e w' ⟨rfl, W, hW, hT, hK⟩
          exact ⟨rfl, ⟨_, _, L, by omega, (h.keptNil hW).after hK (by simp only [List.mem_cons]; intro y hy; rcases hy with hy | hy | hy; exact .inl hy; exact .inr (.inr (.inr (.inl hy))); exact .inr (.inr (.inr (.inr hy)))) hT (keys_stepT h.keys)⟩⟩
        · obtain rfl : kd = 5 := by omega
          refine (wstep_does wb b pb cap ls l3 pcs 5 mp i y0 y1 y2 y3 w (fun W w' => Two b p q w' true th ∧ Kept [p.m, p.c, q.r] W w') (by omega) e1 e2 e3 (fun W hW => does_close b p q cl mp i y0 y1 y2 y3 W th (h.two.keptNil hW))).mono ?_
          rintro e w' ⟨rfl, W, hW, hT, hK⟩
          exact ⟨rfl, ⟨_, _, L, by omega, (h.keptNil hW).after hK (by simp only [List.mem_cons]; intro y hy; rcases hy with hy | hy | hy | hy; exact .inl hy; exact .inr (.inl hy); exact .inr (.inr (.inl hy)); cases hy) hT h.keys⟩⟩
end Go.Proofs.YtmnkphenobfbfaaGreat
namespace Go.Proofs.YtmnkphenobfbfaaGreat
open Go.RowKit
/-- A script of n plain steps that lies in memory. -/
structure Script (w : World) (S : Value) (n : Nat) : Prop where
  lies : ∃ a c, S = .slice a n c ∧ n ≤ c ∧ ∀ k : Nat, k < n → ∃ (sb so : Nat) (kd mp i y0 y1 y2 y3 : Int), a = some ⟨sb, so, none⟩ ∧ sb < w.heap.size ∧
    w.cell? ⟨sb, so + k * 7, none⟩ = some (.int .i64 kd) ∧ w.cell? ⟨sb, so + k * 7 + 1, none⟩ = some (.int .i64 mp) ∧ w.cell? ⟨sb, so + k * 7 + 2, none⟩ = some (.int .i64 i) ∧
    w.cell? ⟨sb, so + k * 7 + 3, none⟩ = some (.int .i64 y0) ∧ w.cell? ⟨sb, so + k * 7 + 4, none⟩ = some (.int .i64 y1) ∧ w.cell? ⟨sb, so + k * 7 + 5, none⟩ = some (.int .i64 y2) ∧ w.cell? ⟨sb, so + k * 7 + 6, none⟩ = some (.int .i64 y3)
theorem Script.kept {w w' : World} {S : Value} {n : Nat} (h : Script w S n) (k : Kept [] w w') : Script w' S n := by
  obtain ⟨a, c, h1, h2, h3⟩ := h.lies
  refine ⟨a, c, h1, h2, fun j hj => ?_⟩
  obtain ⟨sb, so, kd, mp, i, y0, y1, y2, y3, e, hlt, c0, c1, c2, c3, c4, c5, c6⟩ := h3 j hj
  have hc : ∀ o, w'.cell? ⟨sb, o, none⟩ = w.cell? ⟨sb, o, none⟩ := fun o => (k.far hlt (by simp)).1
  exact ⟨sb, so, kd, mp, i, y0, y1, y2, y3, e, Nat.lt_of_lt_of_le hlt k.size, (hc _).trans c0, (hc _).trans c1, (hc _).trans c2, (hc _).trans c3, (hc _).trans c4, (hc _).trans c5, (hc _).trans c6⟩
set_option maxRecDepth 100000 in
set_option maxHeartbeats 6400000 in
theorem plays_yes (S : Value) (n : Nat) (w0 : World) (hS : Script w0 S n) (hn : n ≤ 1048576) : Calls Tryz.prog 10 #[S, .bool false, .bool false, .bool false] w0 fun e w' => e = .returned (.bool true) ∧ Kept [] w0 w' := by
  have HS : Hid _ := hS
  have shape : ∃ a c, S = .slice a n c ∧ n ≤ c := by
    obtain ⟨a, c, h1, h2, _⟩ := hS.lies
    exact ⟨a, c, h1, h2⟩
  obtain ⟨sa, sc, rfl, hsc⟩ := shape
  clear hS
  go_enter Tryz.func10, Tryz.ntmps10
  go_wp2_with fail
  refine (wstep_new w0.heap.size w0 _ (block_alloc_new _ _) ((Kept.refl [] w0).alloc _) (Nat.le_refl _)).mono ?_
  rintro e w1 ⟨rfl, hO⟩
  obtain ⟨b, p, q, hl3, hW⟩ := hO.out
  obtain ⟨pb, cap, ls, l3, xs, ys, pcs, e1, e2, e3, e4⟩ := hW.at_
  have d0 : w1.cell? ⟨w0.heap.size, 0, none⟩ = some (.slice (some ⟨pb, 0, none⟩) 1 cap) := cell_of e1 0
  clear e1 e2 e3 e4 hO hl3
  go_wp2_with fail
  clear d0
  go_loopw [10, 12] (fun ok x W => ∃ k L : Nat, k ≤ n ∧ L ≤ 2 * k ∧ x = .int .i64 k ∧ ok = .bool true ∧ ∃ cl th, WAt w0.heap.size b p q cl th L w0 W) (fun _ x _ => n - (intOf x).toNat)
  case atStart => exact ⟨0, 0, by omega, by omega, rfl, rfl, _, _, hW⟩
  case round =>
    obtain ⟨k, L, hk, hL, rfl, rfl, cl, th, hW⟩ := hrel
    by_cases hlt : k < n
    · have hlt' : (k : Int) < n := by omega
      obtain ⟨_, _, hs1, _, hs3⟩ := (HS.out.kept hW.kept).lies
      cases hs1
      obtain ⟨sb, so, kd, mp, i, y0, y1, y2, y3, rfl, hltb, c0, c1, c2, c3, c4, c5, c6⟩ := hs3 k hlt
      have HC : Hid _ := hs3
      clear hs3
      have hb31 : (k : Int) ≤ 1048576 := by omega
      by_cases hk2 : kd = 2
      · subst hk2
        by_cases hy1 : y0 = 1
        · subst hy1
          go_wp2
          go_roundw
          case rel => exact ⟨k + 1, L, by omega, by omega, by go_num, rfl, _, _, hW.keptNil ((Kept.refl [] wr).alloc _)⟩
          case measure => simp [intOf]; omega
        · by_cases hy2 : 1 < y0
          · have ey : (y0 == 1) = false := beq_eq_false_iff_ne.2 hy1
            go_wp2
            go_roundw
            case rel => exact ⟨k + 1, L, by omega, by omega, by go_num, rfl, _, _, hW.keptNil ((Kept.refl [] wr).alloc _)⟩
            case measure => simp [intOf]; omega
          · have ey : (y0 == 1) = false := beq_eq_false_iff_ne.2 hy1
            go_wp2_with fail
            refine (wstep w0.heap.size b p q cl th L 2 mp i y0 y1 y2 y3 w0 _ (hW.keptNil ((Kept.refl [] wr).alloc _)) (by omega) (fun _ => by omega) (by omega)).mono ?_
            rintro e w2 ⟨rfl, hSt⟩
            obtain ⟨cl2, th2, L2, hL2, hW2⟩ := hSt.out
            obtain ⟨pb2, cap2, ls2, l32, xs2, ys2, pcs2, f1, f2, f3, f4⟩ := hW2.at_
            have HF : Hid _ := And.intro f1 f4
            clear f1 f2 f3 f4 hSt c0 c1 c2 c3 c4 c5 c6 hW
            go_wp2_with fail
            refine (looks_yes w0.heap.size w0.heap.size L2 _ ls2 l32 xs2 ys2 w2 HF.out.1 HF.out.2 (by omega)).mono ?_
            rintro e w3 ⟨rfl, rfl⟩
            go_wp2
            go_roundw
            case rel => exact ⟨k + 1, L2, by omega, by omega, by go_num, rfl, _, _, hW2⟩
            case measure => simp [intOf]; omega
      · have e2 : (kd == 2) = false := beq_eq_false_iff_ne.2 hk2
        by_cases hk1 : kd = 1
        · subst hk1
          go_wp2
          go_roundw
          case rel => exact ⟨k + 1, L, by omega, by omega, by go_num, rfl, _, _, hW.keptNil ((Kept.refl [] wr).alloc _)⟩
          case measure => simp [intOf]; omega
        · have e1 : (kd == 1) = false := beq_eq_false_iff_ne.2 hk1
          go_wp2_with fail
          refine (wstep w0.heap.size b p q cl th L kd mp i y0 y1 y2 y3 w0 _ (hW.keptNil ((Kept.refl [] wr).alloc _)) hk1 (fun h => absurd h hk2) (by omega)).mono ?_
          rintro e w2 ⟨rfl, hSt⟩
          obtain ⟨cl2, th2, L2, hL2, hW2⟩ := hSt.out
          obtain ⟨pb2, cap2, ls2, l32, xs2, ys2, pcs2, f1, f2, f3, f4⟩ := hW2.at_
          have HF : Hid _ := And.intro f1 f4
          clear f1 f2 f3 f4 hSt c0 c1 c2 c3 c4 c5 c6 hW
          go_wp2_with fail
          refine (looks_yes w0.heap.size w0.heap.size L2 _ ls2 l32 xs2 ys2 w2 HF.out.1 HF.out.2 (by omega)).mono ?_
          rintro e w3 ⟨rfl, rfl⟩
          go_wp2
          go_roundw
          case rel => exact ⟨k + 1, L2, by omega, by omega, by go_num, rfl, _, _, hW2⟩
          case measure => simp [intOf]; omega
    · go_wp2
      go_ret
      exact ⟨rfl, hW.kept⟩
set_option maxHeartbeats 400000 in
theorem loaded_yes (S : Value) (n : Nat) (w : World) (hS : Script w S n) (hn : n ≤ 1048576) : Calls Tryz.prog 4 #[S] w fun e w' => e = .returned (.bool true) ∧ Kept [] w w' := by
  go_enter Tryz.func4, Tryz.ntmps4
  go_wp2_with fail
  refine (plays_yes S n w hS hn).mono ?_
  rintro e w' ⟨rfl, hk⟩
  go_wp2
  go_ret
  exact ⟨rfl, hk⟩
end Go.Proofs.YtmnkphenobfbfaaGreat
