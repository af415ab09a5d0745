import Derived.Test.YtfgfpggjcfhccaaGreatWs
namespace Go.Proofs.YtfgfpggjcfhccaaGreat
open Go.RowKit
/-- F holds the World's own block and its rows alone. -/
def Rows25 (F : List Nat) (w : World) : Prop := ∀ y, y ∈ F → ∃ cs, w.heap[y]? = some (.cells cs 64 (0, 0)) ∨ w.heap[y]? = some (.cells cs 25 (0, 0))
theorem Rows25.off {F : List Nat} {w : World} (h : Rows25 F w) {x : Nat} {o : Obj} (hx : w.heap[x]? = some o) (h1 : ∀ cs, o ≠ .cells cs 64 (0, 0)) (h2 : ∀ cs, o ≠ .cells cs 25 (0, 0)) : x ∉ F := by
  intro hm
  obtain ⟨cs, hc | hc⟩ := h x hm
  · exact h1 cs (Option.some.inj (hx.symm.trans hc))
  · exact h2 cs (Option.some.inj (hx.symm.trans hc))
theorem Two.rows {b : Nat} {p : PM} {q : RM} {w w' : World} {cl : Bool} {th : Nat → Option (Int × Int × Int)} {F : List Nat} (h : Two b p q w cl th) (k : Kept F w w') (hF : Rows25 F w) : Two b p q w' cl th := by
  obtain ⟨cs, g1, _⟩ := h.q.tb
  obtain ⟨cs', g2, _⟩ := h.p.tb
  exact ⟨h.n, k.at h.b (hF.off h.b (by simp) (by simp)),
    h.p.kept k ⟨hF.off h.p.m (by simp) (by simp), hF.off h.p.c (by simp) (by simp), hF.off h.p.s (by simp) (by simp), hF.off g2 (by simp) (by simp), fun i t hi => hF.off (h.p.ts i t hi) (by simp) (by simp)⟩,
    h.q.kept k (hF.off h.q.r (by simp) (by simp)) (hF.off g1 (by simp) (by simp))⟩
theorem rows25_of {wb B L : Nat} {cells : Array Value} {ls l3 : Value} {xs ys : List Value} {w : World} (hb : w.heap[wb]? = some (.cells cells 64 (0, 0))) (h : LAt B ls l3 L xs ys w) : Rows25 (wb :: (ls.ownBlock.toList ++ l3.ownBlock.toList)) w := by
  intro y hy
  simp at hy
  rcases hy with rfl | hy | hy
  · exact ⟨_, .inl hb⟩
  · obtain ⟨cs, h1, _⟩ := own_lt h.row hy
    exact ⟨cs, .inr h1⟩
  · obtain ⟨cs, h1, _⟩ := own_lt h.row3 hy
    exact ⟨cs, .inr h1⟩
/-- Blocks that are none of the World's turn. -/
theorem LAt.kept {B L : Nat} {ls l3 : Value} {xs ys : List Value} {w w' : World} {F : List Nat} (h : LAt B ls l3 L xs ys w) (k : Kept F w w') (hF : ∀ y, y ∈ F → ∀ cs, w.heap[y]? ≠ some (.cells cs 84 (0, 0)) ∧ w.heap[y]? ≠ some (.cells cs 25 (0, 0))) : LAt B ls l3 L xs ys w' := by
  refine ⟨ownsRow.keptF h.row k (fun g hg hm => ?_), ownsRow.keptF h.row3 k (fun g hg hm => ?_), h.apart, fun k' x hk => (h.good k' x hk).kept k (fun y hy cs => (hF y hy cs).1), fun k' x hk => (h.good3 k' x hk).kept k (fun y hy cs => (hF y hy cs).1)⟩
  · obtain ⟨cs, h1, _⟩ := own_lt h.row hg
    exact (hF g hm cs).2 h1
  · obtain ⟨cs, h1, _⟩ := own_lt h.row3 hg
    exact (hF g hm cs).2 h1
theorem LAt.keptNil {B L : Nat} {ls l3 : Value} {xs ys : List Value} {w w' : World} (h : LAt B ls l3 L xs ys w) (k : Kept [] w w') : LAt B ls l3 L xs ys w' := h.kept k (by simp)
structure Looked (wb b pb cap L B : Nat) (p : PM) (q : RM) (cl : Bool) (th : Nat → Option (Int × Int × Int)) (pcs : Array Value) (w w' : World) : Prop where
  out : ∃ ls' l3' xs' ys', Two b p q w' cl th ∧ w'.heap[wb]? = some (.cells #[.slice (some ⟨pb, 0, none⟩) 1 cap, ls', l3'] 64 (0, 0)) ∧ w'.heap[pb]? = some (.cells pcs 22 (0, 0)) ∧ LAt B ls' l3' (L + 2) xs' ys' w' ∧ (∀ w0 : World, w0.heap.size = B → B ≤ p.m → B ≤ wb → Kept [] w0 w → Kept [] w0 w')
set_option maxRecDepth 100000 in
set_option maxHeartbeats 3200000 in
theorem wstep_look (wb b pb cap B L : Nat) (p : PM) (q : RM) (cl : Bool) (th : Nat → Option (Int × Int × Int)) (ls l3 : Value) (xs ys : List Value) (pcs : Array Value) (mp i y0 y1 y2 y3 : Int) (w : World)
    (hT : Two b p q w cl th) (hb : w.heap[wb]? = some (.cells #[.slice (some ⟨pb, 0, none⟩) 1 cap, ls, l3] 64 (0, 0))) (hpb : w.heap[pb]? = some (.cells pcs 22 (0, 0))) (hpc : pcs[0]? = some (.pointer (some ⟨b, 0, none⟩)))
    (hl : LAt B ls l3 L xs ys w) (hL : L + 1 ≤ 4000000) (hB : B ≤ w.heap.size) :
    Calls Tryz.prog 20 #[.pointer (some ⟨wb, 0, none⟩), .agg #[.int .i64 4, .int .i64 mp, .int .i64 i, .int .i64 y0, .int .i64 y1, .int .i64 y2, .int .i64 y3]] w fun e w' => e = .returned (.bool true) ∧ Looked wb b pb cap L B p q cl th pcs w w' := by
  have zb := lt_of_block hb
  have d0 : w.cell? ⟨wb, 0, none⟩ = some (.slice (some ⟨pb, 0, none⟩) 1 cap) := cell_of hb 0
  have ho : (w.alloc (.cells #[Value.int .i64 4, .int .i64 mp, .int .i64 i, .int .i64 y0, .int .i64 y1, .int .i64 y2, .int .i64 y3] 34)).heap[w.heap.size]? = some (.cells #[Value.int .i64 4, .int .i64 mp, .int .i64 i, .int .i64 y0, .int .i64 y1, .int .i64 y2, .int .i64 y3] 34 (0, 0)) := block_alloc_new _ _
  have hK : Kept [] w (w.alloc (.cells #[Value.int .i64 4, .int .i64 mp, .int .i64 i, .int .i64 y0, .int .i64 y1, .int .i64 y2, .int .i64 y3] 34)) := (Kept.refl _ w).alloc _
  have HL : Hid _ := hl
  have HT : Hid _ := hT
  clear hl hT
  go_enter Tryz.func20, Tryz.ntmps20
  go_wp2_with fail
  have g0 := cell_of (hK.at hb (by simp)) 0
  have gp := (cell_of (hK.at hpb (by simp)) 0).trans hpc
  generalize (w.alloc (.cells #[Value.int .i64 4, .int .i64 mp, .int .i64 i, .int .i64 y0, .int .i64 y1, .int .i64 y2, .int .i64 y3] 34)) = W0 at *
  have d2 : ∀ x, W0.cell? ⟨w.heap.size, x, none⟩ = #[Value.int .i64 4, .int .i64 mp, .int .i64 i, .int .i64 y0, .int .i64 y1, .int .i64 y2, .int .i64 y3][x]? := cell_of ho
  go_region_held3 (fun w' => w'.cell? ⟨wb, 0, none⟩ = some (.slice (some ⟨pb, 0, none⟩) 1 cap) ∧ w'.cell? ⟨pb, 0, none⟩ = some (.pointer (some ⟨b, 0, none⟩)) ∧ (∀ x, w'.cell? ⟨w.heap.size, x, none⟩ = #[Value.int .i64 4, .int .i64 mp, .int .i64 i, .int .i64 y0, .int .i64 y1, .int .i64 y2, .int .i64 y3][x]?))
    (first | exact ⟨g0, gp, d2⟩)
    (first | (go_at_call 39; refine (pick_one mp _).mono ?_; rintro e w1 ⟨rfl, rfl⟩))
  go_wp2_with fail
  refine (seen_any b p q cl _ th (HT.out.keptNil hK.drew)).mono ?_
  rintro e w2 ⟨b1, b2, rfl, hb1, hz1, hb2, hz2, hT2, k2⟩
  clear g0 gp d2 d0
  have K2 : Kept [p.m] w w2 := (hK.drew.mono (by simp)).trans k2
  have nm : ∀ (x : Nat) (o : Obj), w.heap[x]? = some o → (∀ cs, o ≠ Obj.cells cs 78 (0, 0)) → x ∉ [p.m] := fun x o hx h1 hm => by
    simp at hm
    subst hm
    exact h1 _ (Option.some.inj (hx.symm.trans HT.out.p.m))
  have hbW := K2.at hb (nm _ _ hb (by simp))
  have hpW := K2.at hpb (nm _ _ hpb (by simp))
  have lW : LAt B ls l3 L xs ys w2 := HL.out.kept K2 (fun y hy cs => by
    simp at hy
    subst hy
    rw [HT.out.p.m]
    simp)
  have hv := block_alloc_new w2 (.cells #[Value.slice (some ⟨b1, 0, none⟩) 0 0, .bool false, .bool false, .slice (some ⟨b2, 0, none⟩) 0 0, .int .i64 0, .int .i64 (-1)] 27)
  have a1 := block_alloc_lt hb1 (.cells #[Value.slice (some ⟨b1, 0, none⟩) 0 0, .bool false, .bool false, .slice (some ⟨b2, 0, none⟩) 0 0, .int .i64 0, .int .i64 (-1)] 27)
  have a2 := block_alloc_lt hb2 (.cells #[Value.slice (some ⟨b1, 0, none⟩) 0 0, .bool false, .bool false, .slice (some ⟨b2, 0, none⟩) 0 0, .int .i64 0, .int .i64 (-1)] 27)
  have aW := block_alloc_lt hbW (.cells #[Value.slice (some ⟨b1, 0, none⟩) 0 0, .bool false, .bool false, .slice (some ⟨b2, 0, none⟩) 0 0, .int .i64 0, .int .i64 (-1)] 27)
  have aP := block_alloc_lt hpW (.cells #[Value.slice (some ⟨b1, 0, none⟩) 0 0, .bool false, .bool false, .slice (some ⟨b2, 0, none⟩) 0 0, .int .i64 0, .int .i64 (-1)] 27)
  have lV := lW.keptNil ((Kept.refl [] w2).alloc (.cells #[Value.slice (some ⟨b1, 0, none⟩) 0 0, .bool false, .bool false, .slice (some ⟨b2, 0, none⟩) 0 0, .int .i64 0, .int .i64 (-1)] 27))
  have tV := hT2.keptNil ((Kept.refl [] w2).alloc (.cells #[Value.slice (some ⟨b1, 0, none⟩) 0 0, .bool false, .bool false, .slice (some ⟨b2, 0, none⟩) 0 0, .int .i64 0, .int .i64 (-1)] 27))
  have KV := K2.alloc (.cells #[Value.slice (some ⟨b1, 0, none⟩) 0 0, .bool false, .bool false, .slice (some ⟨b2, 0, none⟩) 0 0, .int .i64 0, .int .i64 (-1)] 27)
  have zV := Nat.le_trans hB KV.size
  have HV : Hid _ := And.intro lV tV
  clear lV tV lW hT2
  go_wp2_with fail
  generalize (w2.alloc (.cells #[Value.slice (some ⟨b1, 0, none⟩) 0 0, .bool false, .bool false, .slice (some ⟨b2, 0, none⟩) 0 0, .int .i64 0, .int .i64 (-1)] 27)) = W3 at *
  refine (takes_any wb B L b1 _ ls l3 xs ys W3 aW HV.out.1 (by omega) zV a1).mono ?_
  rintro e w4 ⟨rfl, T4⟩
  obtain ⟨ls4, l34, ys4, h4, l4, k4⟩ := T4.out
  have r4 := rows25_of aW HV.out.1
  have hv4 := k4.at hv (r4.off hv (by simp) (by simp))
  have a24 := k4.at a2 (r4.off a2 (by simp) (by simp))
  have aP4 := k4.at aP (r4.off aP (by simp) (by simp))
  have t4 := HV.out.2.rows k4 r4
  have c3 : ∀ o, w4.cell? ⟨w2.heap.size, o, none⟩ = #[Value.slice (some ⟨b1, 0, none⟩) 0 0, .bool false, .bool false, .slice (some ⟨b2, 0, none⟩) 0 0, .int .i64 0, .int .i64 (-1)][o]? := cell_of hv4
  have z4 := Nat.le_trans zV k4.size
  have HW : Hid _ := And.intro l4 (And.intro t4 T4)
  clear l4 t4 T4
  go_wp2_with fail
  refine (takes_any wb B (L + 1) b2 _ ls4 l34 _ ys4 w4 h4 HW.out.1 (by omega) z4 a24).mono ?_
  rintro e w5 ⟨rfl, T5⟩
  obtain ⟨ls5, l35, ys5, h5, l5, k5⟩ := T5.out
  have r5 := rows25_of h4 HW.out.1
  have aP5 := k5.at aP4 (r5.off aP4 (by simp) (by simp))
  have t5 := HW.out.2.1.rows k5 r5
  have HX : Hid (Looked wb b pb cap L B p q cl th pcs w w5) := by
    refine ⟨⟨ls5, l35, _, ys5, t5, h5, aP5, l5, fun w0 hw0 hpm hwb k0 => ?_⟩⟩
    have K3 : Kept [] w0 W3 := k0.drop KV (fun x hx hlt => by simp at hx; omega)
    have own : ∀ (g : Nat) (sl : Value) (n : Nat) (zs : List Value) (u : World), u.ownsRow B 25 1 sl n zs → sl.ownBlock = some g → B ≤ g := fun g sl n zs u hu hg => by obtain ⟨cs, _, h⟩ := own_lt hu hg; exact h
    have K4 : Kept [] w0 w4 := K3.drop k4 (fun x hx hlt => by
      simp at hx
      rcases hx with rfl | hx | hx
      · omega
      · have := own _ _ _ _ _ HV.out.1.row hx; omega
      · have := own _ _ _ _ _ HV.out.1.row3 hx; omega)
    exact K4.drop k5 (fun x hx hlt => by
      simp at hx
      rcases hx with rfl | hx | hx
      · omega
      · have := own _ _ _ _ _ HW.out.1.row hx; omega
      · have := own _ _ _ _ _ HW.out.1.row3 hx; omega)
  clear l5 t5 T5 c3
  go_wp2
  go_ret
  exact ⟨rfl, HX.out⟩
end Go.Proofs.YtfgfpggjcfhccaaGreat
