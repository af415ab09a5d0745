import Derived.Test.YtmnkphenobfbfaaGreatGb
import Derived.Test.YtmnkphenobfbfaaGreatGd
namespace Go.Proofs.YtmnkphenobfbfaaGreat
open Go.RowKit
theorem res12 {tmps : Array Value} {W : World} (r : Nat) (v0 v1 v2 v3 v4 v5 : Value) (h2 : tmps.getD 2 undef = .pointer (some ⟨r, 0, none⟩))
    (hc : ∀ o, W.cell? ⟨r, o, none⟩ = #[Value.slice none 0 0, .bool false, .bool false, .slice none 0 0, .int .i64 0, .int .i64 0][o]?) :
    (results Tryz.f14 tmps).run Tryz.prog ((((((W.setCell ⟨r, 0, none⟩ v0).setCell ⟨r, 1, none⟩ v1).setCell ⟨r, 2, none⟩ v2).setCell ⟨r, 3, none⟩ v3).setCell ⟨r, 4, none⟩ v4).setCell ⟨r, 5, none⟩ v5) =
      .ok (.agg #[v0, v1, v2, v3, v4, v5]) ((((((W.setCell ⟨r, 0, none⟩ v0).setCell ⟨r, 1, none⟩ v1).setCell ⟨r, 2, none⟩ v2).setCell ⟨r, 3, none⟩ v3).setCell ⟨r, 4, none⟩ v4).setCell ⟨r, 5, none⟩ v5) := by
  simp only [Array.getD_eq_getD_getElem?] at h2
  simp [results, Tryz.results14, go_sem, h2, hc]
set_option maxRecDepth 100000 in
set_option maxHeartbeats 1600000 in
theorem rlook (q : RM) (cl : Bool) (w : World) (h : w.heap[q.r]? = some (.cells (rCells q cl) 59 (0, 0))) :
    Calls Tryz.prog 14 #[.pointer (some ⟨q.r, 0, none⟩)] w fun e w' => e = .returned (.agg #[.slice none 0 0, .bool false, .bool false, .slice none 0 0, .int .i64 0, .int .i64 (-1)]) ∧ Kept [] w w' := by
  have hs := lt_of_block h
  go_enter Tryz.func14, Tryz.ntmps14
  go_wp2_with fail
  have hS : (w.alloc (.cells #[Value.slice none 0 0, .bool false, .bool false, .slice none 0 0, .int .i64 0, .int .i64 0] 27)).heap[q.r]? = some (.cells (rCells q cl) 59 (0, 0)) := block_alloc_lt h _
  have hr : (w.alloc (.cells #[Value.slice none 0 0, .bool false, .bool false, .slice none 0 0, .int .i64 0, .int .i64 0] 27)).heap[w.heap.size]? = some (.cells #[Value.slice none 0 0, .bool false, .bool false, .slice none 0 0, .int .i64 0, .int .i64 0] 27 (0, 0)) := block_alloc_new _ _
  have hK : Kept [] w (w.alloc (.cells #[Value.slice none 0 0, .bool false, .bool false, .slice none 0 0, .int .i64 0, .int .i64 0] 27)) := (Kept.refl [] w).alloc _
  generalize (w.alloc (.cells #[Value.slice none 0 0, .bool false, .bool false, .slice none 0 0, .int .i64 0, .int .i64 0] 27)) = W0 at *
  have n3 : w.heap.size ≠ q.r := by omega
  have hc : ∀ o, W0.cell? ⟨q.r, o, none⟩ = #[Value.slice none 0 0, .int .i64 (-1), .int .i64 (-1), .int .i64 (-1), .int .i64 (-1), .int .i64 (-1), .int .i64 (-1), .int .i64 (-1), .int .i64 (-1), .bool false, .bool false, .int .i64 (-1), .int .i64 (-1), .int .i64 (-1), .int .i64 (-1), .int .i64 (-1), .int .i64 (-1), .int .i64 (-1), .int .i64 (-1), .int .i64 0, .int .i64 (-1), .bool cl, .slice (some ⟨q.tb, 0, none⟩) q.n q.n][o]? := cell_of hS
  have L : ∀ W, Kept [] W0 W → Calls Tryz.prog 29 #[.pointer (some ⟨q.r, 0, none⟩), .agg #[.int .i64 (-1), .int .i64 (-1), .int .i64 (-1), .int .i64 (-1), .int .i64 (-1), .int .i64 (-1), .int .i64 (-1), .int .i64 (-1)]] W fun e w' => e = .returned (.slice none 0 0) ∧ Kept [] W0 w' ∧
      (∀ o, w'.cell? ⟨q.r, o, none⟩ = #[Value.slice none 0 0, .int .i64 (-1), .int .i64 (-1), .int .i64 (-1), .int .i64 (-1), .int .i64 (-1), .int .i64 (-1), .int .i64 (-1), .int .i64 (-1), .bool false, .bool false, .int .i64 (-1), .int .i64 (-1), .int .i64 (-1), .int .i64 (-1), .int .i64 (-1), .int .i64 (-1), .int .i64 (-1), .int .i64 (-1), .int .i64 0, .int .i64 (-1), .bool cl, .slice (some ⟨q.tb, 0, none⟩) q.n q.n][o]?) ∧ (∀ o, w'.cell? ⟨w.heap.size, o, none⟩ = #[Value.slice none 0 0, .bool false, .bool false, .slice none 0 0, .int .i64 0, .int .i64 0][o]?) ∧ (∀ o, w'.frozen? ⟨w.heap.size, o, none⟩ = false) := by
    intro W hW
    refine (entries0 _ W).mono ?_
    rintro e w' ⟨rfl, hk⟩
    have hk' := hW.trans hk
    exact ⟨rfl, hk', cell_of (hk'.at hS (by simp)), cell_of (hk'.at hr (by simp)), frozen_of (hk'.at hr (by simp))⟩
  have HL : Hid _ := L
  clear L
  go_region_held3 (fun w' => ∀ o, w'.cell? ⟨q.r, o, none⟩ = #[Value.slice none 0 0, .int .i64 (-1), .int .i64 (-1), .int .i64 (-1), .int .i64 (-1), .int .i64 (-1), .int .i64 (-1), .int .i64 (-1), .int .i64 (-1), .bool false, .bool false, .int .i64 (-1), .int .i64 (-1), .int .i64 (-1), .int .i64 (-1), .int .i64 (-1), .int .i64 (-1), .int .i64 (-1), .int .i64 (-1), .int .i64 0, .int .i64 (-1), .bool cl, .slice (some ⟨q.tb, 0, none⟩) q.n q.n][o]?)
    (first | (intro o; rw [cell_set6 n3]; exact g3 o) | exact g3 | exact hc)
    (first | (go_at_call 29; refine (HL.out _ (by first | exact kk | exact (Kept.refl _ _).drew)).mono ?_; rintro e w' ⟨rfl, kk, g3, g5, g6⟩))
  go_wp2
  exact bodyPost_ret (v := .agg #[_, .bool false, .bool false, _, .int .i64 0, .int .i64 (-1)]) (res12 w.heap.size _ _ _ _ _ _ rfl g5) rfl ⟨rfl, (((((((hK.trans kk).setCell (.inr (Nat.le_refl _)) _).setCell (.inr (Nat.le_refl _)) _).setCell (.inr (Nat.le_refl _)) _).setCell (.inr (Nat.le_refl _)) _).setCell (.inr (Nat.le_refl _)) _).setCell (.inr (Nat.le_refl _)) _)⟩
end Go.Proofs.YtmnkphenobfbfaaGreat
namespace Go.Proofs.YtmnkphenobfbfaaGreat
open Go.RowKit
/-- A map of the program and the document's, in one state; the pair that holds them lies at b. -/
structure Two (b : Nat) (p : PM) (q : RM) (w : World) (cl : Bool) (th : Nat → Option (Int × Int × Int)) : Prop where
  n : q.n = p.ts.length
  b : w.heap[b]? = some (.cells #[.pointer (some ⟨p.m, 0, none⟩), .pointer (some ⟨q.r, 0, none⟩)] 47 (0, 0))
  p : PAt p 0 w cl th
  q : RAt q w cl th
theorem Two.keptNil {b : Nat} {p : PM} {q : RM} {w w' : World} {cl : Bool} {th : Nat → Option (Int × Int × Int)} (h : Two b p q w cl th) (k : Kept [] w w') : Two b p q w' cl th :=
  ⟨h.n, k.at h.b (by simp), h.p.keptNil k, h.q.keptNil k⟩
/-- What the program's map does to its own. -/
theorem Two.progM {b : Nat} {p : PM} {q : RM} {w w' : World} {cl : Bool} {th : Nat → Option (Int × Int × Int)} (h : Two b p q w cl th) (hp : PAt p 0 w' cl th) (k : Kept [p.m] w w') : Two b p q w' cl th := by
  obtain ⟨cs, g1, g2⟩ := h.q.tb
  refine ⟨h.n, k.at h.b (by simpa using ne_of_blocks h.b h.p.m (by simp)), hp, h.q.kept k (by simpa using ne_of_blocks h.q.r h.p.m (by simp)) (by simpa using ne_of_blocks g1 h.p.m (by simp))⟩
theorem Two.set6 {b : Nat} {p : PM} {q : RM} {W : World} {cl : Bool} {th : Nat → Option (Int × Int × Int)} (h : Two b p q W cl th) {r : Nat} {cs : Array Value} (hr : W.heap[r]? = some (.cells cs 27 (0, 0)))
    (v0 v1 v2 v3 v4 v5 : Value) : Two b p q ((((((W.setCell ⟨r, 0, none⟩ v0).setCell ⟨r, 1, none⟩ v1).setCell ⟨r, 2, none⟩ v2).setCell ⟨r, 3, none⟩ v3).setCell ⟨r, 4, none⟩ v4).setCell ⟨r, 5, none⟩ v5) cl th := by
  obtain ⟨cs', g1, g2⟩ := h.q.tb
  refine ⟨h.n, ?_, ?_, ⟨h.q.len, ?_, cs', ?_, g2⟩⟩
  · exact block_set6 h.b (ne_of_blocks h.b hr (by simp)) _ _ _ _ _ _
  · exact h.p.set6 hr (by decide) (by decide) (by decide) (by decide) _ _ _ _ _ _
  · exact block_set6 h.q.r (ne_of_blocks h.q.r hr (by simp)) _ _ _ _ _ _
  · exact block_set6 g1 (ne_of_blocks g1 hr (by simp)) _ _ _ _ _ _
theorem Two.drew {b : Nat} {p : PM} {q : RM} {W : World} {cl : Bool} {th : Nat → Option (Int × Int × Int)} (h : Two b p q W cl th) : Two b p q W.drew cl th := h.keptNil (Kept.refl [] W).drew
theorem res6 {tmps : Array Value} {W : World} (r : Nat) (v0 v1 v2 v3 v4 v5 e : Value) (h2 : tmps.getD 2 undef = .pointer (some ⟨r, 0, none⟩)) (h3 : tmps.getD 3 undef = e)
    (hc : ∀ o, W.cell? ⟨r, o, none⟩ = #[Value.slice none 0 0, .bool false, .bool false, .slice none 0 0, .int .i64 0, .int .i64 0][o]?) :
    (results Tryz.f8 tmps).run Tryz.prog ((((((W.setCell ⟨r, 0, none⟩ v0).setCell ⟨r, 1, none⟩ v1).setCell ⟨r, 2, none⟩ v2).setCell ⟨r, 3, none⟩ v3).setCell ⟨r, 4, none⟩ v4).setCell ⟨r, 5, none⟩ v5).drew = .ok (.tuple #[.agg #[v0, v1, v2, v3, v4, v5], e]) ((((((W.setCell ⟨r, 0, none⟩ v0).setCell ⟨r, 1, none⟩ v1).setCell ⟨r, 2, none⟩ v2).setCell ⟨r, 3, none⟩ v3).setCell ⟨r, 4, none⟩ v4).setCell ⟨r, 5, none⟩ v5).drew := by
  simp only [Array.getD_eq_getD_getElem?] at h2 h3
  simp [results, Tryz.results8, go_sem, h2, h3, hc]
theorem cell_drew (w : World) (a : Addr) : w.drew.cell? a = w.cell? a := rfl
set_option maxRecDepth 100000 in
set_option maxHeartbeats 4000000 in
theorem seen_any (b : Nat) (p : PM) (q : RM) (cl : Bool) (w : World) (th : Nat → Option (Int × Int × Int)) (h : Two b p q w cl th) :
    Calls Tryz.prog 8 #[.pointer (some ⟨b, 0, none⟩)] w fun e w' => ∃ b1 b2, e = .returned (.tuple #[.agg #[.slice (some ⟨b1, 0, none⟩) 0 0, .bool false, .bool false, .slice (some ⟨b2, 0, none⟩) 0 0, .int .i64 0, .int .i64 (-1)], .bool true]) ∧
      w'.heap[b1]? = some (.cells #[] 84 (0, 0)) ∧ w.heap.size ≤ b1 ∧ w'.heap[b2]? = some (.cells #[] 84 (0, 0)) ∧ w.heap.size ≤ b2 ∧ Two b p q w' cl th ∧ Kept [p.m] w w' := by
  have hs := lt_of_block h.b
  have h0 := h.keptNil ((Kept.refl [] w).alloc (.cells #[Value.slice none 0 0, .bool false, .bool false, .slice none 0 0, .int .i64 0, .int .i64 0] 27))
  have hK : Kept [p.m] w (w.alloc (.cells #[Value.slice none 0 0, .bool false, .bool false, .slice none 0 0, .int .i64 0, .int .i64 0] 27)) := (Kept.refl _ w).alloc _
  have hr : (w.alloc (.cells #[Value.slice none 0 0, .bool false, .bool false, .slice none 0 0, .int .i64 0, .int .i64 0] 27)).heap[w.heap.size]? = some (.cells #[Value.slice none 0 0, .bool false, .bool false, .slice none 0 0, .int .i64 0, .int .i64 0] 27 (0, 0)) := block_alloc_new _ _
  have c0 : w.cell? ⟨b, 0, none⟩ = some (.pointer (some ⟨p.m, 0, none⟩)) := cell_of h.b 0
  go_enter Tryz.func8, Tryz.ntmps8
  go_wp2_with fail
  refine (look_any p cl _ th h0.p).mono ?_
  rintro e w1 ⟨b1, b2, rfl, hb1, hz1, hb2, hz2, hp1, k1⟩
  have h1 := h0.progM hp1 k1
  have zp : w.heap.size ≠ p.m := by have := lt_of_block h.p.m; omega
  have r1 := k1.at hr (by simpa using zp)
  have zz : w.heap.size < (w.alloc (.cells #[Value.slice none 0 0, .bool false, .bool false, .slice none 0 0, .int .i64 0, .int .i64 0] 27)).heap.size := by simp
  have zzz := World.size_alloc w (.cells #[Value.slice none 0 0, .bool false, .bool false, .slice none 0 0, .int .i64 0, .int .i64 0] 27)
  have K1 := hK.trans k1
  generalize (w.alloc (.cells #[Value.slice none 0 0, .bool false, .bool false, .slice none 0 0, .int .i64 0, .int .i64 0] 27)) = W0 at *
  have c1 : w1.cell? ⟨b, 1, none⟩ = some (.pointer (some ⟨q.r, 0, none⟩)) := cell_of h1.b 1
  have hs1 := lt_of_block h1.b
  clear c0 zzz
  go_wp2_with fail
  have v1 := block_alloc_new w1 (.cells #[Value.slice (some ⟨b1, 0, none⟩) 0 0, .bool false, .bool false, .slice (some ⟨b2, 0, none⟩) 0 0, .int .i64 0, .int .i64 (-1)] 27)
  refine (rlook q cl _ (block_alloc_lt h1.q.r _)).mono ?_
  rintro e w2 ⟨rfl, k2⟩
  have v2 := k2.at v1 (by simp)
  have h2 := (h1.keptNil ((Kept.refl [] w1).alloc _)).keptNil k2
  have r2 := k2.at (block_alloc_lt r1 _) (by simp)
  have K2 := (K1.alloc (.cells #[Value.slice (some ⟨b1, 0, none⟩) 0 0, .bool false, .bool false, .slice (some ⟨b2, 0, none⟩) 0 0, .int .i64 0, .int .i64 (-1)] 27)).trans (k2.mono (by simp))
  have hb1' := k2.at (block_alloc_lt hb1 _) (by simp)
  have hb2' := k2.at (block_alloc_lt hb2 _) (by simp)
  have zv2 := lt_of_block v2
  have cv : ∀ o, w2.cell? ⟨w1.heap.size, o, none⟩ = #[Value.slice (some ⟨b1, 0, none⟩) 0 0, .bool false, .bool false, .slice (some ⟨b2, 0, none⟩) 0 0, .int .i64 0, .int .i64 (-1)][o]? := cell_of v2
  have zr1 := lt_of_block r1
  clear c1
  go_wp2_with fail
  refine (same0 _ _ _ _ _).mono ?_
  rintro e w3 ⟨rfl, rfl⟩
  go_wp2_with fail
  refine (same0 _ _ _ _ _).mono ?_
  rintro e w3 ⟨rfl, rfl⟩
  have v3 := block_alloc_lt v2 (.cells #[Value.slice none 0 0, .bool false, .bool false, .slice none 0 0, .int .i64 0, .int .i64 (-1)] 27)
  have v3' := block_alloc_new w2 (.cells #[Value.slice none 0 0, .bool false, .bool false, .slice none 0 0, .int .i64 0, .int .i64 (-1)] 27)
  have h3 := h2.keptNil ((Kept.refl [] w2).alloc (.cells #[Value.slice none 0 0, .bool false, .bool false, .slice none 0 0, .int .i64 0, .int .i64 (-1)] 27))
  have r3 := block_alloc_lt r2 (.cells #[Value.slice none 0 0, .bool false, .bool false, .slice none 0 0, .int .i64 0, .int .i64 (-1)] 27)
  have K3 := K2.alloc (.cells #[Value.slice none 0 0, .bool false, .bool false, .slice none 0 0, .int .i64 0, .int .i64 (-1)] 27)
  have hb1'' := block_alloc_lt hb1' (.cells #[Value.slice none 0 0, .bool false, .bool false, .slice none 0 0, .int .i64 0, .int .i64 (-1)] 27)
  have hb2'' := block_alloc_lt hb2' (.cells #[Value.slice none 0 0, .bool false, .bool false, .slice none 0 0, .int .i64 0, .int .i64 (-1)] 27)
  go_wp2_with fail
  generalize (w2.alloc (.cells #[Value.slice none 0 0, .bool false, .bool false, .slice none 0 0, .int .i64 0, .int .i64 (-1)] 27)) = W3 at *
  have ca : ∀ o, W3.cell? ⟨w1.heap.size, o, none⟩ = #[Value.slice (some ⟨b1, 0, none⟩) 0 0, .bool false, .bool false, .slice (some ⟨b2, 0, none⟩) 0 0, .int .i64 0, .int .i64 (-1)][o]? := cell_of v3
  have cb : ∀ o, W3.cell? ⟨w2.heap.size, o, none⟩ = #[Value.slice none 0 0, .bool false, .bool false, .slice none 0 0, .int .i64 0, .int .i64 (-1)][o]? := cell_of v3'
  have cr : ∀ o, W3.cell? ⟨w.heap.size, o, none⟩ = #[Value.slice none 0 0, .bool false, .bool false, .slice none 0 0, .int .i64 0, .int .i64 0][o]? := cell_of r3
  have fr : ∀ o, W3.frozen? ⟨w.heap.size, o, none⟩ = false := frozen_of r3
  have na : w.heap.size ≠ w1.heap.size := by omega
  have nb : w.heap.size ≠ w2.heap.size := by omega
  clear cv
  go_region_held3 (fun w' => (∀ o, w'.cell? ⟨w1.heap.size, o, none⟩ = #[Value.slice (some ⟨b1, 0, none⟩) 0 0, .bool false, .bool false, .slice (some ⟨b2, 0, none⟩) 0 0, .int .i64 0, .int .i64 (-1)][o]?) ∧ (∀ o, w'.cell? ⟨w2.heap.size, o, none⟩ = #[Value.slice none 0 0, .bool false, .bool false, .slice none 0 0, .int .i64 0, .int .i64 (-1)][o]?))
    (first | (refine ⟨?_, ?_⟩ <;> intro o <;> first | (rw [cell_drew, cell_set6 na]; exact ca o) | (rw [cell_drew, cell_set6 nb]; exact cb o) | (rw [cell_drew]; exact ca o) | (rw [cell_drew]; exact cb o)))
    (fail)
  clear ca cb fr v1 v2 v3 v3' r1 r2 hb1 hb2 hb1' hb2' h0 h1 h2 hp1 k1 k2 hK hr K1 K2
  go_wp2
  refine bodyPost_ret (v := .tuple #[.agg #[_, .bool false, .bool false, _, .int .i64 0, .int .i64 (-1)], .bool true]) (res6 w.heap.size _ _ _ _ _ _ _ rfl rfl cr) rfl ⟨b1, b2, rfl, ?_, by omega, ?_, by omega, ?_, ?_⟩
  · rw [heap_drew]; exact block_set6 hb1'' (by omega) _ _ _ _ _ _
  · rw [heap_drew]; exact block_set6 hb2'' (by omega) _ _ _ _ _ _
  · exact (h3.set6 r3 _ _ _ _ _ _).drew
  · exact ((((((K3.setCell (.inr (Nat.le_refl _)) _).setCell (.inr (Nat.le_refl _)) _).setCell (.inr (Nat.le_refl _)) _).setCell (.inr (Nat.le_refl _)) _).setCell (.inr (Nat.le_refl _)) _).setCell (.inr (Nat.le_refl _)) _).drew
end Go.Proofs.YtmnkphenobfbfaaGreat
