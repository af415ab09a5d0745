import Derived.Test.YtfgfpggjcfhccaaGreatCl
namespace Go.Proofs.YtfgfpggjcfhccaaGreat
open Go.RowKit
set_option maxRecDepth 100000 in
set_option maxHeartbeats 4000000 in
theorem does_begin (b : Nat) (p : PM) (q : RM) (cl : Bool) (x0 i kind key v o : Int) (w : World) (th : Nat → Option (Int × Int × Int)) (h : Two b p q w cl th) (hk : kind ≤ 0) :
    Calls Tryz.prog 8 #[.pointer (some ⟨b, 0, none⟩), .agg #[.int .i64 2, .int .i64 x0, .int .i64 i, .int .i64 kind, .int .i64 key, .int .i64 v, .int .i64 o]] w fun e w' =>
      e = .returned (.bool true) ∧ Two b p q w' cl (beginT cl p.ts.length th i kind key v o) ∧ Kept (p.m :: q.tb :: p.ts) w w' := by
  have hs := lt_of_block h.b
  have h0 := h.keptNil ((Kept.refl [] w).alloc (.cells #[Value.int .i64 2, .int .i64 x0, .int .i64 i, .int .i64 kind, .int .i64 key, .int .i64 v, .int .i64 o] 34))
  have ho : (w.alloc (.cells #[Value.int .i64 2, .int .i64 x0, .int .i64 i, .int .i64 kind, .int .i64 key, .int .i64 v, .int .i64 o] 34)).heap[w.heap.size]? = some (.cells #[Value.int .i64 2, .int .i64 x0, .int .i64 i, .int .i64 kind, .int .i64 key, .int .i64 v, .int .i64 o] 34 (0, 0)) := block_alloc_new _ _
  have hK : Kept (p.m :: q.tb :: p.ts) w (w.alloc (.cells #[Value.int .i64 2, .int .i64 x0, .int .i64 i, .int .i64 kind, .int .i64 key, .int .i64 v, .int .i64 o] 34)) := (Kept.refl _ w).alloc _
  go_enter Tryz.func8, Tryz.ntmps8
  go_wp2_with fail
  generalize (w.alloc (.cells #[Value.int .i64 2, .int .i64 x0, .int .i64 i, .int .i64 kind, .int .i64 key, .int .i64 v, .int .i64 o] 34)) = W0 at *
  have d0 : W0.cell? ⟨b, 0, none⟩ = some (.pointer (some ⟨p.m, 0, none⟩)) := cell_of h0.b 0
  have d2 : ∀ x, W0.cell? ⟨w.heap.size, x, none⟩ = #[Value.int .i64 2, .int .i64 x0, .int .i64 i, .int .i64 kind, .int .i64 key, .int .i64 v, .int .i64 o][x]? := cell_of ho
  go_region_held3 (fun w' => w'.cell? ⟨b, 0, none⟩ = some (.pointer (some ⟨p.m, 0, none⟩)) ∧ (∀ x, w'.cell? ⟨w.heap.size, x, none⟩ = #[Value.int .i64 2, .int .i64 x0, .int .i64 i, .int .i64 kind, .int .i64 key, .int .i64 v, .int .i64 o][x]?))
    (first | exact ⟨g0, g2⟩ | exact ⟨d0, d2⟩)
    (first | (go_at_call 15; refine (pbegin p i kind key v o cl _ th (by exact h0.p.drew) hk).mono ?_; rintro e w1 ⟨rfl, hp, k1⟩; have hM := h0.drew.mid hp k1; have hob := k1.at ho (h0.p.offTs ho (by simp) (by simp)); have g0 := cell_of hM.b 0; have g2 := cell_of hob))
  clear g0 g2 d0 d2
  have K1 : Kept (p.m :: q.tb :: p.ts) w w1 := hK.trans ((Kept.refl _ W0).drew.trans (k1.mono (by simp only [List.mem_cons]; intro x hx; rcases hx with hx | hx; exact .inl hx; exact .inr (.inr hx))))
  have d0 : w1.cell? ⟨b, 1, none⟩ = some (.pointer (some ⟨q.r, 0, none⟩)) := cell_of hM.b 1
  have d2 : ∀ x, w1.cell? ⟨w.heap.size, x, none⟩ = #[Value.int .i64 2, .int .i64 x0, .int .i64 i, .int .i64 kind, .int .i64 key, .int .i64 v, .int .i64 o][x]? := cell_of hob
  obtain ⟨tcs, htb, _⟩ := hM.q.tb
  have hn := hM.n
  have HN : Hid _ := hn
  clear hn
  go_wp2_with fail
  go_region_held3 (fun w' => w'.cell? ⟨b, 1, none⟩ = some (.pointer (some ⟨q.r, 0, none⟩)) ∧ (∀ x, w'.cell? ⟨w.heap.size, x, none⟩ = #[Value.int .i64 2, .int .i64 x0, .int .i64 i, .int .i64 kind, .int .i64 key, .int .i64 v, .int .i64 o][x]?))
    (first | exact ⟨g0, g2⟩ | exact ⟨d0, d2⟩)
    (first | (go_at_call 16; refine (rbegin q i kind key v o cl _ th (by exact hM.q.drew) hk).mono ?_; rintro e w2 ⟨rfl, hq, k2⟩; rw [HN.out] at hq ⊢; have hT := (hM.keptNil (Kept.refl [] w1).drew).two hq k2; have hob2 := k2.at hob (by simpa using ne_of_blocks hob htb (by simp)); have g0 := cell_of hT.b 1; have g2 := cell_of hob2))
  have K2 : Kept (p.m :: q.tb :: p.ts) w w2 := K1.trans ((Kept.refl _ w1).drew.trans (k2.mono (by simp)))
  clear g0 g2 d0 d2
  go_wp2
  go_ret
  exact ⟨by simp, hT, K2⟩
theorem RAt.shut {q : RM} {w : World} {cl : Bool} {th : Nat → Option (Int × Int × Int)} (h : RAt q w cl th) : RAt q (w.setCell ⟨q.r, 21, none⟩ (.bool true)) true th := by
  obtain ⟨cs, g1, g2⟩ := h.tb
  refine ⟨h.len, ?_, cs, block_set_ne g1 (ne_of_blocks g1 h.r (by simp)) _ _, g2⟩
  rw [block_set_same h.r]
  simp [rCells]
set_option maxRecDepth 100000 in
set_option maxHeartbeats 4000000 in
theorem does_close (b : Nat) (p : PM) (q : RM) (cl : Bool) (x0 i y0 y1 y2 y3 : Int) (w : World) (th : Nat → Option (Int × Int × Int)) (h : Two b p q w cl th) :
    Calls Tryz.prog 8 #[.pointer (some ⟨b, 0, none⟩), .agg #[.int .i64 5, .int .i64 x0, .int .i64 i, .int .i64 y0, .int .i64 y1, .int .i64 y2, .int .i64 y3]] w fun e w' =>
      e = .returned (.bool true) ∧ Two b p q w' true th ∧ Kept [p.m, p.c, q.r] w w' := by
  have hs := lt_of_block h.b
  have h0 := h.keptNil ((Kept.refl [] w).alloc (.cells #[.int .i64 5, .int .i64 x0, .int .i64 i, .int .i64 y0, .int .i64 y1, .int .i64 y2, .int .i64 y3] 34))
  have hK : Kept [p.m, p.c, q.r] w (w.alloc (.cells #[.int .i64 5, .int .i64 x0, .int .i64 i, .int .i64 y0, .int .i64 y1, .int .i64 y2, .int .i64 y3] 34)) := (Kept.refl _ w).alloc _
  have d0 : w.cell? ⟨b, 0, none⟩ = some (.pointer (some ⟨p.m, 0, none⟩)) := cell_of h.b 0
  go_enter Tryz.func8, Tryz.ntmps8
  go_wp2_with fail
  generalize (w.alloc (.cells #[.int .i64 5, .int .i64 x0, .int .i64 i, .int .i64 y0, .int .i64 y1, .int .i64 y2, .int .i64 y3] 34)) = W0 at *
  refine (close_any p cl W0 th h0.p).mono ?_
  rintro e w1 ⟨rfl, hp, k1⟩
  obtain ⟨tcs, htb, htb2⟩ := h0.q.tb
  have off : ∀ (x : Nat) (ob : Obj), W0.heap[x]? = some ob → (∀ cs, ob ≠ Obj.cells cs 78 (0, 0)) → (∀ y, ob ≠ Obj.chan 0 #[] y 0 0 false) → x ∉ [p.m, p.c] := by
    intro x ob hx h1 h2 hm
    simp at hm
    rcases hm with rfl | rfl
    · exact h1 _ (Option.some.inj (hx.symm.trans h0.p.m))
    · exact h2 _ (Option.some.inj (hx.symm.trans h0.p.c))
  have hb1 := k1.at h0.b (off _ _ h0.b (by simp) (by simp))
  have hq1 : RAt q w1 cl th := h0.q.kept k1 (off _ _ h0.q.r (by simp) (by simp)) (off _ _ htb (by simp) (by simp))
  have K1 : Kept [p.m, p.c, q.r] w w1 := hK.trans (k1.mono (by simp only [List.mem_cons]; intro x hx; rcases hx with hx | hx | hx; exact .inl hx; exact .inr (.inl hx); cases hx))
  have d1 : w1.cell? ⟨b, 1, none⟩ = some (.pointer (some ⟨q.r, 0, none⟩)) := cell_of hb1 1
  have d21 : w1.cell? ⟨q.r, 21, none⟩ = some (.bool cl) := cell_of hq1.r 21
  have f21 : w1.frozen? ⟨q.r, 21, none⟩ = false := frozen_of hq1.r 21
  have hn := h0.n
  have HN : Hid _ := hn
  clear hn d0
  go_wp2
  go_ret
  obtain ⟨ptc, hptb, _⟩ := hp.tb
  refine ⟨rfl, ⟨HN.out, block_set_ne hb1 (ne_of_blocks hb1 hq1.r (by simp)) _ _, hp.set hq1.r (by decide) (by decide) (by decide) (by decide) _ _, hq1.shut⟩, K1.setCell (.inl (by simp)) _⟩
end Go.Proofs.YtfgfpggjcfhccaaGreat
