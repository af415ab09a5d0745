import Derived.Test.YtfgfpggjcfhccaaGreatWn
namespace Go.Proofs.YtfgfpggjcfhccaaGreat
open Go.RowKit
theorem WAt.keptNil {wb b : Nat} {p : PM} {q : RM} {cl : Bool} {th : Nat → Option (Int × Int × Int)} {L : Nat} {w0 w w' : World} (h : WAt wb b p q cl th L w0 w) (k : Kept [] w w') : WAt wb b p q cl th L w0 w' := by
  obtain ⟨pb, cap, ls, l3, xs, ys, pcs, h1, h2, h3, h4⟩ := h.at_
  exact ⟨h.two.keptNil k, h.keys, ⟨pb, cap, ls, l3, xs, ys, pcs, k.at h1 (by simp), k.at h2 (by simp), h3, h4.keptNil k⟩, h.fresh, h.kept.trans k⟩
/-- Blocks of the two maps alone. -/
def Maps (F : List Nat) (w : World) : Prop := ∀ y, y ∈ F → ∀ cs, w.heap[y]? ≠ some (.cells cs 64 (0, 0)) ∧ w.heap[y]? ≠ some (.cells cs 22 (0, 0)) ∧ w.heap[y]? ≠ some (.cells cs 84 (0, 0)) ∧ w.heap[y]? ≠ some (.cells cs 25 (0, 0))
theorem Two.maps {b : Nat} {p : PM} {q : RM} {w : World} {cl : Bool} {th : Nat → Option (Int × Int × Int)} (h : Two b p q w cl th) : Maps (p.m :: p.c :: q.r :: q.tb :: p.ts) w := by
  intro y hy cs
  obtain ⟨tcs, g1, _⟩ := h.q.tb
  simp only [List.mem_cons] at hy
  rcases hy with rfl | rfl | rfl | rfl | hy
  · rw [h.p.m]; simp
  · rw [h.p.c]; simp
  · rw [h.q.r]; simp
  · rw [g1]; simp
  · obtain ⟨i, hi⟩ := List.getElem?_of_mem hy
    rw [h.p.ts i y hi]; simp
theorem WAt.after {wb b : Nat} {p : PM} {q : RM} {cl cl' : Bool} {th th' : Nat → Option (Int × Int × Int)} {L : Nat} {w0 w w' : World} {F : List Nat} (h : WAt wb b p q cl th L w0 w) (k : Kept F w w')
    (hF : ∀ y, y ∈ F → y ∈ p.m :: p.c :: q.r :: q.tb :: p.ts) (h2 : Two b p q w' cl' th') (hk : KeysOk th') : WAt wb b p q cl' th' L w0 w' := by
  obtain ⟨pb, cap, ls, l3, xs, ys, pcs, e1, e2, e3, e4⟩ := h.at_
  have hm := h.two.maps
  refine ⟨h2, hk, ⟨pb, cap, ls, l3, xs, ys, pcs, k.at e1 (fun hy => (hm _ (hF _ hy) _).1 e1), k.at e2 (fun hy => (hm _ (hF _ hy) _).2.1 e2), e3, e4.kept k (fun y hy cs => ⟨(hm y (hF y hy) cs).2.2.1, (hm y (hF y hy) cs).2.2.2⟩)⟩, h.fresh, h.kept.drop k (fun x hx hlt => ?_)⟩
  have := h.fresh x (List.mem_cons_of_mem _ (hF x hx))
  omega
structure Stepped (wb b : Nat) (p : PM) (q : RM) (L : Nat) (w0 w' : World) : Prop where
  out : ∃ cl th L', L' ≤ L + 2 ∧ WAt wb b p q cl th L' w0 w'
theorem wstep (wb b : Nat) (p : PM) (q : RM) (cl : Bool) (th : Nat → Option (Int × Int × Int)) (L : Nat) (kd mp i y0 y1 y2 y3 : Int) (w0 w : World) (h : WAt wb b p q cl th L w0 w) (h1 : kd ≠ 1) (h2 : kd = 2 → y0 ≤ 0) (hL : L + 1 ≤ 4000000) :
    Calls Tryz.prog 20 #[.pointer (some ⟨wb, 0, none⟩), .agg #[.int .i64 kd, .int .i64 mp, .int .i64 i, .int .i64 y0, .int .i64 y1, .int .i64 y2, .int .i64 y3]] w fun e w' => e = .returned (.bool true) ∧ Stepped wb b p q L w0 w' := by
  by_cases ho : kd < 2 ∨ 5 < kd
  · refine (wstep_other wb kd mp i y0 y1 y2 y3 w h1 ho).mono ?_
    rintro e w' ⟨rfl, k⟩
    exact ⟨rfl, ⟨cl, th, L, by omega, h.keptNil k⟩⟩
  · obtain ⟨pb, cap, ls, l3, xs, ys, pcs, e1, e2, e3, e4⟩ := h.at_
    by_cases h4 : kd = 4
    · subst h4
      refine (wstep_look wb b pb cap w0.heap.size L p q cl th ls l3 xs ys pcs mp i y0 y1 y2 y3 w h.two e1 e2 e3 e4 hL h.kept.size).mono ?_
      rintro e w' ⟨rfl, hl⟩
      obtain ⟨ls', l3', xs', ys', a1, a2, a3, a4, a5⟩ := hl.out
      exact ⟨rfl, ⟨cl, th, L + 2, by omega, ⟨a1, h.keys, ⟨pb, cap, ls', l3', xs', ys', pcs, a2, a3, e3, a4⟩, h.fresh, a5 w0 rfl (h.fresh _ (by simp)) (h.fresh _ (by simp)) h.kept⟩⟩⟩
    · by_cases hk2 : kd = 2
      · subst hk2
        refine (wstep_does wb b pb cap ls l3 pcs 2 mp i y0 y1 y2 y3 w (fun W w' => Two b p q w' cl (beginT cl p.ts.length th i y0 y1 y2 y3) ∧ Kept (p.m :: q.tb :: p.ts) W w') (by omega) e1 e2 e3 (fun W hW => does_begin b p q cl mp i y0 y1 y2 y3 W th (h.two.keptNil hW) (h2 rfl))).mono ?_
        rintro e w' ⟨rfl, W, hW, hT, hK⟩
        exact ⟨rfl, ⟨_, _, L, by omega, (h.keptNil hW).after hK (by simp only [List.mem_cons]; intro y hy; rcases hy with hy | hy | hy; exact .inl hy; exact .inr (.inr (.inr (.inl hy))); exact .inr (.inr (.inr (.inr hy)))) hT (keys_beginT h.keys)⟩⟩
      · by_cases hk3 : kd = 3
        · subst hk3
          refine (wstep_does wb b pb cap ls l3 pcs 3 mp i y0 y1 y2 y3 w (fun W w' => Two b p q w' cl (stepT cl p.ts.length th i) ∧ Kept (p.m :: q.tb :: p.ts) W w') (by omega) e1 e2 e3 (fun W hW => does_step b p q cl mp i y0 y1 y2 y3 W th (h.two.keptNil hW) h.keys)).mono ?_
          rintro e w' ⟨rfl, W, hW, hT, hK⟩
          exact ⟨rfl, ⟨_, _, L, by omega, (h.keptNil hW).after hK (by simp only [List.mem_cons]; intro y hy; rcases hy with hy | hy | hy; exact .inl hy; exact .inr (.inr (.inr (.inl hy))); exact .inr (.inr (.inr (.inr hy)))) hT (keys_stepT h.keys)⟩⟩
        · obtain rfl : kd = 5 := by omega
          refine (wstep_does wb b pb cap ls l3 pcs 5 mp i y0 y1 y2 y3 w (fun W w' => Two b p q w' true th ∧ Kept [p.m, p.c, q.r] W w') (by omega) e1 e2 e3 (fun W hW => does_close b p q cl mp i y0 y1 y2 y3 W th (h.two.keptNil hW))).mono ?_
          rintro e w' ⟨rfl, W, hW, hT, hK⟩
          exact ⟨rfl, ⟨_, _, L, by omega, (h.keptNil hW).after hK (by simp only [List.mem_cons]; intro y hy; rcases hy with hy | hy | hy | hy; exact .inl hy; exact .inr (.inl hy); exact .inr (.inr (.inl hy)); cases hy) hT h.keys⟩⟩
end Go.Proofs.YtfgfpggjcfhccaaGreat
