import Derived.Test.YtmnkphenobfbfaaGreatXg
import Derived.Test.YtmnkphenobfbfaaGreatXt
namespace Go.Proofs.YtmnkphenobfbfaaGreat
open Go.RowKit
/-- A pair: the program's map and the document's, both as the machine m. -/
structure Pair (b : Nat) (p : PM) (en : Nat → Nat) (r tb : Nat) (sl : Value) (B : Nat) (m : M) (w : World) : Prop where
  b : w.heap[b]? = some (.cells #[.pointer (some ⟨p.m, 0, none⟩), .pointer (some ⟨r, 0, none⟩)] 47 (0, 0))
  g : GAt p en 0 m w
  q : RefAt r tb sl B m w
  inv : m.Inv
  base : B ≤ w.heap.size
/-- Of what blocks a program's map is. -/
theorem GAt.fpm_has {p : PM} {en : Nat → Nat} {l : Int} {m : M} {w : World} (h : GAt p en l m w) {x : Nat} (hx : x ∈ fpm p en m) :
    (∃ cs, w.heap[x]? = some (.cells cs 78 (0, 0))) ∨ (∃ c, w.heap[x]? = some (.chan 0 #[] c 0 0 false)) ∨ (∃ cs, w.heap[x]? = some (.cells cs 111 (0, 0))) ∨ (∃ cs, w.heap[x]? = some (.cells cs 116 (0, 0))) ∨ (∃ cs, w.heap[x]? = some (.cells cs 141 (0, 0))) := by
  simp only [fpm, fp, List.mem_cons, List.mem_append, List.mem_map, List.mem_range] at hx
  rcases hx with rfl | rfl | rfl | hx | ⟨j, hj, rfl⟩
  · exact .inl ⟨_, h.mp⟩
  · exact .inr (.inl ⟨_, h.c⟩)
  · exact .inr (.inr (.inl ⟨_, h.s⟩))
  · obtain ⟨i, hi⟩ := List.mem_iff_getElem?.1 hx
    obtain ⟨_, _, c⟩ := h.ts i x hi
    exact .inr (.inr (.inr (.inl ⟨_, c⟩)))
  · exact .inr (.inr (.inr (.inr ⟨_, h.es j hj⟩)))
theorem GAt.fpm_lt {p : PM} {en : Nat → Nat} {l : Int} {m : M} {w : World} (h : GAt p en l m w) : ∀ x, x ∈ fpm p en m → x < w.heap.size := by
  intro x hx
  rcases h.fpm_has hx with ⟨_, e⟩ | ⟨_, e⟩ | ⟨_, e⟩ | ⟨_, e⟩ | ⟨_, e⟩ <;> exact lt_of_block e
theorem GAt.notFpm {p : PM} {en : Nat → Nat} {l : Int} {m : M} {w : World} (h : GAt p en l m w) {b : Nat} {cs : Array Value} {T : TypeId} (hb : w.heap[b]? = some (.cells cs T (0, 0))) (h1 : T ≠ 78) (h2 : T ≠ 111) (h3 : T ≠ 116) (h4 : T ≠ 141) : b ∉ fpm p en m := by
  intro hx
  rcases h.fpm_has hx with ⟨_, e⟩ | ⟨_, e⟩ | ⟨_, e⟩ | ⟨_, e⟩ | ⟨_, e⟩
  · rw [hb] at e; simp only [Option.some.injEq, Obj.cells.injEq] at e; exact h1 e.2.1
  · rw [hb] at e; simp at e
  · rw [hb] at e; simp only [Option.some.injEq, Obj.cells.injEq] at e; exact h2 e.2.1
  · rw [hb] at e; simp only [Option.some.injEq, Obj.cells.injEq] at e; exact h3 e.2.1
  · rw [hb] at e; simp only [Option.some.injEq, Obj.cells.injEq] at e; exact h4 e.2.1
/-- The document's map: the blocks that a call may write. -/
def fr (r tb : Nat) (sl : Value) : List Nat := r :: tb :: sl.ownBlock.toList
theorem RefAt.fr_has {r tb : Nat} {sl : Value} {B : Nat} {m : M} {w : World} (h : RefAt r tb sl B m w) {x : Nat} (hx : x ∈ fr r tb sl) :
    (∃ cs, w.heap[x]? = some (.cells cs 59 (0, 0))) ∨ (∃ cs, w.heap[x]? = some (.cells cs 90 (0, 0))) ∨ (∃ cs, w.heap[x]? = some (.cells cs 88 (0, 0))) := by
  simp only [fr, List.mem_cons] at hx
  rcases hx with rfl | rfl | hx
  · obtain ⟨cs, a, _⟩ := h.own; exact .inl ⟨cs, a⟩
  · obtain ⟨cs, a, _⟩ := h.ths; exact .inr (.inl ⟨cs, a⟩)
  · rcases h.row.2 with ⟨rfl, _⟩ | ⟨g, cap, cur, rfl, _, e3, _⟩
    · simp [Value.ownBlock] at hx
    · simp only [Value.ownBlock, Option.toList, List.mem_singleton] at hx
      subst hx
      exact .inr (.inr ⟨cur, e3⟩)
theorem RefAt.fr_lt {r tb : Nat} {sl : Value} {B : Nat} {m : M} {w : World} (h : RefAt r tb sl B m w) : ∀ x, x ∈ fr r tb sl → x < w.heap.size := by
  intro x hx
  rcases h.fr_has hx with ⟨_, e⟩ | ⟨_, e⟩ | ⟨_, e⟩ <;> exact lt_of_block e
theorem RefAt.notFr {r tb : Nat} {sl : Value} {B : Nat} {m : M} {w : World} (h : RefAt r tb sl B m w) {b : Nat} {o : Obj} (hb : w.heap[b]? = some o) (h1 : ∀ cs, o ≠ .cells cs 59 (0, 0)) (h2 : ∀ cs, o ≠ .cells cs 90 (0, 0)) (h3 : ∀ cs, o ≠ .cells cs 88 (0, 0)) : b ∉ fr r tb sl := by
  intro hx
  rcases h.fr_has hx with ⟨cs, e⟩ | ⟨cs, e⟩ | ⟨cs, e⟩
  · exact h1 cs (Option.some.inj (hb.symm.trans e))
  · exact h2 cs (Option.some.inj (hb.symm.trans e))
  · exact h3 cs (Option.some.inj (hb.symm.trans e))
theorem RefAt.progKept {p : PM} {en : Nat → Nat} {l : Int} {m m' : M} {r tb : Nat} {sl : Value} {B : Nat} {w w' : World} (h : RefAt r tb sl B m w) (hg : GAt p en l m' w) (k : Kept (fpm p en m') w w') : RefAt r tb sl B m w' := by
  have hn : ∀ x, x ∈ fr r tb sl → x ∉ fpm p en m' := by
    intro x hx
    rcases h.fr_has hx with ⟨_, e⟩ | ⟨_, e⟩ | ⟨_, e⟩
    · exact hg.notFpm e (by decide) (by decide) (by decide) (by decide)
    · exact hg.notFpm e (by decide) (by decide) (by decide) (by decide)
    · exact hg.notFpm e (by decide) (by decide) (by decide) (by decide)
  exact h.kept k (hn r (by simp [fr])) (hn tb (by simp [fr])) (fun g hg' => hn g (by simp [fr, hg']))
theorem GAt.refKept {p : PM} {en : Nat → Nat} {l : Int} {m m' : M} {r tb : Nat} {sl : Value} {B : Nat} {w w' : World} (h : GAt p en l m w) (hr : RefAt r tb sl B m' w) (k : Kept (fr r tb sl) w w') : GAt p en l m w' := by
  obtain ⟨cs, g1, g2⟩ := h.tb
  refine h.kept k (hr.notFr h.mp (by simp) (by simp) (by simp)) (hr.notFr h.c (by simp) (by simp) (by simp)) (hr.notFr h.s (by simp) (by simp) (by simp)) (hr.notFr g1 (by simp) (by simp) (by simp)) (fun i t ht => ?_) (fun j hj => hr.notFr (h.es j hj) (by simp) (by simp) (by simp))
  obtain ⟨_, _, c⟩ := h.ts i t ht
  exact hr.notFr c (by simp) (by simp) (by simp)
/-- A step of both. -/
theorem pair_step {b : Nat} {p : PM} {en : Nat → Nat} {r tb : Nat} {sl : Value} {B : Nat} {m : M} {w : World} (h : Pair b p en r tb sl B m w) (hnc : m.nc < 1000000) (x0 i y0 y1 y2 y3 : Int) :
    Calls Tryz.prog 9 #[.pointer (some ⟨b, 0, none⟩), .agg #[.int .i64 3, .int .i64 x0, .int .i64 i, .int .i64 y0, .int .i64 y1, .int .i64 y2, .int .i64 y3]] w fun e w' =>
      e = .returned (.bool true) ∧ (∃ en' sl', Pair b p en' r tb sl' B (m.step i).o.m w' ∧ (∀ j, j < m.nc → en' j = en j) ∧ (∀ j, m.nc ≤ j → j < (m.step i).o.m.nc → w.heap.size ≤ en' j) ∧ (∀ g, sl'.ownBlock = some g → sl.ownBlock = some g ∨ w.heap.size ≤ g)) ∧ Kept (fpm p en m ++ fr r tb sl) w w' := by
  have hbF := h.g.notFpm h.b (by decide) (by decide) (by decide) (by decide)
  have hbG := h.q.notFr h.b (by simp) (by simp) (by simp)
  have run1 := fun W (hW : Kept [] w W) => g_mstep (h.g.keptNil hW) h.inv i
  have run2 := fun W (hq : RefAt r tb sl B m W) (hs : w.heap.size ≤ W.heap.size) => r_step hq h.inv hnc (Nat.le_trans h.base hs) i
  have hI' := inv_step h.inv i
  generalize m.step i = a at *
  refine Calls.mono (does_step_gen b p.m r x0 i y0 y1 y2 y3 a.o.d a.o.f a.o.v a.err (fpm p en m) (fr r tb sl)
    (fun W => (∃ en', GAt p en' 0 a.o.m W ∧ (∀ j, j < m.nc → en' j = en j) ∧ (∀ j, m.nc ≤ j → j < a.o.m.nc → w.heap.size ≤ en' j)) ∧ RefAt r tb sl B m W ∧ w.heap.size ≤ W.heap.size)
    (fun W => (∃ en', GAt p en' 0 a.o.m W ∧ (∀ j, j < m.nc → en' j = en j) ∧ (∀ j, m.nc ≤ j → j < a.o.m.nc → w.heap.size ≤ en' j)) ∧ (∃ sl', RefAt r tb sl' B a.o.m W ∧ ∀ g, sl'.ownBlock = some g → sl.ownBlock = some g ∨ w.heap.size ≤ g))
    w h.b hbF hbG h.g.fpm_lt h.q.fr_lt ⟨?_, ?_⟩ ⟨?_, ?_⟩ ?_ ?_) ?_
  · rintro W W' ⟨⟨en', g1, g2, g3⟩, g4, g5⟩ k
    exact ⟨⟨en', g1.keptNil k, g2, g3⟩, g4.keptNil k, Nat.le_trans g5 k.size⟩
  · rintro W b' cs o v ⟨⟨en', g1, g2, g3⟩, g4, g5⟩ hb
    exact ⟨⟨en', g1.set hb (by decide) (by decide) (by decide) (by decide) (by decide) o v, g2, g3⟩, g4.resSet hb o v, by simpa [World.setCell] using g5⟩
  · rintro W W' ⟨⟨en', g1, g2, g3⟩, sl', g4, g5⟩ k
    exact ⟨⟨en', g1.keptNil k, g2, g3⟩, sl', g4.keptNil k, g5⟩
  · rintro W b' cs o v ⟨⟨en', g1, g2, g3⟩, sl', g4, g5⟩ hb
    exact ⟨⟨en', g1.set hb (by decide) (by decide) (by decide) (by decide) (by decide) o v, g2, g3⟩, sl', g4.resSet hb o v, g5⟩
  · intro W hW
    refine (run1 W hW).mono ?_
    rintro e w' ⟨rfl, en', g1, g2, g3, k⟩
    exact ⟨rfl, ⟨⟨en', g1, g2, fun j a b => Nat.le_trans hW.size (g3 j a b)⟩, (h.q.keptNil hW).progKept (h.g.keptNil hW) k, Nat.le_trans hW.size k.size⟩, k⟩
  · rintro W ⟨⟨en', g1, g2, g3⟩, g4, g5⟩ _
    refine (run2 W g4 g5).mono ?_
    rintro e w' ⟨rfl, ⟨sl', q1, q2⟩, k⟩
    exact ⟨rfl, ⟨⟨en', g1.refKept g4 k, g2, g3⟩, sl', q1, fun g hg => (q2 g hg).imp id fun hh => Nat.le_trans g5 hh⟩, k⟩
  · rintro e w' ⟨rfl, ⟨⟨en', g1, g2, g3⟩, sl', q1, q2⟩, k⟩
    refine ⟨rfl, ⟨en', sl', ⟨k.at h.b ?_, g1, q1, hI', Nat.le_trans h.base k.size⟩, g2, g3, q2⟩, k⟩
    simp only [List.mem_append, not_or]
    exact ⟨hbF, hbG⟩
end Go.Proofs.YtmnkphenobfbfaaGreat
namespace Go.Proofs.YtmnkphenobfbfaaGreat
open Go.RowKit
/-- Begin of both. -/
theorem pair_begin {b : Nat} {p : PM} {en : Nat → Nat} {r tb : Nat} {sl : Value} {B : Nat} {m : M} {w : World} (h : Pair b p en r tb sl B m w) (x0 i kind key v o : Int) :
    Calls Tryz.prog 9 #[.pointer (some ⟨b, 0, none⟩), .agg #[.int .i64 2, .int .i64 x0, .int .i64 i, .int .i64 kind, .int .i64 key, .int .i64 v, .int .i64 o]] w fun e w' =>
      e = .returned (.bool true) ∧ Pair b p en r tb sl B (m.begin i kind key v o).2 w' ∧ Kept (fpm p en m ++ fr r tb sl) w w' := by
  have hbF := h.g.notFpm h.b (by decide) (by decide) (by decide) (by decide)
  have hbG := h.q.notFr h.b (by simp) (by simp) (by simp)
  have run1 := fun W (hW : Kept [] w W) => g_mbegin (h.g.keptNil hW) h.inv i kind key v o
  have run2 := fun W (hq : RefAt r tb sl B m W) => r_begin hq h.inv i kind key v o
  have hI' := inv_begin h.inv i kind key v o
  generalize m.begin i kind key v o = a at *
  refine Calls.mono (does_begin_gen b p.m r x0 i kind key v o a.1 (fpm p en m) (fr r tb sl)
    (fun W => GAt p en 0 a.2 W ∧ RefAt r tb sl B m W) (fun W => GAt p en 0 a.2 W ∧ RefAt r tb sl B a.2 W)
    w h.b hbF hbG h.g.fpm_lt h.q.fr_lt ?_ ?_ ⟨?_, ?_⟩) ?_
  · intro W hW
    refine (run1 W hW).mono ?_
    rintro e w' ⟨rfl, g1, k⟩
    exact ⟨rfl, ⟨g1, (h.q.keptNil hW).progKept (h.g.keptNil hW) k⟩, k⟩
  · rintro W ⟨g1, g4⟩ _
    refine (run2 W g4).mono ?_
    rintro e w' ⟨rfl, q1, k⟩
    have k' : Kept (fr r tb sl) W w' := k.mono (by simp [fr])
    exact ⟨rfl, ⟨g1.refKept g4 k', q1⟩, k'⟩
  · rintro W W' ⟨g1, g4⟩ k
    exact ⟨g1.keptNil k, g4.keptNil k⟩
  · rintro W b' cs o v ⟨g1, g4⟩ hb
    exact ⟨g1.set hb (by decide) (by decide) (by decide) (by decide) (by decide) o v, g4.resSet hb o v⟩
  · rintro e w' ⟨rfl, ⟨g1, q1⟩, k⟩
    refine ⟨rfl, ⟨k.at h.b ?_, g1, q1, hI', Nat.le_trans h.base k.size⟩, k⟩
    simp only [List.mem_append, not_or]
    exact ⟨hbF, hbG⟩
/-- Close of both. -/
theorem pair_close {b : Nat} {p : PM} {en : Nat → Nat} {r tb : Nat} {sl : Value} {B : Nat} {m : M} {w : World} (h : Pair b p en r tb sl B m w) (x0 i y0 y1 y2 y3 : Int) :
    Calls Tryz.prog 9 #[.pointer (some ⟨b, 0, none⟩), .agg #[.int .i64 5, .int .i64 x0, .int .i64 i, .int .i64 y0, .int .i64 y1, .int .i64 y2, .int .i64 y3]] w fun e w' =>
      e = .returned (.bool true) ∧ Pair b p en r tb sl B { m with cl := true } w' ∧ Kept (fpm p en m ++ fr r tb sl) w w' := by
  have hbF := h.g.notFpm h.b (by decide) (by decide) (by decide) (by decide)
  have hbG := h.q.notFr h.b (by simp) (by simp) (by simp)
  refine Calls.mono (does_close_gen b p.m r x0 i y0 y1 y2 y3 (fpm p en m) (fun W => GAt p en 0 { m with cl := true } W ∧ RefAt r tb sl B m W) (fun W => GAt p en 0 { m with cl := true } W ∧ RefAt r tb sl B { m with cl := true } W) w h.b hbF ?_ ?_ ?_) ?_
  · intro W hW
    refine (g_close (h.g.keptNil hW)).mono ?_
    rintro e w' ⟨rfl, g1, k⟩
    have k' : Kept (fpm p en m) W w' := k.mono (by intro x hx; simp only [List.mem_cons, List.not_mem_nil, or_false] at hx; rcases hx with rfl | rfl <;> simp [fpm])
    exact ⟨rfl, ⟨g1, (h.q.keptNil hW).progKept (h.g.keptNil hW) k'⟩, k'⟩
  · rintro W ⟨_, g4⟩
    obtain ⟨-, hfr, -, -, -, -, -, -, -, c21, -⟩ := g4.mapCell
    exact ⟨_, c21, hfr 21⟩
  · rintro W ⟨g1, g4⟩
    obtain ⟨cs, hr, _⟩ := g4.own
    exact ⟨g1.set hr (by decide) (by decide) (by decide) (by decide) (by decide) _ _, g4.setCl true⟩
  · rintro e w' ⟨rfl, ⟨g1, q1⟩, k⟩
    refine ⟨rfl, ⟨k.at h.b ?_, g1, q1, inv_close h.inv, Nat.le_trans h.base k.size⟩, k.mono ?_⟩
    · simp only [List.mem_cons, not_or]
      exact ⟨fun e => hbG (by rw [e]; simp [fr]), hbF⟩
    · intro x hx
      rcases List.mem_cons.1 hx with rfl | hx
      · exact List.mem_append_right _ (by simp [fr])
      · exact List.mem_append_left _ hx
end Go.Proofs.YtmnkphenobfbfaaGreat
namespace Go.Proofs.YtmnkphenobfbfaaGreat
open Go.RowKit
/-- A table's entries. -/
def tri (f : Nat → Int) (X : Nat → Int × Int) : Nat → List (Int × Int × Int)
  | 0 => []
  | k + 1 => tri f X k ++ (if 0 ≤ f k then [((k : Int), (X k).1, (X k).2)] else [])
def flat : List (Int × Int × Int) → List Value
  | [] => []
  | t :: l => .int .i64 t.1 :: .int .i64 t.2.1 :: .int .i64 t.2.2 :: flat l
theorem flat_append (a b : List (Int × Int × Int)) : flat (a ++ b) = flat a ++ flat b := by
  induction a with
  | nil => rfl
  | cons t l ih => simp only [List.cons_append, flat, ih]
theorem flat_at : ∀ (l : List (Int × Int × Int)) (i : Nat) (t : Int × Int × Int), l[i]? = some t →
    (flat l)[i * 3]? = some (.int .i64 t.1) ∧ (flat l)[i * 3 + 1]? = some (.int .i64 t.2.1) ∧ (flat l)[i * 3 + 2]? = some (.int .i64 t.2.2)
  | [], i, t, h => by simp at h
  | x :: l, 0, t, h => by
    simp only [List.getElem?_cons_zero, Option.some.injEq] at h
    subst h
    exact ⟨rfl, rfl, rfl⟩
  | x :: l, i + 1, t, h => by
    have := flat_at l i t (by simpa using h)
    rw [show (i + 1) * 3 = i * 3 + 3 by omega]
    simpa [flat] using this
theorem tri_len (f : Nat → Int) (X : Nat → Int × Int) (k : Nat) : (tri f X k).length = cnt f k := by
  induction k with
  | zero => rfl
  | succ k ih =>
    simp only [tri, cnt, List.length_append, ih]
    split <;> simp
theorem rowI_flat (f : Nat → Int) (X : Nat → Int × Int) (k : Nat) : rowI f X k = flat (tri f X k) := by
  induction k with
  | zero => rfl
  | succ k ih =>
    simp only [rowI, tri, flat_append, ih]
    split <;> rfl
theorem rowP_rowI (en : Nat → Nat) (f : Nat → Int) (X : Nat → Int × Int) (k : Nat) : rowP (fun k => ptrE en (f k)) X k = rowI f X k := by
  induction k with
  | zero => rfl
  | succ k ih => simp only [rowP, rowI, ptrE_isSome, decide_eq_true_eq, ih]
def M.ent (f : Nat → Int) (X : Nat → Int × Int) (i : Nat) : Int × Int × Int := (tri f X 8).getD i (0, 0, 0)
theorem rowAt_list {f : Nat → Int} {X : Nat → Int × Int} {w : World} {b : Nat} (h : w.heap[b]? = some (.cells (rowI f X 8).toArray 84 (0, 0))) : RowAt (some ⟨b, 0, none⟩) (cnt f 8) (M.ent f X) w := by
  intro i hi
  have hl : i < (tri f X 8).length := by rw [tri_len]; exact hi
  have he : (tri f X 8)[i]? = some (M.ent f X i) := by
    unfold M.ent
    rw [List.getD_eq_getElem?_getD, List.getElem?_eq_getElem hl]
    rfl
  have := flat_at _ _ _ he
  rw [← rowI_flat] at this
  refine ⟨b, rfl, ?_, ?_, ?_⟩
  · rw [cell_of h]; simpa using this.1
  · rw [cell_of h]; simpa using this.2.1
  · rw [cell_of h]; simpa using this.2.2
theorem rowAt_own {f : Nat → Int} {X : Nat → Int × Int} {w : World} {base : Nat} {a : Option Addr} {n c : Nat} (h : w.ownsRow base 84 3 (.slice a n c) (cnt f 8) (rowI f X 8)) : n = cnt f 8 ∧ RowAt a (cnt f 8) (M.ent f X) w ∧ cnt f 8 ≤ c := by
  rcases h.2 with ⟨e, h0⟩ | ⟨g, cap, cur, e1, e2, e3, e4, e5, e6, e7⟩
  · simp only [Value.slice.injEq] at e
    obtain ⟨rfl, rfl, rfl⟩ := e
    exact ⟨h0.symm, fun i hi => absurd hi (by omega), by omega⟩
  · simp only [Value.slice.injEq] at e1
    obtain ⟨rfl, rfl, rfl⟩ := e1
    refine ⟨rfl, fun i hi => ?_, e4⟩
    have hl : i < (tri f X 8).length := by rw [tri_len]; exact hi
    have he : (tri f X 8)[i]? = some (M.ent f X i) := by
      unfold M.ent
      rw [List.getD_eq_getElem?_getD, List.getElem?_eq_getElem hl]
      rfl
    have := flat_at _ _ _ he
    rw [← rowI_flat, ← e7] at this
    refine ⟨g, rfl, ?_, ?_, ?_⟩
    · rw [cell_of e3, ← Array.getElem?_toList, ← this.1, List.getElem?_take, if_pos (by omega)]
    · rw [cell_of e3, ← Array.getElem?_toList, ← this.2.1, List.getElem?_take, if_pos (by omega)]
    · rw [cell_of e3, ← Array.getElem?_toList, ← this.2.2, List.getElem?_take, if_pos (by omega)]
theorem RefAt.set27 {r tb : Nat} {sl : Value} {B : Nat} {m : M} {w : World} {g : Nat} {cs : Array Value} (h : RefAt r tb sl B m w) (hg : w.heap[g]? = some (.cells cs 27 (0, 0))) (o : Nat) (v : Value) : RefAt r tb sl B m (w.setCell ⟨g, o, none⟩ v) := by
  have hn := h.notFr hg (by simp) (by simp) (by simp)
  refine h.kept (F := [g]) ((Kept.refl [g] w).setCell (.inl (by simp)) v) ?_ ?_ ?_
  · intro hx; simp only [List.mem_singleton] at hx; exact hn (by rw [← hx]; simp [fr])
  · intro hx; simp only [List.mem_singleton] at hx; exact hn (by rw [← hx]; simp [fr])
  · intro x hx hy; simp only [List.mem_singleton] at hy; subst hy; exact hn (by simp [fr, hx])
/-- Look at both. -/
theorem pair_seen {b : Nat} {p : PM} {en : Nat → Nat} {r tb : Nat} {sl : Value} {B : Nat} {m : M} {w : World} (h : Pair b p en r tb sl B m w) :
    Calls Tryz.prog 8 #[.pointer (some ⟨b, 0, none⟩)] w fun e w' => ∃ b1 b2, e = .returned (.tuple #[.agg #[.slice (some ⟨b1, 0, none⟩) (cnt m.read 8) (cnt m.read 8), .bool m.am, .bool m.hd, .slice (some ⟨b2, 0, none⟩) (cnt m.dirty 8) (cnt m.dirty 8), .int .i64 m.mis, .int .i64 m.hol], .bool true]) ∧
      w'.heap[b1]? = some (.cells (rowI m.read m.rdX 8).toArray 84 (0, 0)) ∧ w'.heap[b2]? = some (.cells (rowI m.dirty m.dtX 8).toArray 84 (0, 0)) ∧ w.heap.size ≤ b1 ∧ w.heap.size ≤ b2 ∧ b1 ≠ b2 ∧ Pair b p en r tb sl B m w' ∧ Kept (fpm p en m) w w' := by
  have hbF := h.g.notFpm h.b (by decide) (by decide) (by decide) (by decide)
  refine Calls.mono (seen_gen b p.m r (cnt m.read 8) (cnt m.dirty 8) (cnt_le _ _) (cnt_le _ _) (M.ent m.read m.rdX) (M.ent m.dirty m.dtX) m.am m.hd m.mis m.hol (fpm p en m) (fun W => GAt p en 0 m W ∧ RefAt r tb sl B m W) (rowI m.read m.rdX 8).toArray (rowI m.dirty m.dtX 8).toArray w h.b hbF h.g.fpm_lt ⟨?_, ?_⟩ ?_ ?_) ?_
  · rintro W W' ⟨g1, g4⟩ k
    exact ⟨g1.keptNil k, g4.keptNil k⟩
  · rintro W b' cs o v ⟨g1, g4⟩ hb
    exact ⟨g1.set hb (by decide) (by decide) (by decide) (by decide) (by decide) o v, g4.set27 hb o v⟩
  · intro W hW
    refine (g_look (h.g.keptNil hW) h.inv).mono ?_
    rintro e w' ⟨b1, b2, rfl, l1, l2, z1, z2, z3, g1, k⟩
    have e1 : cntP (shOf en m).R 8 = cnt m.read 8 := cntP_eq en m.read 8
    have e2 : cntP (shOf en m).D 8 = cnt m.dirty 8 := cntP_eq en m.dirty 8
    have r1 : rowP (shOf en m).R m.rdX 8 = rowI m.read m.rdX 8 := rowP_rowI en m.read m.rdX 8
    have r2 : rowP (shOf en m).D m.dtX 8 = rowI m.dirty m.dtX 8 := rowP_rowI en m.dirty m.dtX 8
    have k' : Kept (fpm p en m) W w' := k.mono (by simp [fpm])
    unfold ListOut at l1 l2
    rw [r1] at l1
    rw [r2] at l2
    refine ⟨b1, b2, ?_, l1, l2, rowAt_list l1, rowAt_list l2, z1, z2, z3, ⟨g1, (h.q.keptNil hW).progKept (h.g.keptNil hW) k'⟩, k'⟩
    simp only [lst, e1, e2]
  · rintro W ⟨_, g4⟩
    refine (r_look g4 h.inv).mono ?_
    rintro e w' ⟨a1, n1, c1, a2, n2, c2, rfl, o1, o2, k⟩
    obtain ⟨rfl, q1, q2⟩ := rowAt_own o1
    obtain ⟨rfl, q3, q4⟩ := rowAt_own o2
    exact ⟨a1, c1, a2, c2, rfl, q1, q3, q2, q4, k⟩
  · rintro e w' ⟨b1, b2, rfl, l1, l2, z1, z2, z3, ⟨g1, g4⟩, k⟩
    exact ⟨b1, b2, rfl, l1, l2, z1, z2, z3, ⟨k.at h.b hbF, g1, g4, h.inv, Nat.le_trans h.base k.size⟩, k⟩
end Go.Proofs.YtmnkphenobfbfaaGreat
