import Derived.Test.YtmnkphenobfbfaaGreatGe
namespace Go.Proofs.YtmnkphenobfbfaaGreat
open Go.RowKit
def KeysOk (th : Nat → Option (Int × Int × Int)) : Prop := ∀ i k v o, th i = some (k, v, o) → 0 ≤ k ∧ k < 8
/-- What a Step answers (is it done; the error), and how the threads stand then. -/
def stepD (cl : Bool) (n : Nat) (th : Nat → Option (Int × Int × Int)) (i : Int) : Bool :=
  if cl = true then false else if i < 0 ∨ (n : Int) ≤ i then false else (th i.toNat).isSome
def stepE (cl : Bool) (n : Nat) (th : Nat → Option (Int × Int × Int)) (i : Int) : Int :=
  if cl = true then 5 else if i < 0 ∨ (n : Int) ≤ i then 1 else if (th i.toNat).isSome then 0 else 3
def stepT (cl : Bool) (n : Nat) (th : Nat → Option (Int × Int × Int)) (i : Int) : Nat → Option (Int × Int × Int) :=
  if stepD cl n th i = true then upd th i.toNat none else th
theorem pstep (p : PM) (i : Int) (cl : Bool) (w : World) (th : Nat → Option (Int × Int × Int)) (h : PAt p 0 w cl th) (hk : KeysOk th) :
    Calls Tryz.prog 18 #[.pointer (some ⟨p.m, 0, none⟩), .int .i64 i] w fun e w' => e = .returned (.tuple #[.agg #[.bool (stepD cl p.ts.length th i), .bool false, .int .i64 0], .int .i64 (stepE cl p.ts.length th i)]) ∧
      PAt p 0 w' cl (stepT cl p.ts.length th i) ∧ Kept (p.m :: p.ts) w w' := by
  cases cl with
  | true =>
    refine (step_closed p i w th h).mono ?_
    rintro e w' ⟨rfl, h', k'⟩
    exact ⟨by simp [stepD, stepE], by simpa [stepT, stepD] using h', k'.mono (by simp)⟩
  | false =>
    by_cases hi : i < 0 ∨ (p.ts.length : Int) ≤ i
    · refine (step_arg p i w th h hi).mono ?_
      rintro e w' ⟨rfl, h', k'⟩
      exact ⟨by simp [stepD, stepE, hi], by simpa [stepT, stepD, hi] using h', k'.mono (by simp)⟩
    · rcases ht : th i.toNat with _ | ⟨k, v, o⟩
      · refine (step_idle p i w th h (by omega) (by omega) ht).mono ?_
        rintro e w' ⟨rfl, h', k'⟩
        exact ⟨by simp [stepD, stepE, hi, ht], by simpa [stepT, stepD, hi, ht] using h', k'.mono (by simp)⟩
      · have hkk := hk _ _ _ _ ht
        refine (step_load p i w th h (by omega) (by omega) ht hkk.1 hkk.2).mono ?_
        rintro e w' ⟨rfl, h', k'⟩
        exact ⟨by simp [stepD, stepE, hi, ht], by simpa [stepT, stepD, hi, ht] using h', k'⟩
theorem rstep (q : RM) (i : Int) (cl : Bool) (w : World) (th : Nat → Option (Int × Int × Int)) (h : RAt q w cl th) (hk : KeysOk th) :
    Calls Tryz.prog 19 #[.pointer (some ⟨q.r, 0, none⟩), .int .i64 i] w fun e w' => e = .returned (.tuple #[.agg #[.bool (stepD cl q.n th i), .bool false, .int .i64 0], .int .i64 (stepE cl q.n th i)]) ∧
      RAt q w' cl (stepT cl q.n th i) ∧ Kept [q.tb] w w' := by
  cases cl with
  | true =>
    refine (rstep_closed q i w th h).mono ?_
    rintro e w' ⟨rfl, k'⟩
    exact ⟨by simp [stepD, stepE], by simpa [stepT, stepD] using h.keptNil k', k'.mono (by simp)⟩
  | false =>
    by_cases hi : i < 0 ∨ (q.n : Int) ≤ i
    · refine (rstep_arg q i w th h hi).mono ?_
      rintro e w' ⟨rfl, k'⟩
      exact ⟨by simp [stepD, stepE, hi], by simpa [stepT, stepD, hi] using h.keptNil k', k'.mono (by simp)⟩
    · rcases ht : th i.toNat with _ | ⟨k, v, o⟩
      · refine (rstep_idle q i w th h (by omega) (by omega) ht).mono ?_
        rintro e w' ⟨rfl, k'⟩
        exact ⟨by simp [stepD, stepE, hi, ht], by simpa [stepT, stepD, hi, ht] using h.keptNil k', k'.mono (by simp)⟩
      · have hkk := hk _ _ _ _ ht
        refine (rstep_load q i w th h (by omega) (by omega) ht hkk.1 hkk.2).mono ?_
        rintro e w' ⟨rfl, h', k'⟩
        exact ⟨by simp [stepD, stepE, hi, ht], by simpa [stepT, stepD, hi, ht] using h', k'⟩
theorem keys_stepT {cl : Bool} {n : Nat} {th : Nat → Option (Int × Int × Int)} {i : Int} (h : KeysOk th) : KeysOk (stepT cl n th i) := by
  intro j k v o hj
  unfold stepT at hj
  split at hj
  · unfold upd at hj
    split at hj
    · cases hj
    · exact h j k v o hj
  · exact h j k v o hj
end Go.Proofs.YtmnkphenobfbfaaGreat
namespace Go.Proofs.YtmnkphenobfbfaaGreat
open Go.RowKit
/-- Between the program's step and the document's. -/
structure Mid (b : Nat) (p : PM) (q : RM) (w : World) (cl : Bool) (th th' : Nat → Option (Int × Int × Int)) : Prop where
  n : q.n = p.ts.length
  b : w.heap[b]? = some (.cells #[.pointer (some ⟨p.m, 0, none⟩), .pointer (some ⟨q.r, 0, none⟩)] 47 (0, 0))
  p : PAt p 0 w cl th'
  q : RAt q w cl th
theorem PAt.offTs {p : PM} {w : World} {cl : Bool} {th : Nat → Option (Int × Int × Int)} (h : PAt p 0 w cl th) {x : Nat} {o : Obj} (hx : w.heap[x]? = some o) (h1 : ∀ cs, o ≠ .cells cs 78 (0, 0)) (h2 : ∀ cs, o ≠ .cells cs 116 (0, 0)) : x ∉ p.m :: p.ts := by
  intro hm
  rcases List.mem_cons.1 hm with rfl | hm
  · exact h1 _ (Option.some.inj (hx.symm.trans h.m))
  · obtain ⟨i, hi⟩ := List.getElem?_of_mem hm
    exact h2 _ (Option.some.inj (hx.symm.trans (h.ts i x hi)))
theorem Two.mid {b : Nat} {p : PM} {q : RM} {w w' : World} {cl : Bool} {th th' : Nat → Option (Int × Int × Int)} (h : Two b p q w cl th) (hp : PAt p 0 w' cl th') (k : Kept (p.m :: p.ts) w w') : Mid b p q w' cl th th' := by
  obtain ⟨cs, g1, g2⟩ := h.q.tb
  exact ⟨h.n, k.at h.b (PAt.offTs h.p h.b (by simp) (by simp)), hp, h.q.kept k (PAt.offTs h.p h.q.r (by simp) (by simp)) (PAt.offTs h.p g1 (by simp) (by simp))⟩
theorem Mid.keptNil {b : Nat} {p : PM} {q : RM} {w w' : World} {cl : Bool} {th th' : Nat → Option (Int × Int × Int)} (h : Mid b p q w cl th th') (k : Kept [] w w') : Mid b p q w' cl th th' :=
  ⟨h.n, k.at h.b (by simp), h.p.keptNil k, h.q.keptNil k⟩
theorem Mid.two {b : Nat} {p : PM} {q : RM} {w w' : World} {cl : Bool} {th th' : Nat → Option (Int × Int × Int)} (h : Mid b p q w cl th th') (hq : RAt q w' cl th') (k : Kept [q.tb] w w') : Two b p q w' cl th' := by
  obtain ⟨cs, g1, g2⟩ := h.q.tb
  obtain ⟨cs', g1', _⟩ := h.p.tb
  refine ⟨h.n, k.at h.b (by simpa using ne_of_blocks h.b g1 (by simp)), h.p.kept k ⟨by simpa using ne_of_blocks h.p.m g1 (by simp), by simpa using ne_of_blocks h.p.c g1 (by simp), by simpa using ne_of_blocks h.p.s g1 (by simp), by simpa using ne_of_blocks g1' g1 (by simp), fun i t hi => by simpa using ne_of_blocks (h.p.ts i t hi) g1 (by simp)⟩, hq⟩
theorem Mid.set {b : Nat} {p : PM} {q : RM} {w : World} {cl : Bool} {th th' : Nat → Option (Int × Int × Int)} (h : Mid b p q w cl th th') {r : Nat} {cs : Array Value} {z : Nat × Nat} (hr : w.heap[r]? = some (.cells cs 52 z)) (o : Nat) (v : Value) : Mid b p q (w.setCell ⟨r, o, none⟩ v) cl th th' := by
  obtain ⟨cs', g1, g2⟩ := h.q.tb
  refine ⟨h.n, block_set_ne h.b (ne_of_blocks h.b hr (by simp)) _ _, h.p.set hr (by decide) (by decide) (by decide) (by decide) o v, ⟨h.q.len, block_set_ne h.q.r (ne_of_blocks h.q.r hr (by simp)) _ _, cs', block_set_ne g1 (ne_of_blocks g1 hr (by simp)) _ _, g2⟩⟩
theorem Mid.set3 {b : Nat} {p : PM} {q : RM} {W : World} {cl : Bool} {th th' : Nat → Option (Int × Int × Int)} (h : Mid b p q W cl th th') {r : Nat} {cs : Array Value} {z : Nat × Nat} (hr : W.heap[r]? = some (.cells cs 52 z)) (v0 v1 v2 : Value) : Mid b p q (((W.setCell ⟨r, 0, none⟩ v0).setCell ⟨r, 1, none⟩ v1).setCell ⟨r, 2, none⟩ v2) cl th th' :=
  ((h.set hr 0 v0).set (block_set_same hr 0 v0) 1 v1).set (block_set_same (block_set_same hr 0 v0) 1 v1) 2 v2
theorem Two.set3 {b : Nat} {p : PM} {q : RM} {W : World} {cl : Bool} {th : Nat → Option (Int × Int × Int)} (h : Two b p q W cl th) {r : Nat} {cs : Array Value} {z : Nat × Nat} (hr : W.heap[r]? = some (.cells cs 52 z)) (v0 v1 v2 : Value) : Two b p q (((W.setCell ⟨r, 0, none⟩ v0).setCell ⟨r, 1, none⟩ v1).setCell ⟨r, 2, none⟩ v2) cl th := by
  have hM : Mid b p q W cl th th := ⟨h.n, h.b, h.p, h.q⟩
  have := hM.set3 hr v0 v1 v2
  exact ⟨this.n, this.b, this.p, this.q⟩
theorem cell_set3 {r b : Nat} (hne : r ≠ b) (W : World) (o : Nat) (v0 v1 v2 : Value) : (((W.setCell ⟨r, 0, none⟩ v0).setCell ⟨r, 1, none⟩ v1).setCell ⟨r, 2, none⟩ v2).cell? ⟨b, o, none⟩ = W.cell? ⟨b, o, none⟩ := by
  have h : ∀ k, (⟨r, k, none⟩ : Addr) ≠ ⟨b, o, none⟩ := fun k e => hne (by injection e)
  rw [World.cell?_setCell_other _ _ _ _ (h _), World.cell?_setCell_other _ _ _ _ (h _), World.cell?_setCell_other _ _ _ _ (h _)]
theorem block_set3 {W : World} {r b : Nat} {x : Obj} (h : W.heap[b]? = some x) (hne : b ≠ r) (v0 v1 v2 : Value) : (((W.setCell ⟨r, 0, none⟩ v0).setCell ⟨r, 1, none⟩ v1).setCell ⟨r, 2, none⟩ v2).heap[b]? = some x :=
  block_set_ne (block_set_ne (block_set_ne h hne _ _) hne _ _) hne _ _
theorem block_same3 {W : World} {r : Nat} {x0 x1 x2 : Value} {T : TypeId} {z : Nat × Nat} (h : W.heap[r]? = some (.cells #[x0, x1, x2] T z)) (v0 v1 v2 : Value) : (((W.setCell ⟨r, 0, none⟩ v0).setCell ⟨r, 1, none⟩ v1).setCell ⟨r, 2, none⟩ v2).heap[r]? = some (.cells #[v0, v1, v2] T z) :=
  block_set_same (block_set_same (block_set_same h 0 v0) 1 v1) 2 v2
theorem Kept.set3 {F : List Nat} {a W : World} (h : Kept F a W) {r : Nat} (hp : r ∈ F ∨ a.heap.size ≤ r) (v0 v1 v2 : Value) : Kept F a (((W.setCell ⟨r, 0, none⟩ v0).setCell ⟨r, 1, none⟩ v1).setCell ⟨r, 2, none⟩ v2) :=
  ((h.setCell (p := ⟨r, 0, none⟩) hp v0).setCell (p := ⟨r, 1, none⟩) hp v1).setCell (p := ⟨r, 2, none⟩) hp v2
theorem Kept.far {F : List Nat} {w W : World} (k : Kept F w W) {b o : Nat} (hb : b < w.heap.size) (hf : b ∉ F) : W.cell? ⟨b, o, none⟩ = w.cell? ⟨b, o, none⟩ ∧ W.frozen? ⟨b, o, none⟩ = w.frozen? ⟨b, o, none⟩ :=
  ⟨World.cell?_of_block (w := w) (k.block b hb hf), World.frozen?_of_block (w := w) (k.block b hb hf)⟩
set_option maxRecDepth 100000 in
set_option maxHeartbeats 4000000 in
theorem does_step (b : Nat) (p : PM) (q : RM) (cl : Bool) (x0 i y0 y1 y2 y3 : Int) (w : World) (th : Nat → Option (Int × Int × Int)) (h : Two b p q w cl th) (hk : KeysOk th) :
    Calls Tryz.prog 9 #[.pointer (some ⟨b, 0, none⟩), .agg #[.int .i64 3, .int .i64 x0, .int .i64 i, .int .i64 y0, .int .i64 y1, .int .i64 y2, .int .i64 y3]] w fun e w' =>
      e = .returned (.bool true) ∧ Two b p q w' cl (stepT cl p.ts.length th i) ∧ Kept (p.m :: q.tb :: p.ts) w w' := by
  have hs := lt_of_block h.b
  have h0 := h.keptNil ((Kept.refl [] w).alloc (.cells #[Value.int .i64 3, .int .i64 x0, .int .i64 i, .int .i64 y0, .int .i64 y1, .int .i64 y2, .int .i64 y3] 34))
  have ho : (w.alloc (.cells #[Value.int .i64 3, .int .i64 x0, .int .i64 i, .int .i64 y0, .int .i64 y1, .int .i64 y2, .int .i64 y3] 34)).heap[w.heap.size]? = some (.cells #[Value.int .i64 3, .int .i64 x0, .int .i64 i, .int .i64 y0, .int .i64 y1, .int .i64 y2, .int .i64 y3] 34 (0, 0)) := block_alloc_new _ _
  have hK : Kept (p.m :: q.tb :: p.ts) w (w.alloc (.cells #[Value.int .i64 3, .int .i64 x0, .int .i64 i, .int .i64 y0, .int .i64 y1, .int .i64 y2, .int .i64 y3] 34)) := (Kept.refl _ w).alloc _
  go_enter Tryz.func9, Tryz.ntmps9
  go_wp2_with fail
  generalize (w.alloc (.cells #[Value.int .i64 3, .int .i64 x0, .int .i64 i, .int .i64 y0, .int .i64 y1, .int .i64 y2, .int .i64 y3] 34)) = W0 at *
  have d0 : W0.cell? ⟨b, 0, none⟩ = some (.pointer (some ⟨p.m, 0, none⟩)) := cell_of h0.b 0
  have d2 : W0.cell? ⟨w.heap.size, 2, none⟩ = some (.int .i64 i) := cell_of ho 2
  have zb0 := lt_of_block h0.b
  have zo0 := lt_of_block ho
  have L : ∀ W, Kept [] W0 W → Calls Tryz.prog 18 #[.pointer (some ⟨p.m, 0, none⟩), .int .i64 i] W fun e w' => e = .returned (.tuple #[.agg #[.bool (stepD cl p.ts.length th i), .bool false, .int .i64 0], .int .i64 (stepE cl p.ts.length th i)]) ∧
      (Mid b p q w' cl th (stepT cl p.ts.length th i) ∧ Kept (p.m :: p.ts) W w' ∧ Kept (p.m :: p.ts) W0 w' ∧ w'.heap[w.heap.size]? = some (.cells #[Value.int .i64 3, .int .i64 x0, .int .i64 i, .int .i64 y0, .int .i64 y1, .int .i64 y2, .int .i64 y3] 34 (0, 0))) ∧ w'.cell? ⟨b, 0, none⟩ = some (.pointer (some ⟨p.m, 0, none⟩)) ∧ w'.cell? ⟨w.heap.size, 2, none⟩ = some (.int .i64 i) ∧ b < w'.heap.size ∧ w.heap.size < w'.heap.size ∧
      (∀ b' o, W0.heap.size ≤ b' → b' < W.heap.size → w'.cell? ⟨b', o, none⟩ = W.cell? ⟨b', o, none⟩) ∧ (∀ b' o, W0.heap.size ≤ b' → b' < W.heap.size → w'.frozen? ⟨b', o, none⟩ = W.frozen? ⟨b', o, none⟩) := by
    intro W hW
    have hT := h0.keptNil hW
    refine (pstep p i cl W th hT.p hk).mono ?_
    rintro e w' ⟨rfl, hp, k'⟩
    have hM := hT.mid hp k'
    have hOb := k'.at (hW.at ho (by simp)) (hT.p.offTs (hW.at ho (by simp)) (by simp) (by simp))
    have far : ∀ b', W0.heap.size ≤ b' → b' ∉ p.m :: p.ts := by
      intro b' hb' hm
      rcases List.mem_cons.1 hm with rfl | hm
      · have := lt_of_block h0.p.m; omega
      · obtain ⟨j, hj⟩ := List.getElem?_of_mem hm
        have := lt_of_block (h0.p.ts j b' hj); omega
    exact ⟨rfl, ⟨hM, k', (hW.mono (by simp)).trans k', hOb⟩, cell_of hM.b 0, cell_of hOb 2, lt_of_block hM.b, lt_of_block hOb, fun b' o h1 h2 => (k'.far h2 (far b' h1)).1, fun b' o h1 h2 => (k'.far h2 (far b' h1)).2⟩
  have HL : Hid _ := L
  have n1 : W0.heap.size ≠ b := by omega
  have n2 : W0.heap.size ≠ w.heap.size := by omega
  clear L
  go_cut [6, 7] (fun x y w' => ∃ rb : Nat, x = .pointer (some ⟨rb, 0, none⟩) ∧ y = .int .i64 (stepE cl p.ts.length th i) ∧ w'.heap[rb]? = some (.cells #[.bool (stepD cl p.ts.length th i), .bool false, .int .i64 0] 52 (0, 0)) ∧
    w'.heap[w.heap.size]? = some (.cells #[Value.int .i64 3, .int .i64 x0, .int .i64 i, .int .i64 y0, .int .i64 y1, .int .i64 y2, .int .i64 y3] 34 (0, 0)) ∧ Mid b p q w' cl th (stepT cl p.ts.length th i) ∧ Kept (p.m :: p.ts) W0 w' ∧ W0.heap.size ≤ rb)
  case first =>
    go_region_held3 (fun w' => w'.cell? ⟨b, 0, none⟩ = some (.pointer (some ⟨p.m, 0, none⟩)) ∧ w'.cell? ⟨w.heap.size, 2, none⟩ = some (.int .i64 i))
      (first | (refine ⟨?_, ?_⟩ <;> first | (rw [World.cell?_alloc_lt _ _ _ (by assumption)]; assumption) | (rw [cell_drew, World.cell?_alloc_lt _ _ _ (by assumption)]; assumption) | (rw [cell_set3 n1]; exact g0) | (rw [cell_set3 n2]; exact g2)) | exact ⟨g0, g2⟩ | exact ⟨d0, d2⟩)
      (first | (go_at_call 18; refine (HL.out _ (by first | exact (Kept.refl _ _).drew | exact ((Kept.refl _ _).drew).alloc _)).mono ?_; rintro e w' ⟨rfl, hm, g0, g2, zb, zo, gc, gf⟩))
    · go_wp2_with fail
      go_meet
      obtain ⟨hm1, hm2, hm3, hm4⟩ := hm
      exact ⟨_, rfl, rfl, block_alloc_new _ _, block_alloc_lt hm4 _, hm1.keptNil ((Kept.refl [] w').alloc _), hm3.alloc _, hm3.size⟩
    · go_wp2_with fail
      go_meet
      obtain ⟨hm1, hm2, hm3, hm4⟩ := hm
      have hrb : w'.heap[W0.heap.size]? = some (.cells #[.bool false, .bool false, .int .i64 0] 52 (0, 0)) :=
        hm2.at (block_alloc_new W0 _) (PAt.offTs ((h0.p).keptNil ((Kept.refl [] W0).alloc (.cells #[.bool false, .bool false, .int .i64 0] 52))) (block_alloc_new W0 _) (by simp) (by simp))
      exact ⟨_, rfl, rfl, block_same3 hrb _ _ _, block_set3 hm4 (by omega) _ _ _, hm1.set3 hrb _ _ _, hm3.set3 (.inr (Nat.le_refl _)) _ _ _, Nat.le_refl _⟩
  case rest =>
    obtain ⟨rb, rfl, rfl, hrb, hob, hM, hK1, hzr⟩ := hcut
    clear HL d0 d2 n1 n2 zb0 zo0
    have d0 : wc.cell? ⟨b, 1, none⟩ = some (.pointer (some ⟨q.r, 0, none⟩)) := cell_of hM.b 1
    have d2 : wc.cell? ⟨w.heap.size, 2, none⟩ = some (.int .i64 i) := cell_of hob 2
    have zb0 := lt_of_block hM.b
    have zo0 := lt_of_block hob
    have zr0 := lt_of_block hrb
    obtain ⟨tcs, htb, _⟩ := hM.q.tb
    have L : ∀ W, Kept [] wc W → Calls Tryz.prog 19 #[.pointer (some ⟨q.r, 0, none⟩), .int .i64 i] W fun e w' => e = .returned (.tuple #[.agg #[.bool (stepD cl p.ts.length th i), .bool false, .int .i64 0], .int .i64 (stepE cl p.ts.length th i)]) ∧
        (Two b p q w' cl (stepT cl p.ts.length th i) ∧ Kept [q.tb] W w' ∧ Kept [q.tb] wc w' ∧ w'.heap[w.heap.size]? = some (.cells #[Value.int .i64 3, .int .i64 x0, .int .i64 i, .int .i64 y0, .int .i64 y1, .int .i64 y2, .int .i64 y3] 34 (0, 0)) ∧ w'.heap[rb]? = some (.cells #[.bool (stepD cl p.ts.length th i), .bool false, .int .i64 0] 52 (0, 0))) ∧ w'.cell? ⟨b, 1, none⟩ = some (.pointer (some ⟨q.r, 0, none⟩)) ∧ w'.cell? ⟨w.heap.size, 2, none⟩ = some (.int .i64 i) ∧ b < w'.heap.size ∧ w.heap.size < w'.heap.size ∧
        (∀ b' o, wc.heap.size ≤ b' → b' < W.heap.size → w'.cell? ⟨b', o, none⟩ = W.cell? ⟨b', o, none⟩) ∧ (∀ b' o, wc.heap.size ≤ b' → b' < W.heap.size → w'.frozen? ⟨b', o, none⟩ = W.frozen? ⟨b', o, none⟩) := by
      intro W hW
      have hT := hM.keptNil hW
      refine (rstep q i cl W th hT.q hk).mono ?_
      rintro e w' ⟨rfl, hq, k'⟩
      rw [hT.n] at hq ⊢
      have h2 := hT.two hq k'
      have hOb := k'.at (hW.at hob (by simp)) (by simpa using ne_of_blocks hob htb (by simp))
      have hRb := k'.at (hW.at hrb (by simp)) (by simpa using ne_of_blocks hrb htb (by simp))
      have far : ∀ b', wc.heap.size ≤ b' → b' ∉ [q.tb] := by
        intro b' hb' hm
        have := lt_of_block htb
        simp at hm
        omega
      exact ⟨rfl, ⟨h2, k', (hW.mono (by simp)).trans k', hOb, hRb⟩, cell_of h2.b 1, cell_of hOb 2, lt_of_block h2.b, lt_of_block hOb, fun b' o h1 h2 => (k'.far h2 (far b' h1)).1, fun b' o h1 h2 => (k'.far h2 (far b' h1)).2⟩
    have HL : Hid _ := L
    have n1 : wc.heap.size ≠ b := by omega
    have n2 : wc.heap.size ≠ w.heap.size := by omega
    clear L
    go_wp2_with fail
    go_cut [8, 9] (fun x y w' => ∃ rc : Nat, x = .pointer (some ⟨rc, 0, none⟩) ∧ y = .int .i64 (stepE cl p.ts.length th i) ∧ w'.heap[rc]? = some (.cells #[.bool (stepD cl p.ts.length th i), .bool false, .int .i64 0] 52 (0, 0)) ∧ w'.heap[rb]? = some (.cells #[.bool (stepD cl p.ts.length th i), .bool false, .int .i64 0] 52 (0, 0)) ∧
      Two b p q w' cl (stepT cl p.ts.length th i) ∧ Kept [q.tb] wc w')
    case first =>
      go_region_held3 (fun w' => w'.cell? ⟨b, 1, none⟩ = some (.pointer (some ⟨q.r, 0, none⟩)) ∧ w'.cell? ⟨w.heap.size, 2, none⟩ = some (.int .i64 i))
        (first | (refine ⟨?_, ?_⟩ <;> first | (rw [World.cell?_alloc_lt _ _ _ (by assumption)]; assumption) | (rw [cell_drew, World.cell?_alloc_lt _ _ _ (by assumption)]; assumption) | (rw [cell_set3 n1]; exact g0) | (rw [cell_set3 n2]; exact g2)) | exact ⟨g0, g2⟩ | exact ⟨d0, d2⟩)
        (first | (go_at_call 19; refine (HL.out _ (by first | exact (Kept.refl _ _).drew | exact ((Kept.refl _ _).drew).alloc _)).mono ?_; rintro e w' ⟨rfl, hm, g0, g2, zb, zo, gc, gf⟩))
      · go_wp2_with fail
        go_meet
        obtain ⟨hm1, hm2, hm3, hm4, hm5⟩ := hm
        exact ⟨_, rfl, rfl, block_alloc_new _ _, block_alloc_lt hm5 _, hm1.keptNil ((Kept.refl [] w').alloc _), hm3.alloc _⟩
      · go_wp2_with fail
        go_meet
        obtain ⟨hm1, hm2, hm3, hm4, hm5⟩ := hm
        have hrc : w'.heap[wc.heap.size]? = some (.cells #[.bool false, .bool false, .int .i64 0] 52 (0, 0)) :=
          hm2.at (block_alloc_new wc _) (by have := lt_of_block htb; simp; omega)
        exact ⟨_, rfl, rfl, block_same3 hrc _ _ _, block_set3 hm5 (by omega) _ _ _, hm1.set3 hrc _ _ _, hm3.set3 (.inr (Nat.le_refl _)) _ _ _⟩
    case rest =>
      obtain ⟨rc, rfl, rfl, hrc, hrb2, hT, hK2⟩ := hcut
      clear HL d0 d2 n1 n2 zb0 zo0
      have cb : ∀ o, wc.cell? ⟨rb, o, none⟩ = #[Value.bool (stepD cl p.ts.length th i), .bool false, .int .i64 0][o]? := cell_of hrb2
      have cc : ∀ o, wc.cell? ⟨rc, o, none⟩ = #[Value.bool (stepD cl p.ts.length th i), .bool false, .int .i64 0][o]? := cell_of hrc
      have HH : Hid (Two b p q wc cl (stepT cl p.ts.length th i) ∧ Kept (p.m :: q.tb :: p.ts) w wc) :=
        ⟨hT, (hK.trans (hK1.mono (by simp only [List.mem_cons]; intro x hx; rcases hx with hx | hx; exact .inl hx; exact .inr (.inr hx)))).trans (hK2.mono (by simp))⟩
      clear hT hK hK1 hK2 hrb hrc hrb2 hob hM h0 ho h
      generalize stepE cl p.ts.length th i = E at *
      generalize stepD cl p.ts.length th i = D at *
      go_wp2
      go_ret
      exact ⟨rfl, HH.out⟩
end Go.Proofs.YtmnkphenobfbfaaGreat
