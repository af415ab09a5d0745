import Derived.Test.YtmnkphenobfbfaaXr
import Derived.Test.YtmnkphenobfbfaaXv
import Derived.Test.YtmnkphenobfbfaaXg
namespace Go.Proofs.Ytmnkphenobfbfaa
open Go.RowKit
/-! The program's map, for its callers. -/
theorem GAt.fpm_has {p : PM} {en : Nat → Nat} {l : Int} {m : M} {w : World} (h : GAt p en l m w) {x : Nat} (hx : x ∈ fpm p en m) :
    (∃ cs, w.heap[x]? = some (.cells cs 74 (0, 0))) ∨ (∃ c, w.heap[x]? = some (.chan 0 #[] c 0 0 false)) ∨ (∃ cs, w.heap[x]? = some (.cells cs 97 (0, 0))) ∨ (∃ cs, w.heap[x]? = some (.cells cs 103 (0, 0))) ∨ (∃ cs, w.heap[x]? = some (.cells cs 124 (0, 0))) := by
  simp only [fpm, fp, List.mem_cons, List.mem_append, List.mem_map, List.mem_range] at hx
  rcases hx with rfl | rfl | rfl | hx | ⟨j, hj, rfl⟩
  · exact .inl ⟨_, h.mp⟩
  · exact .inr (.inl ⟨_, h.c⟩)
  · exact .inr (.inr (.inl ⟨_, h.s⟩))
  · obtain ⟨i, hi⟩ := List.mem_iff_getElem?.1 hx
    obtain ⟨_, _, c⟩ := h.ts i x hi
    exact .inr (.inr (.inr (.inl ⟨_, c⟩)))
  · exact .inr (.inr (.inr (.inr ⟨_, h.es j hj⟩)))
theorem GAt.notFpm {p : PM} {en : Nat → Nat} {l : Int} {m : M} {w : World} (h : GAt p en l m w) {b : Nat} {cs : Array Value} {T : TypeId} (hb : w.heap[b]? = some (.cells cs T (0, 0))) (h1 : T ≠ 74) (h2 : T ≠ 97) (h3 : T ≠ 103) (h4 : T ≠ 124) : b ∉ fpm p en m := by
  intro hx
  rcases h.fpm_has hx with ⟨_, e⟩ | ⟨_, e⟩ | ⟨_, e⟩ | ⟨_, e⟩ | ⟨_, e⟩
  · rw [hb] at e; simp only [Option.some.injEq, Obj.cells.injEq] at e; exact h1 e.2.1
  · rw [hb] at e; simp at e
  · rw [hb] at e; simp only [Option.some.injEq, Obj.cells.injEq] at e; exact h2 e.2.1
  · rw [hb] at e; simp only [Option.some.injEq, Obj.cells.injEq] at e; exact h3 e.2.1
  · rw [hb] at e; simp only [Option.some.injEq, Obj.cells.injEq] at e; exact h4 e.2.1
/-- Blocks that are none of a map's stay as they are. -/
structure Off (w w' : World) : Prop where
  at_ : ∀ (x : Nat) (cs : Array Value) (T : TypeId), w.heap[x]? = some (.cells cs T (0, 0)) → T ≠ 74 → T ≠ 97 → T ≠ 103 → T ≠ 124 → w'.heap[x]? = some (.cells cs T (0, 0))
  size : w.heap.size ≤ w'.heap.size
theorem Off.refl (w : World) : Off w w := ⟨fun _ _ _ h _ _ _ _ => h, Nat.le_refl _⟩
theorem Off.trans {a b c : World} (h : Off a b) (k : Off b c) : Off a c := ⟨fun x cs T hx h1 h2 h3 h4 => k.at_ x cs T (h.at_ x cs T hx h1 h2 h3 h4) h1 h2 h3 h4, Nat.le_trans h.size k.size⟩
theorem Off.ofKept {a b : World} (k : Kept [] a b) : Off a b := ⟨fun _ _ _ hx _ _ _ _ => k.at hx (by simp), k.size⟩
/-- The map at b is as the machine m; all of it was made behind w0. -/
structure KAt (b : Nat) (m : M) (w0 w : World) : Prop where
  at_ : ∃ p en, p.m = b ∧ GAt p en 0 m w ∧ ∀ x, x ∈ fpm p en m → w0.heap.size ≤ x
  inv : m.Inv
  kept : Kept [] w0 w
theorem KAt.keptNil {b : Nat} {m : M} {w0 w w' : World} (h : KAt b m w0 w) (k : Kept [] w w') : KAt b m w0 w' := by
  obtain ⟨p, en, hp, hg, hf⟩ := h.at_
  exact ⟨⟨p, en, hp, hg.keptNil k, hf⟩, h.inv, h.kept.trans k⟩
theorem KAt.set {b : Nat} {m : M} {w0 w : World} (h : KAt b m w0 w) {x : Nat} {cs : Array Value} {T : TypeId} {z : Nat × Nat} (hx : w.heap[x]? = some (.cells cs T z)) (hz : w0.heap.size ≤ x) (h1 : T ≠ 74) (h2 : T ≠ 97) (h3 : T ≠ 75) (h4 : T ≠ 103) (h5 : T ≠ 124) (o : Nat) (v : Value) : KAt b m w0 (w.setCell ⟨x, o, none⟩ v) := by
  obtain ⟨p, en, hp, hg, hf⟩ := h.at_
  exact ⟨⟨p, en, hp, hg.set hx h1 h2 h3 h4 h5 o v, hf⟩, h.inv, h.kept.setCell (.inr hz) _⟩
/-- A cell of a block that the caller has made. -/
theorem KAt.base {b : Nat} {m : M} {w0 w1 w : World} (h : KAt b m w1 w) (k : Kept [] w0 w1) : KAt b m w0 w := by
  obtain ⟨p, en, hp, hg, hf⟩ := h.at_
  exact ⟨⟨p, en, hp, hg, fun x hx => Nat.le_trans k.size (hf x hx)⟩, h.inv, k.trans h.kept⟩
theorem k_new (n : Nat) (w : World) (h1 : 1 ≤ n) (h6 : n ≤ 6) : Calls Try.prog 8 #[.int .i64 n] w fun e w' => ∃ b, e = .returned (.tuple #[.pointer (some ⟨b, 0, none⟩), .int .i64 0]) ∧ KAt b (M.new n) w w' := by
  refine (new_gen n w h1 h6).mono ?_
  rintro e w' ⟨p, rfl, hl, hp, z1, z2, z3, z4, k⟩
  refine ⟨p.m, rfl, ⟨⟨p, fun _ => 0, rfl, GAt.ofNew hl hp _, fun x hx => ?_⟩, inv_new n, k⟩⟩
  simp only [fpm, fp, M.new, List.range_zero, List.map_nil, List.append_nil, List.mem_cons] at hx
  rcases hx with rfl | rfl | rfl | hx
  · exact z1
  · exact z2
  · exact z3
  · exact z4 x hx
theorem k_begin {b : Nat} {m : M} {w0 w : World} (h : KAt b m w0 w) (i kind key val old : Int) :
    Calls Try.prog 9 #[.pointer (some ⟨b, 0, none⟩), .int .i64 i, .agg #[.int .i64 kind, .int .i64 key, .int .i64 val, .int .i64 old]] w fun e w' => e = .returned (.int .i64 (m.begin i kind key val old).1) ∧ KAt b (m.begin i kind key val old).2 w0 w' ∧ Off w w' := by
  obtain ⟨p, en, rfl, hg, hf⟩ := h.at_
  have hI' := inv_begin h.inv i kind key val old
  have hn := begin_nc m i kind key val old
  refine (g_mbegin hg h.inv i kind key val old).mono ?_
  rintro e w' ⟨rfl, hg', k⟩
  refine ⟨rfl, ⟨⟨p, en, rfl, hg', fun x hx => hf x ?_⟩, hI', h.kept.drop k fun x hx hlt => ?_⟩, ⟨fun x cs T hx h1 h2 h3 h4 => k.at hx (hg.notFpm hx h1 h2 h3 h4), k.size⟩⟩
  · simpa only [fpm, fp, hn] using hx
  · have := hf x hx
    omega
theorem k_step {b : Nat} {m : M} {w0 w : World} (h : KAt b m w0 w) (i : Int) :
    Calls Try.prog 15 #[.pointer (some ⟨b, 0, none⟩), .int .i64 i] w fun e w' => e = .returned (ans (m.step i).o.d (m.step i).o.f (m.step i).o.v (m.step i).err) ∧ KAt b (m.step i).o.m w0 w' ∧ Off w w' := by
  obtain ⟨p, en, rfl, hg, hf⟩ := h.at_
  have hI' := inv_step h.inv i
  have hw := h.kept.size
  refine (g_mstep hg h.inv i).mono ?_
  rintro e w' ⟨rfl, en', hg', q1, q2, k⟩
  refine ⟨rfl, ⟨⟨p, en', rfl, hg', fun x hx => ?_⟩, hI', h.kept.drop k fun x hx hlt => ?_⟩, ⟨fun x cs T hx h1 h2 h3 h4 => k.at hx (hg.notFpm hx h1 h2 h3 h4), k.size⟩⟩
  · simp only [fpm, fp, List.mem_cons, List.mem_append, List.mem_map, List.mem_range] at hx
    rcases hx with rfl | rfl | rfl | hx | ⟨j, hj, rfl⟩
    · exact hf _ (by simp [fpm])
    · exact hf _ (by simp [fpm])
    · exact hf _ (by simp [fpm, fp])
    · exact hf _ (by simp [fpm, fp, hx])
    · by_cases hjn : j < m.nc
      · rw [q1 j hjn]
        exact hf _ (List.mem_cons_of_mem _ (List.mem_cons_of_mem _ (mem_fp_e p en hjn)))
      · have := q2 j (by omega) hj; omega
  · have := hf x hx
    omega
/-- What a Look tells: a table's entries. -/
def tri (f : Nat → Int) (X : Nat → Int × Int) : Nat → List (Int × Int × Int)
  | 0 => []
  | k + 1 => tri f X k ++ (if 0 ≤ f k then [((k : Int), (X k).1, (X k).2)] else [])
def flat : List (Int × Int × Int) → List Value
  | [] => []
  | t :: l => .int .i64 t.1 :: .int .i64 t.2.1 :: .int .i64 t.2.2 :: flat l
theorem flat_append (a b : List (Int × Int × Int)) : flat (a ++ b) = flat a ++ flat b := by
  induction a with
  | nil => rfl
  | cons t l ih => simp only [List.cons_append, flat, ih]
theorem tri_len (f : Nat → Int) (X : Nat → Int × Int) (k : Nat) : (tri f X k).length = cnt f k := by
  induction k with
  | zero => rfl
  | succ k ih =>
    simp only [tri, cnt, List.length_append, ih]
    split <;> simp
theorem rowP_flat (en : Nat → Nat) (f : Nat → Int) (X : Nat → Int × Int) (k : Nat) : rowP (fun k => ptrE en (f k)) X k = flat (tri f X k) := by
  induction k with
  | zero => rfl
  | succ k ih =>
    simp only [rowP, tri, flat_append, ptrE_isSome, decide_eq_true_eq, ih]
    split <;> rfl
def M.rdL (m : M) : List (Int × Int × Int) := tri m.read m.rdX 8
def M.dtL (m : M) : List (Int × Int × Int) := tri m.dirty m.dtX 8
def view (m : M) (b1 b2 : Nat) : Value := .agg #[.slice (some ⟨b1, 0, none⟩) (cnt m.read 8) (cnt m.read 8), .bool m.am, .bool m.hd, .slice (some ⟨b2, 0, none⟩) (cnt m.dirty 8) (cnt m.dirty 8), .int .i64 m.mis, .int .i64 m.hol]
theorem k_look {b : Nat} {m : M} {w0 w : World} (h : KAt b m w0 w) :
    Calls Try.prog 11 #[.pointer (some ⟨b, 0, none⟩)] w fun e w' => ∃ b1 b2, e = .returned (view m b1 b2) ∧ w'.heap[b1]? = some (.cells (flat m.rdL).toArray 38 (0, 0)) ∧ w'.heap[b2]? = some (.cells (flat m.dtL).toArray 38 (0, 0)) ∧ KAt b m w0 w' ∧ Off w w' := by
  obtain ⟨p, en, rfl, hg, hf⟩ := h.at_
  refine (g_look hg h.inv).mono ?_
  rintro e w' ⟨b1, b2, rfl, l1, l2, z1, z2, z3, g1, k⟩
  have k' : Kept (fpm p en m) w w' := k.mono (by simp [fpm])
  have e1 : cntP (shOf en m).R 8 = cnt m.read 8 := cntP_eq en m.read 8
  have e2 : cntP (shOf en m).D 8 = cnt m.dirty 8 := cntP_eq en m.dirty 8
  have r1 : rowP (shOf en m).R m.rdX 8 = flat m.rdL := rowP_flat en m.read m.rdX 8
  have r2 : rowP (shOf en m).D m.dtX 8 = flat m.dtL := rowP_flat en m.dirty m.dtX 8
  unfold ListOut at l1 l2
  rw [r1] at l1
  rw [r2] at l2
  refine ⟨b1, b2, ?_, l1, l2, ⟨⟨p, en, rfl, g1, hf⟩, h.inv, h.kept.drop k' fun x hx hlt => ?_⟩, ⟨fun x cs T hx h1 h2 h3 h4 => k'.at hx (hg.notFpm hx h1 h2 h3 h4), k'.size⟩⟩
  · simp only [lst, view, e1, e2]
  · have := hf x hx
    omega
end Go.Proofs.Ytmnkphenobfbfaa
namespace Go.Proofs.Ytmnkphenobfbfaa
open Go.RowKit
theorem Off.set {w W : World} (h : Off w W) {g : Nat} (hg : w.heap.size ≤ g) (o : Nat) (v : Value) : Off w (W.setCell ⟨g, o, none⟩ v) :=
  ⟨fun x cs T hx h1 h2 h3 h4 => block_set_ne (h.at_ x cs T hx h1 h2 h3 h4) (by have := lt_of_block hx; omega) _ _, by simpa [World.setCell] using h.size⟩
theorem Off.alloc {w W : World} (h : Off w W) (o : Obj) : Off w (W.alloc o) := h.trans (Off.ofKept ((Kept.refl [] W).alloc o))
theorem KAt.res {b : Nat} {m : M} {w0 w : World} (h : KAt b m w0 w) {x : Nat} (hx : w.heap[x]? = some (.cells #[.bool false, .bool false, .int .i64 0] 30 (0, 0))) (hz : w0.heap.size ≤ x) (v0 v1 v2 : Value) : KAt b m w0 (((w.setCell ⟨x, 0, none⟩ v0).setCell ⟨x, 0 + 1, none⟩ v1).setCell ⟨x, 0 + 2, none⟩ v2) :=
  ((h.set hx hz (by decide) (by decide) (by decide) (by decide) (by decide) 0 v0).set (block_set_same hx 0 _) hz (by decide) (by decide) (by decide) (by decide) (by decide) 1 v1).set (block_set_same (block_set_same hx 0 _) 1 _) hz (by decide) (by decide) (by decide) (by decide) (by decide) 2 v2
theorem Off.res {w W : World} (h : Off w W) {g : Nat} (hg : w.heap.size ≤ g) (v0 v1 v2 : Value) : Off w (((W.setCell ⟨g, 0, none⟩ v0).setCell ⟨g, 0 + 1, none⟩ v1).setCell ⟨g, 0 + 2, none⟩ v2) := ((h.set hg 0 v0).set hg 1 v1).set hg 2 v2
/-- At most n steps of a thread: what the last one answers; is it done; the machine behind them. -/
def M.runs (m : M) (t : Int) : Nat → Bool × Bool × Int × Bool × M
  | 0 => (false, false, 0, false, m)
  | n + 1 => if (m.step t).err = 0 then (if (m.step t).o.d then ((m.step t).o.d, (m.step t).o.f, (m.step t).o.v, true, (m.step t).o.m) else M.runs (m.step t).o.m t n) else ((m.step t).o.d, (m.step t).o.f, (m.step t).o.v, false, (m.step t).o.m)
def ransOf (x : Bool × Bool × Int × Bool × M) : Value := .tuple #[.agg #[.bool x.1, .bool x.2.1, .int .i64 x.2.2.1], .bool x.2.2.2.1]
structure Ran (b : Nat) (x : Bool × Bool × Int × Bool × M) (w0 w : World) (e : Ending) (w' : World) : Prop where
  e : e = .returned (ransOf x)
  k : KAt b x.2.2.2.2 w0 w'
  off : Off w w'
set_option maxRecDepth 100000 in
set_option maxHeartbeats 1600000 in
theorem k_runs (b : Nat) (m0 : M) (t : Int) (w0 w : World) (h : KAt b m0 w0 w) : Calls Try.prog 14 #[.pointer (some ⟨b, 0, none⟩), .int .i64 t] w (Ran b (m0.runs t 30) w0 w) := by
  have h1 := h.keptNil ((Kept.refl [] w).alloc (.cells #[.bool false, .bool false, .int .i64 0] 30))
  have g1 := block_alloc_new w (.cells #[.bool false, .bool false, .int .i64 0] 30)
  have o1 : Off w (w.alloc (.cells #[.bool false, .bool false, .int .i64 0] 30)) := Off.ofKept ((Kept.refl [] w).alloc _)
  have hz := h.kept.size
  clear h
  go_enter Try.func14, Try.ntmps14
  go_wp2_with fail
  go_loopw [6] (fun x W => ∃ (k : Nat) (m : M), k ≤ 30 ∧ x = .int .i64 k ∧ KAt b m w0 W ∧ m.runs t (30 - k) = m0.runs t 30 ∧ Off w W ∧ W.heap[w.heap.size]? = some (.cells #[.bool false, .bool false, .int .i64 0] 30 (0, 0))) (fun x _ => 30 - (intOf x).toNat)
  case atStart => exact ⟨0, m0, by omega, rfl, h1, rfl, o1, g1⟩
  case round =>
    clear h1 g1 o1
    obtain ⟨k, m, hk, rfl, hK, hr, hO, hB⟩ := hrel
    have zB := lt_of_block hB
    by_cases hlt : k < 30
    · have hlt' : (k : Int) < 30 := by omega
      rw [show 30 - k = (30 - (k + 1)) + 1 by omega, M.runs] at hr
      have HK : Hid _ := And.intro hK hO
      have HB : Hid _ := hB
      have HR : Hid _ := hr
      clear hK hO hr hB
      go_wp2_with fail
      refine (k_step HK.out.1 t).mono ?_
      rintro e w2 ⟨rfl, hK2, hO2⟩
      simp only [ans]
      have hB2 := hO2.at_ _ _ _ HB.out (by decide) (by decide) (by decide) (by decide)
      have z2 := lt_of_block hB2
      have hc2 : ∀ o, w2.cell? ⟨w.heap.size, o, none⟩ = #[.bool false, .bool false, .int .i64 0][o]? := cell_of hB2
      have hf2 : ∀ o, w2.frozen? ⟨w.heap.size, o, none⟩ = false := frozen_of hB2
      have HK2 : Hid _ := And.intro hK2 (HK.out.2.trans hO2)
      have HB2 : Hid _ := hB2
      clear hK2 hO2 hB2
      generalize (m.step t).o.d = xd at *
      generalize (m.step t).o.f = xf at *
      generalize (m.step t).o.v = xv at *
      generalize (m.step t).o.m = xm at *
      have rB := block_alloc_lt HB2.out (.cells #[.bool xd, .bool xf, .int .i64 xv] 30)
      have K3 := HK2.out.1.keptNil ((Kept.refl [] w2).alloc (.cells #[.bool xd, .bool xf, .int .i64 xv] 30))
      have O3 := HK2.out.2.alloc (.cells #[.bool xd, .bool xf, .int .i64 xv] 30)
      by_cases he : (m.step t).err = 0
      · have hr2 := HR.out
        rw [if_pos he] at hr2
        rw [he]
        by_cases hd : xd = true
        · rw [if_pos hd] at hr2
          subst hd
          have HX : Hid _ := And.intro rB (And.intro K3 (And.intro O3 hr2))
          clear rB K3 O3 hr2 he
          go_wp2
          refine bodyPost_ret (v := ransOf (m0.runs t 30)) (by rw [← HX.out.2.2.2]; simp [results, Try.results14, go_sem, ransOf, cell_of (block_alloc_lt (resLaidP HB2.out true xf xv) (.cells #[.bool true, .bool xf, .int .i64 xv] 30))]) rfl ⟨rfl, ?_, (HK2.out.2.res (Nat.le_refl _) _ _ _).alloc _⟩
          rw [← HX.out.2.2.2]
          exact (HK2.out.1.res HB2.out hz _ _ _).keptNil ((Kept.refl [] _).alloc _)
        · rw [if_neg hd] at hr2
          have hd' : xd = false := by simpa using hd
          subst hd'
          have HX : Hid _ := And.intro rB (And.intro K3 (And.intro O3 hr2))
          clear rB K3 O3 hr2 he
          go_wp2
          go_roundw
          case rel => exact ⟨k + 1, xm, by omega, by go_num, HX.out.2.1, HX.out.2.2.2, HX.out.2.2.1, HX.out.1⟩
          case measure => simp [intOf]; omega
      · have hr2 := HR.out
        rw [if_neg he] at hr2
        have heb : ((m.step t).err == 0) = false := beq_eq_false_iff_ne.2 he
        generalize (m.step t).err = xe at *
        have HX : Hid _ := And.intro rB (And.intro K3 (And.intro O3 hr2))
        clear rB K3 O3 hr2
        go_wp2
        refine bodyPost_ret (v := ransOf (m0.runs t 30)) (by rw [← HX.out.2.2.2]; simp [results, Try.results14, go_sem, ransOf, cell_of (block_alloc_lt (resLaidP HB2.out xd xf xv) (.cells #[.bool xd, .bool xf, .int .i64 xv] 30))]) rfl ⟨rfl, ?_, (HK2.out.2.res (Nat.le_refl _) _ _ _).alloc _⟩
        rw [← HX.out.2.2.2]
        exact (HK2.out.1.res HB2.out hz _ _ _).keptNil ((Kept.refl [] _).alloc _)
    · have hlt' : ¬ (k : Int) < 30 := by omega
      obtain rfl : k = 30 := by omega
      have hr2 : m.runs t 0 = m0.runs t 30 := hr
      have hc2 : ∀ o, wr.cell? ⟨w.heap.size, o, none⟩ = #[.bool false, .bool false, .int .i64 0][o]? := cell_of hB
      have hf2 : ∀ o, wr.frozen? ⟨w.heap.size, o, none⟩ = false := frozen_of hB
      have HX : Hid _ := And.intro hB (And.intro hK (And.intro hO hr2))
      clear hr hr2 hB hK hO
      go_wp2
      refine bodyPost_ret (v := ransOf (m0.runs t 30)) (by rw [← HX.out.2.2.2]; simp [results, Try.results14, go_sem, ransOf, M.runs, cell_of (resLaidP HX.out.1 false false 0)]) rfl ⟨rfl, ?_, HX.out.2.2.1.res (Nat.le_refl _) _ _ _⟩
      rw [← HX.out.2.2.2]
      exact HX.out.2.1.res HX.out.1 hz _ _ _
end Go.Proofs.Ytmnkphenobfbfaa
namespace Go.Proofs.Ytmnkphenobfbfaa
open Go.RowKit
theorem u30 : Try.prog.underlying 30 = some (.struct (Try.prog.fieldsOf 30)) := by
  rw [Program.fieldsOf, Try.underlying30]
theorem s30 : Try.prog.stoodInHeld 30 = false := by kernel_rfl
theorem g30 : Try.prog.eqGuardType Try.prog.depth 30 = false := by kernel_rfl
theorem neq30 (a b : Bool) (c : Int) (a' b' : Bool) (c' : Int) (w : World) : (binOp .neq 30 (.agg #[.bool a, .bool b, .int .i64 c]) (.agg #[.bool a', .bool b', .int .i64 c'])).run Try.prog w = .ok (.bool (!(a == a' && b == b' && c == c'))) w := by
  rw [run_neq_struct, run_equalIn_struct w 9999 30 _ _ u30 s30, Program.fieldsOf, Try.underlying30]
  by_cases h1 : a = a' <;> by_cases h2 : b = b' <;> by_cases h3 : c = c' <;> simp [go_sem, h1, h2, h3]
theorem eql30 (a b : Bool) (c : Int) (a' b' : Bool) (c' : Int) (w : World) : (binOp .eql 30 (.agg #[.bool a, .bool b, .int .i64 c]) (.agg #[.bool a', .bool b', .int .i64 c'])).run Try.prog w = .ok (.bool (a == a' && b == b' && c == c')) w := by
  rw [run_eql_struct, run_equalIn_struct w 9999 30 _ _ u30 s30, Program.fieldsOf, Try.underlying30]
  by_cases h1 : a = a' <;> by_cases h2 : b = b' <;> by_cases h3 : c = c' <;> simp [go_sem, h1, h2, h3]
theorem u38 : Try.prog.underlying 38 = some (.struct (Try.prog.fieldsOf 38)) := by
  rw [Program.fieldsOf, Try.underlying38]
theorem s38 : Try.prog.stoodInHeld 38 = false := by kernel_rfl
theorem g38 : Try.prog.eqGuardType Try.prog.depth 38 = false := by kernel_rfl
theorem neq38 (a b c a' b' c' : Int) (w : World) : (binOp .neq 38 (.agg #[.int .i64 a, .int .i64 b, .int .i64 c]) (.agg #[.int .i64 a', .int .i64 b', .int .i64 c'])).run Try.prog w = .ok (.bool (!(a == a' && b == b' && c == c'))) w := by
  rw [run_neq_struct, run_equalIn_struct w 9999 38 _ _ u38 s38, Program.fieldsOf, Try.underlying38]
  by_cases h1 : a = a' <;> by_cases h2 : b = b' <;> by_cases h3 : c = c' <;> simp [go_sem, h1, h2, h3]
theorem eql38 (a b c a' b' c' : Int) (w : World) : (binOp .eql 38 (.agg #[.int .i64 a, .int .i64 b, .int .i64 c]) (.agg #[.int .i64 a', .int .i64 b', .int .i64 c'])).run Try.prog w = .ok (.bool (a == a' && b == b' && c == c')) w := by
  rw [run_eql_struct, run_equalIn_struct w 9999 38 _ _ u38 s38, Program.fieldsOf, Try.underlying38]
  by_cases h1 : a = a' <;> by_cases h2 : b = b' <;> by_cases h3 : c = c' <;> simp [go_sem, h1, h2, h3]
/-- The map that 'made' makes. -/
def M.made1 : M := ((M.new 3).begin 2 1 7 9 0).2
def M.made2 : M := (M.made1.runs 2 30).2.2.2.2
def M.made3 : M := (M.made2.begin 0 0 7 0 0).2
def M.made : M := (M.made3.runs 0 30).2.2.2.2
theorem made1_ok : ((M.new 3).begin 2 1 7 9 0).1 = 0 := by decide +kernel
theorem made2_d : (M.made1.runs 2 30).1 = true := by decide +kernel
theorem made2_f : (M.made1.runs 2 30).2.1 = true := by decide +kernel
theorem made2_v : (M.made1.runs 2 30).2.2.1 = 9 := by decide +kernel
theorem made2_o : (M.made1.runs 2 30).2.2.2.1 = true := by decide +kernel
theorem made3_ok : (M.made2.begin 0 0 7 0 0).1 = 0 := by decide +kernel
theorem made4_d : (M.made3.runs 0 30).1 = true := by decide +kernel
theorem made4_f : (M.made3.runs 0 30).2.1 = true := by decide +kernel
theorem made4_v : (M.made3.runs 0 30).2.2.1 = 9 := by decide +kernel
theorem made4_o : (M.made3.runs 0 30).2.2.2.1 = true := by decide +kernel
set_option maxRecDepth 100000 in
set_option maxHeartbeats 1600000 in
theorem k_made (w : World) : Calls Try.prog 16 #[] w fun e w' => ∃ b, e = .returned (.pointer (some ⟨b, 0, none⟩)) ∧ KAt b M.made w w' := by
  have hn30 := neq30
  have hg := g30
  go_enter Try.func16, Try.ntmps16
  go_wp2_with fail
  refine (k_new 3 w (by omega) (by omega)).mono ?_
  rintro e w1 ⟨b, rfl, h1⟩
  go_wp2_with fail
  refine (k_begin h1 2 1 7 9 0).mono ?_
  rintro e w2 ⟨rfl, h2, -⟩
  rw [made1_ok]
  go_wp2_with fail
  refine (k_runs b M.made1 2 w w2 h2).mono ?_
  rintro e w3 ⟨rfl, h3, -⟩
  simp only [ransOf, made2_d, made2_f, made2_v, made2_o]
  go_wp2_with fail
  have g4 := block_alloc_new w3 (.cells #[.bool true, .bool true, .int .i64 9] 30)
  refine (k_begin (h3.keptNil ((Kept.refl [] w3).alloc (.cells #[.bool true, .bool true, .int .i64 9] 30))) 0 0 7 0 0).mono ?_
  rintro e w4 ⟨rfl, h4, o4⟩
  have g5 := o4.at_ _ _ _ g4 (by decide) (by decide) (by decide) (by decide)
  rw [show (M.begin (M.made1.runs 2 30).2.2.2.2 0 0 7 0 0).1 = 0 from made3_ok]
  go_wp2_with fail
  refine (k_runs b M.made3 0 w w4 h4).mono ?_
  rintro e w5 ⟨rfl, h5, o5⟩
  have g6 := o5.at_ _ _ _ g5 (by decide) (by decide) (by decide) (by decide)
  have z3 := h3.kept.size
  have hc6 : ∀ o, w5.cell? ⟨w3.heap.size, o, none⟩ = #[Value.bool true, .bool true, .int .i64 9][o]? := cell_of g6
  have hf6 : ∀ o, w5.frozen? ⟨w3.heap.size, o, none⟩ = false := frozen_of g6
  have H5 : Hid _ := h5
  have G6 : Hid _ := g6
  clear h1 h2 h3 h4 h5 g4 g5 g6 o4 o5
  simp only [ransOf, made4_d, made4_f, made4_v, made4_o]
  go_wp2
  go_ret
  exact ⟨b, rfl, ((H5.out.set G6.out z3 (by decide) (by decide) (by decide) (by decide) (by decide) 0 _).set (block_set_same G6.out 0 _) z3 (by decide) (by decide) (by decide) (by decide) (by decide) 1 _).set (block_set_same (block_set_same G6.out 0 _) 1 _) z3 (by decide) (by decide) (by decide) (by decide) (by decide) 2 _⟩
end Go.Proofs.Ytmnkphenobfbfaa
namespace Go.Proofs.Ytmnkphenobfbfaa
open Go.RowKit
/-- Which of n things c speaks of. -/
def pk (c : Int) (n : Nat) : Int := (if c < 0 then -(c + 1) else c) % n
theorem pk_ok (c : Int) {n : Nat} (h0 : 0 < n) : 0 ≤ pk c n ∧ pk c n < n := by
  unfold pk
  have hx : 0 ≤ (if c < 0 then -(c + 1) else c) := by split <;> omega
  have _ := hx
  have h1 := Int.emod_lt_of_pos (if c < 0 then -(c + 1) else c) (b := (n : Int)) (by omega)
  have h2 := Int.emod_nonneg (if c < 0 then -(c + 1) else c) (b := (n : Int)) (by omega)
  omega
/-- A number of 64 bits. -/
def R64 (c : Int) : Prop := -9223372036854775808 ≤ c ∧ c ≤ 9223372036854775807
theorem k_pick (c : Int) (n : Nat) (h0 : 0 < n) (hn : n ≤ 1099511627776) (hc : R64 c) (w : World) : Calls Try.prog 12 #[.int .i64 c, .int .i64 n] w fun e w' => e = .returned (.int .i64 (pk c n)) ∧ w' = w := by
  have hn0 : ¬ (n : Int) = 0 := by omega
  have hnb : ((n : Int) == 0) = false := beq_eq_false_iff_ne.2 hn0
  obtain ⟨hc1, hc2⟩ := hc
  have hp := pk_ok c h0
  by_cases h : c < 0
  · have hx : pk c n = (-(c + 1)) % n := by unfold pk; rw [if_pos h]
    have hy : (-(c + 1)).tmod n = (-(c + 1)) % n := Int.tmod_eq_emod_of_nonneg (by omega)
    rw [hx]
    rw [hx] at hp
    go_enter Try.func12, Try.ntmps12
    go_wp2
    go_ret
    exact ⟨by first | rfl | (rw [hy]), rfl⟩
  · have hx : pk c n = c % n := by unfold pk; rw [if_neg h]
    have hy : c.tmod n = c % n := Int.tmod_eq_emod_of_nonneg (by omega)
    rw [hx]
    rw [hx] at hp
    go_enter Try.func12, Try.ntmps12
    go_wp2
    go_ret
    exact ⟨by first | rfl | (rw [hy]), rfl⟩
structure OpIn (keys : Nat) (kind key val old : Int) : Prop where
  kind : 0 ≤ kind ∧ kind ≤ 3
  key : 0 ≤ key ∧ key < keys
  val : 1 ≤ val ∧ val ≤ 3
  old : 1 ≤ old ∧ old ≤ 3
theorem OpIn.ok {keys : Nat} {kind key val old : Int} (h : OpIn keys kind key val old) (hk : keys ≤ 8) : OpOk kind key val old := by
  have h1 := h.kind
  have h2 := h.key
  have h3 := h.val
  have h4 := h.old
  unfold OpOk
  omega
set_option maxRecDepth 100000 in
set_option maxHeartbeats 1600000 in
theorem k_op (c : Int) (keys : Nat) (h0 : 0 < keys) (h8 : keys ≤ 8) (hc : R64 c) (w : World) : Calls Try.prog 17 #[.int .i64 c, .int .i64 keys] w fun e w' => ∃ kind key val old, OpIn keys kind key val old ∧ e = .returned (.agg #[.int .i64 kind, .int .i64 key, .int .i64 val, .int .i64 old]) ∧ Kept [] w w' := by
  have hp := pk_ok c (n := 1099511627776) (by omega)
  have hk0 : ((keys : Int) == 0) = false := beq_eq_false_iff_ne.2 (by omega)
  have run := k_pick c 1099511627776 (by omega) (by omega) hc
  generalize pk c 1099511627776 = v at *
  have a1 := Int.tmod_nonneg 4 hp.1
  have a2 := Int.tmod_lt_of_pos v (b := 4) (by omega)
  have b0 := Int.tdiv_nonneg hp.1 (show (0 : Int) ≤ 4 by omega)
  have b1 := Int.tmod_nonneg (keys : Int) b0
  have b2 := Int.tmod_lt_of_pos (v.tdiv 4) (b := (keys : Int)) (by omega)
  have c0 := Int.tdiv_nonneg hp.1 (show (0 : Int) ≤ 40 by omega)
  have c1 := Int.tmod_nonneg 3 c0
  have c2 := Int.tmod_lt_of_pos (v.tdiv 40) (b := 3) (by omega)
  have d0 := Int.tdiv_nonneg hp.1 (show (0 : Int) ≤ 120 by omega)
  have d1 := Int.tmod_nonneg 3 d0
  have d2 := Int.tmod_lt_of_pos (v.tdiv 120) (b := 3) (by omega)
  have e1 : v.tdiv 4 ≤ v := by rw [Int.tdiv_eq_ediv_of_nonneg hp.1]; omega
  have e2 : v.tdiv 40 ≤ v := by rw [Int.tdiv_eq_ediv_of_nonneg hp.1]; omega
  have e3 : v.tdiv 120 ≤ v := by rw [Int.tdiv_eq_ediv_of_nonneg hp.1]; omega
  go_enter Try.func17, Try.ntmps17
  go_wp2_with fail
  refine (run _).mono ?_
  rintro e w1 ⟨rfl, rfl⟩
  go_wp2
  have f1 := Int.emod_nonneg v (b := 4) (by omega)
  have f2 := Int.emod_lt_of_pos v (b := 4) (by omega)
  have g1 := Int.emod_nonneg (v.tdiv 4) (b := (keys : Int)) (by omega)
  have g2 := Int.emod_lt_of_pos (v.tdiv 4) (b := (keys : Int)) (by omega)
  have h1 := Int.emod_nonneg (v.tdiv 40) (b := 3) (by omega)
  have h2 := Int.emod_lt_of_pos (v.tdiv 40) (b := 3) (by omega)
  have i1 := Int.emod_nonneg (v.tdiv 120) (b := 3) (by omega)
  have i2 := Int.emod_lt_of_pos (v.tdiv 120) (b := 3) (by omega)
  exact bodyPost_ret (v := .agg #[.int .i64 (v % 4), .int .i64 (v.tdiv 4 % keys), .int .i64 (1 + v.tdiv 40 % 3), .int .i64 (1 + v.tdiv 120 % 3)]) (by simp [results, Try.results17, go_sem]) rfl ⟨_, _, _, _, ⟨by omega, by omega, by omega, by omega⟩, rfl, (Kept.refl [] w).alloc _⟩
theorem flat_at : ∀ (l : List (Int × Int × Int)) (i : Nat) (t : Int × Int × Int), l[i]? = some t →
    (flat l)[i * 3]? = some (.int .i64 t.1) ∧ (flat l)[i * 3 + 1]? = some (.int .i64 t.2.1) ∧ (flat l)[i * 3 + 2]? = some (.int .i64 t.2.2)
  | [], i, t, h => by simp at h
  | x :: l, 0, t, h => by
    simp only [List.getElem?_cons_zero, Option.some.injEq] at h
    subst h
    exact ⟨rfl, rfl, rfl⟩
  | x :: l, i + 1, t, h => by
    have := flat_at l i t (by simpa using h)
    rw [show (i + 1) * 3 = i * 3 + 3 by omega]
    simpa [flat] using this
/-- A list of entries lies at b. -/
theorem list_cell {w : World} {b : Nat} {l : List (Int × Int × Int)} (h : w.heap[b]? = some (.cells (flat l).toArray 38 (0, 0))) {i : Nat} (hi : i < l.length) :
    w.cell? ⟨b, i * 3, none⟩ = some (.int .i64 l[i].1) ∧ w.cell? ⟨b, i * 3 + 1, none⟩ = some (.int .i64 l[i].2.1) ∧ w.cell? ⟨b, i * 3 + 2, none⟩ = some (.int .i64 l[i].2.2) := by
  have := flat_at l i l[i] (List.getElem?_eq_getElem hi)
  rw [cell_of h, cell_of h, cell_of h]
  simpa using this
set_option maxRecDepth 100000 in
set_option maxHeartbeats 3200000 in
theorem k_alike (m : M) (b1 b2 c1 c2 : Nat) (w : World) (h1 : w.heap[b1]? = some (.cells (flat m.rdL).toArray 38 (0, 0))) (h2 : w.heap[b2]? = some (.cells (flat m.dtL).toArray 38 (0, 0))) (h3 : w.heap[c1]? = some (.cells (flat m.rdL).toArray 38 (0, 0))) (h4 : w.heap[c2]? = some (.cells (flat m.dtL).toArray 38 (0, 0))) :
    Calls Try.prog 19 #[view m b1 b2, view m c1 c2] w fun e w' => e = .returned (.bool true) ∧ Kept [] w w' := by
  have hn := neq38
  have hg := g38
  have n1 := cnt_le m.read 8
  have n2 := cnt_le m.dirty 8
  unfold view
  generalize m.am = am at *
  generalize m.hd = hd at *
  generalize m.mis = mis at *
  generalize m.hol = hol at *
  have hA : ((w.alloc (.cells #[Value.slice (some ⟨b1, 0, none⟩) (cnt m.read 8) (cnt m.read 8), .bool am, .bool hd, .slice (some ⟨b2, 0, none⟩) (cnt m.dirty 8) (cnt m.dirty 8), .int .i64 mis, .int .i64 hol] 35)).alloc (.cells #[Value.slice (some ⟨c1, 0, none⟩) (cnt m.read 8) (cnt m.read 8), .bool am, .bool hd, .slice (some ⟨c2, 0, none⟩) (cnt m.dirty 8) (cnt m.dirty 8), .int .i64 mis, .int .i64 hol] 35)).heap[w.heap.size]? = some (.cells #[Value.slice (some ⟨b1, 0, none⟩) (cnt m.read 8) (cnt m.read 8), .bool am, .bool hd, .slice (some ⟨b2, 0, none⟩) (cnt m.dirty 8) (cnt m.dirty 8), .int .i64 mis, .int .i64 hol] 35 (0, 0)) := block_alloc_lt (block_alloc_new w _) _
  have hB : ((w.alloc (.cells #[Value.slice (some ⟨b1, 0, none⟩) (cnt m.read 8) (cnt m.read 8), .bool am, .bool hd, .slice (some ⟨b2, 0, none⟩) (cnt m.dirty 8) (cnt m.dirty 8), .int .i64 mis, .int .i64 hol] 35)).alloc (.cells #[Value.slice (some ⟨c1, 0, none⟩) (cnt m.read 8) (cnt m.read 8), .bool am, .bool hd, .slice (some ⟨c2, 0, none⟩) (cnt m.dirty 8) (cnt m.dirty 8), .int .i64 mis, .int .i64 hol] 35)).heap[w.heap.size + 1]? = some (.cells #[Value.slice (some ⟨c1, 0, none⟩) (cnt m.read 8) (cnt m.read 8), .bool am, .bool hd, .slice (some ⟨c2, 0, none⟩) (cnt m.dirty 8) (cnt m.dirty 8), .int .i64 mis, .int .i64 hol] 35 (0, 0)) := by
    have := block_alloc_new (w.alloc (.cells #[Value.slice (some ⟨b1, 0, none⟩) (cnt m.read 8) (cnt m.read 8), .bool am, .bool hd, .slice (some ⟨b2, 0, none⟩) (cnt m.dirty 8) (cnt m.dirty 8), .int .i64 mis, .int .i64 hol] 35)) (.cells #[Value.slice (some ⟨c1, 0, none⟩) (cnt m.read 8) (cnt m.read 8), .bool am, .bool hd, .slice (some ⟨c2, 0, none⟩) (cnt m.dirty 8) (cnt m.dirty 8), .int .i64 mis, .int .i64 hol] 35)
    simpa using this
  have hh1 := block_alloc_lt (block_alloc_lt h1 (.cells #[Value.slice (some ⟨b1, 0, none⟩) (cnt m.read 8) (cnt m.read 8), .bool am, .bool hd, .slice (some ⟨b2, 0, none⟩) (cnt m.dirty 8) (cnt m.dirty 8), .int .i64 mis, .int .i64 hol] 35)) (.cells #[Value.slice (some ⟨c1, 0, none⟩) (cnt m.read 8) (cnt m.read 8), .bool am, .bool hd, .slice (some ⟨c2, 0, none⟩) (cnt m.dirty 8) (cnt m.dirty 8), .int .i64 mis, .int .i64 hol] 35)
  have hh2 := block_alloc_lt (block_alloc_lt h2 (.cells #[Value.slice (some ⟨b1, 0, none⟩) (cnt m.read 8) (cnt m.read 8), .bool am, .bool hd, .slice (some ⟨b2, 0, none⟩) (cnt m.dirty 8) (cnt m.dirty 8), .int .i64 mis, .int .i64 hol] 35)) (.cells #[Value.slice (some ⟨c1, 0, none⟩) (cnt m.read 8) (cnt m.read 8), .bool am, .bool hd, .slice (some ⟨c2, 0, none⟩) (cnt m.dirty 8) (cnt m.dirty 8), .int .i64 mis, .int .i64 hol] 35)
  have hh3 := block_alloc_lt (block_alloc_lt h3 (.cells #[Value.slice (some ⟨b1, 0, none⟩) (cnt m.read 8) (cnt m.read 8), .bool am, .bool hd, .slice (some ⟨b2, 0, none⟩) (cnt m.dirty 8) (cnt m.dirty 8), .int .i64 mis, .int .i64 hol] 35)) (.cells #[Value.slice (some ⟨c1, 0, none⟩) (cnt m.read 8) (cnt m.read 8), .bool am, .bool hd, .slice (some ⟨c2, 0, none⟩) (cnt m.dirty 8) (cnt m.dirty 8), .int .i64 mis, .int .i64 hol] 35)
  have hh4 := block_alloc_lt (block_alloc_lt h4 (.cells #[Value.slice (some ⟨b1, 0, none⟩) (cnt m.read 8) (cnt m.read 8), .bool am, .bool hd, .slice (some ⟨b2, 0, none⟩) (cnt m.dirty 8) (cnt m.dirty 8), .int .i64 mis, .int .i64 hol] 35)) (.cells #[Value.slice (some ⟨c1, 0, none⟩) (cnt m.read 8) (cnt m.read 8), .bool am, .bool hd, .slice (some ⟨c2, 0, none⟩) (cnt m.dirty 8) (cnt m.dirty 8), .int .i64 mis, .int .i64 hol] 35)
  have HK : Kept [] ((w.alloc (.cells #[Value.slice (some ⟨b1, 0, none⟩) (cnt m.read 8) (cnt m.read 8), .bool am, .bool hd, .slice (some ⟨b2, 0, none⟩) (cnt m.dirty 8) (cnt m.dirty 8), .int .i64 mis, .int .i64 hol] 35)).alloc (.cells #[Value.slice (some ⟨c1, 0, none⟩) (cnt m.read 8) (cnt m.read 8), .bool am, .bool hd, .slice (some ⟨c2, 0, none⟩) (cnt m.dirty 8) (cnt m.dirty 8), .int .i64 mis, .int .i64 hol] 35)) ((w.alloc (.cells #[Value.slice (some ⟨b1, 0, none⟩) (cnt m.read 8) (cnt m.read 8), .bool am, .bool hd, .slice (some ⟨b2, 0, none⟩) (cnt m.dirty 8) (cnt m.dirty 8), .int .i64 mis, .int .i64 hol] 35)).alloc (.cells #[Value.slice (some ⟨c1, 0, none⟩) (cnt m.read 8) (cnt m.read 8), .bool am, .bool hd, .slice (some ⟨c2, 0, none⟩) (cnt m.dirty 8) (cnt m.dirty 8), .int .i64 mis, .int .i64 hol] 35)) := Kept.refl [] _
  go_enter Try.func19, Try.ntmps19
  go_wp2_with fail
  go_loopw [5] (fun x W => ∃ k : Nat, k ≤ cnt m.read 8 ∧ x = .int .i64 k ∧ Kept [] (((w.alloc (.cells #[Value.slice (some ⟨b1, 0, none⟩) (cnt m.read 8) (cnt m.read 8), .bool am, .bool hd, .slice (some ⟨b2, 0, none⟩) (cnt m.dirty 8) (cnt m.dirty 8), .int .i64 mis, .int .i64 hol] 35)).alloc (.cells #[Value.slice (some ⟨c1, 0, none⟩) (cnt m.read 8) (cnt m.read 8), .bool am, .bool hd, .slice (some ⟨c2, 0, none⟩) (cnt m.dirty 8) (cnt m.dirty 8), .int .i64 mis, .int .i64 hol] 35))) W) (fun x _ => cnt m.read 8 - (intOf x).toNat)
  case atStart => exact ⟨0, by omega, rfl, HK⟩
  case round =>
    obtain ⟨k, hk, rfl, hKK⟩ := hrel
    have bA := hKK.at hA (by simp)
    have bB := hKK.at hB (by simp)
    have l1 := hKK.at hh1 (by simp)
    have l2 := hKK.at hh2 (by simp)
    have l3 := hKK.at hh3 (by simp)
    have l4 := hKK.at hh4 (by simp)
    have cA : ∀ o, wr.cell? ⟨w.heap.size, o, none⟩ = #[Value.slice (some ⟨b1, 0, none⟩) (cnt m.read 8) (cnt m.read 8), .bool am, .bool hd, .slice (some ⟨b2, 0, none⟩) (cnt m.dirty 8) (cnt m.dirty 8), .int .i64 mis, .int .i64 hol][o]? := cell_of bA
    have cB : ∀ o, wr.cell? ⟨w.heap.size + 1, o, none⟩ = #[Value.slice (some ⟨c1, 0, none⟩) (cnt m.read 8) (cnt m.read 8), .bool am, .bool hd, .slice (some ⟨c2, 0, none⟩) (cnt m.dirty 8) (cnt m.dirty 8), .int .i64 mis, .int .i64 hol][o]? := cell_of bB
    by_cases hlt : k < cnt m.read 8
    · have hlt' : (k : Int) < cnt m.read 8 := by omega
      have hkt : ((k : Int)).toNat = k := by simp
      have hkl : k < m.rdL.length := by rw [show m.rdL.length = cnt m.read 8 from tri_len _ _ _]; exact hlt
      obtain ⟨q0, q1, q2⟩ := list_cell l1 hkl
      obtain ⟨r0, r1, r2⟩ := list_cell l3 hkl
      have hq := hn m.rdL[k].1 m.rdL[k].2.1 m.rdL[k].2.2 m.rdL[k].1 m.rdL[k].2.1 m.rdL[k].2.2
      simp only [beq_self_eq_true, Bool.and_self, Bool.not_true] at hq
      generalize m.rdL[k] = z at *
      have HX : Hid _ := hKK
      clear hKK bA bB l1 l2 l3 l4 hn hkl
      go_wp2_with fail
      go_quiet (fail)
      go_wp2
      go_roundw
      case rel => exact ⟨k + 1, by omega, by go_num, HX.out.drewN _⟩
      case measure => simp [intOf]; omega
    · have hlt' : ¬ (k : Int) < cnt m.read 8 := by omega
      have HK2 : Hid _ := hKK
      clear hKK
      go_wp2
      go_loopw [6] (fun x W => ∃ k : Nat, k ≤ cnt m.dirty 8 ∧ x = .int .i64 k ∧ Kept [] (((w.alloc (.cells #[Value.slice (some ⟨b1, 0, none⟩) (cnt m.read 8) (cnt m.read 8), .bool am, .bool hd, .slice (some ⟨b2, 0, none⟩) (cnt m.dirty 8) (cnt m.dirty 8), .int .i64 mis, .int .i64 hol] 35)).alloc (.cells #[Value.slice (some ⟨c1, 0, none⟩) (cnt m.read 8) (cnt m.read 8), .bool am, .bool hd, .slice (some ⟨c2, 0, none⟩) (cnt m.dirty 8) (cnt m.dirty 8), .int .i64 mis, .int .i64 hol] 35))) W) (fun x _ => cnt m.dirty 8 - (intOf x).toNat)
      case atStart => exact ⟨0, by omega, rfl, HK2.out⟩
      case round =>
        clear cA cB bA bB l1 l2 l3 l4 HK2
        obtain ⟨k, hk, rfl, hKK⟩ := hrel
        have bA := hKK.at hA (by simp)
        have bB := hKK.at hB (by simp)
        have l1 := hKK.at hh1 (by simp)
        have l2 := hKK.at hh2 (by simp)
        have l3 := hKK.at hh3 (by simp)
        have l4 := hKK.at hh4 (by simp)
        have cA : ∀ o, wr.cell? ⟨w.heap.size, o, none⟩ = #[Value.slice (some ⟨b1, 0, none⟩) (cnt m.read 8) (cnt m.read 8), .bool am, .bool hd, .slice (some ⟨b2, 0, none⟩) (cnt m.dirty 8) (cnt m.dirty 8), .int .i64 mis, .int .i64 hol][o]? := cell_of bA
        have cB : ∀ o, wr.cell? ⟨w.heap.size + 1, o, none⟩ = #[Value.slice (some ⟨c1, 0, none⟩) (cnt m.read 8) (cnt m.read 8), .bool am, .bool hd, .slice (some ⟨c2, 0, none⟩) (cnt m.dirty 8) (cnt m.dirty 8), .int .i64 mis, .int .i64 hol][o]? := cell_of bB
        by_cases hlt : k < cnt m.dirty 8
        · have hlt' : (k : Int) < cnt m.dirty 8 := by omega
          have hkt : ((k : Int)).toNat = k := by simp
          have hkl : k < m.dtL.length := by rw [show m.dtL.length = cnt m.dirty 8 from tri_len _ _ _]; exact hlt
          obtain ⟨q0, q1, q2⟩ := list_cell l2 hkl
          obtain ⟨r0, r1, r2⟩ := list_cell l4 hkl
          have hq := hn m.dtL[k].1 m.dtL[k].2.1 m.dtL[k].2.2 m.dtL[k].1 m.dtL[k].2.1 m.dtL[k].2.2
          simp only [beq_self_eq_true, Bool.and_self, Bool.not_true] at hq
          generalize m.dtL[k] = z at *
          have HX : Hid _ := hKK
          clear hKK bA bB l1 l2 l3 l4 hn hkl
          go_wp2_with fail
          go_quiet (fail)
          go_wp2
          go_roundw
          case rel => exact ⟨k + 1, by omega, by go_num, HX.out.drewN _⟩
          case measure => simp [intOf]; omega
        · have hlt' : ¬ (k : Int) < cnt m.dirty 8 := by omega
          go_wp2
          go_ret
          exact ⟨rfl, (((Kept.refl [] w).alloc _).alloc _).trans hKK⟩
end Go.Proofs.Ytmnkphenobfbfaa
namespace Go.Proofs.Ytmnkphenobfbfaa
open Go.RowKit
/-- A list of n numbers of 64 bits that lies in memory. -/
structure RawAt (w : World) (S : Value) (n : Nat) : Prop where
  lies : ∃ a c, S = .slice a n c ∧ n ≤ c ∧ ∀ k : Nat, k < n → ∃ (sb so : Nat) (x : Int), a = some ⟨sb, so, none⟩ ∧ sb < w.heap.size ∧ R64 x ∧ w.cell? ⟨sb, so + k, none⟩ = some (.int .i64 x)
theorem Kept.far {F : List Nat} {w W : World} (k : Kept F w W) {b o : Nat} (hb : b < w.heap.size) (hf : b ∉ F) : W.cell? ⟨b, o, none⟩ = w.cell? ⟨b, o, none⟩ ∧ W.frozen? ⟨b, o, none⟩ = w.frozen? ⟨b, o, none⟩ :=
  ⟨World.cell?_of_block (w := w) (k.block b hb hf), World.frozen?_of_block (w := w) (k.block b hb hf)⟩
theorem RawAt.kept {w w' : World} {S : Value} {n : Nat} (h : RawAt w S n) (k : Kept [] w w') : RawAt w' S n := by
  obtain ⟨a, c, h1, h2, h3⟩ := h.lies
  refine ⟨a, c, h1, h2, fun j hj => ?_⟩
  obtain ⟨sb, so, x, e, hlt, r, c0⟩ := h3 j hj
  exact ⟨sb, so, x, e, Nat.lt_of_lt_of_le hlt k.size, r, ((k.far hlt (by simp)).1).trans c0⟩
end Go.Proofs.Ytmnkphenobfbfaa
