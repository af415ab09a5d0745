import Derived.Test.YtmnkphenobfbfaaYk
import Derived.Test.YtmnkphenobfbfaaYa
import Derived.Deep.RegionHeld3
import Derived.Deep.DeepCutAuto
namespace Go.Proofs.Ytmnkphenobfbfaa
open Go.RowKit
/-! What 'history' keeps in memory. -/
theorem Cells9.more {cs cs2 : Array Value} {h : Hist} (H : h.n = 0 ∨ Cells9 cs h) (hund : h.res h.n = (false, 0)) {kind val old : Int} {key now : Nat} {xs : List Value} (hx : h.n = 0 ∨ xs = cs.toList.take (h.n * 9)) (hl : xs.length = h.n * 9)
    (e : cs2.toList.take ((h.n + 1) * 9) = xs ++ [.int .i64 kind, .int .i64 key, .int .i64 val, .int .i64 old, .int .i64 now, .int .i64 0, .bool false, .bool false, .int .i64 0]) : Cells9 cs2 (h.more ⟨kind, key, val, old⟩ now) := by
  have at2 : ∀ j, j < (h.n + 1) * 9 → cs2[j]? = (xs ++ [Value.int .i64 kind, .int .i64 key, .int .i64 val, .int .i64 old, .int .i64 now, .int .i64 0, .bool false, .bool false, .int .i64 0])[j]? := by
    intro j hj
    rw [← e, List.getElem?_take, if_pos hj]
    simp
  intro c hc
  have hc' : c < h.n + 1 := hc
  by_cases q : c = h.n
  · subst q
    have new : ∀ o, o < 9 → cs2[h.n * 9 + o]? = [Value.int .i64 kind, .int .i64 key, .int .i64 val, .int .i64 old, .int .i64 now, .int .i64 0, .bool false, .bool false, .int .i64 0][o]? := by
      intro o ho
      rw [at2 _ (by omega), List.getElem?_append_right (by omega), hl, Nat.add_sub_cancel_left]
    have n0 := new 0 (by omega)
    rw [Nat.add_zero] at n0
    simp only [Hist.more, put_same, hund]
    refine ⟨n0, new 1 (by omega), new 2 (by omega), new 3 (by omega), new 4 (by omega), ?_, ?_, ?_, ?_⟩
    · exact new 5 (by omega)
    · exact new 6 (by omega)
    · exact new 7 (by omega)
    · exact new 8 (by omega)
  · have hcn : c < h.n := by omega
    have old_ : ∀ o, o < 9 → cs2[c * 9 + o]? = cs[c * 9 + o]? := by
      intro o ho
      rw [at2 _ (by omega), List.getElem?_append_left (by omega)]
      rcases hx with r | r
      · omega
      · rw [r, List.getElem?_take, if_pos (by omega)]; simp
    rcases H with H | H
    · omega
    · obtain ⟨h0, h1, h2, h3, h4, h5, h6, h7, h8⟩ := H c hcn
      have o0 := old_ 0 (by omega)
      rw [Nat.add_zero] at o0
      simp only [Hist.more, put_other _ _ q]
      exact ⟨o0.trans h0, (old_ 1 (by omega)).trans h1, (old_ 2 (by omega)).trans h2, (old_ 3 (by omega)).trans h3, (old_ 4 (by omega)).trans h4, (old_ 5 (by omega)).trans h5, (old_ 6 (by omega)).trans h6, (old_ 7 (by omega)).trans h7, (old_ 8 (by omega)).trans h8⟩
theorem set4_at {cs : Array Value} {b : Nat} (hb : b + 8 < cs.size) (v5 v6 v7 v8 : Value) (j : Nat) :
    ((((cs.setIfInBounds (b + 5) v5).setIfInBounds (b + 6) v6).setIfInBounds (b + 7) v7).setIfInBounds (b + 8) v8)[j]? = if j = b + 8 then some v8 else if j = b + 7 then some v7 else if j = b + 6 then some v6 else if j = b + 5 then some v5 else cs[j]? := by
  simp only [Array.getElem?_setIfInBounds, Array.size_setIfInBounds]
  by_cases q8 : j = b + 8
  · rw [if_pos q8, if_pos q8.symm, if_pos (by omega)]
  rw [if_neg q8, if_neg fun q => q8 q.symm]
  by_cases q7 : j = b + 7
  · rw [if_pos q7, if_pos q7.symm, if_pos (by omega)]
  rw [if_neg q7, if_neg fun q => q7 q.symm]
  by_cases q6 : j = b + 6
  · rw [if_pos q6, if_pos q6.symm, if_pos (by omega)]
  rw [if_neg q6, if_neg fun q => q6 q.symm]
  by_cases q5 : j = b + 5
  · rw [if_pos q5, if_pos q5.symm, if_pos (by omega)]
  rw [if_neg q5, if_neg fun q => q5 q.symm]
theorem Cells9.done {cs : Array Value} {h : Hist} (H : Cells9 cs h) {c : Nat} (hc : c < h.n) (hsz : h.n * 9 ≤ cs.size) {now : Nat} (hnow : 0 < now) (f : Bool) (v : Int) :
    Cells9 ((((cs.setIfInBounds (c * 9 + 5) (.int .i64 now)).setIfInBounds (c * 9 + 6) (.bool true)).setIfInBounds (c * 9 + 7) (.bool f)).setIfInBounds (c * 9 + 8) (.int .i64 v)) (h.done c now (f, v)) := by
  intro x hx
  have hx' : x < h.n := hx
  obtain ⟨h0, h1, h2, h3, h4, h5, h6, h7, h8⟩ := H x hx'
  simp only [set4_at (show c * 9 + 8 < cs.size by omega)]
  by_cases q : x = c
  · subst q
    simp only [Hist.done, put_same, hnow, decide_true]
    refine ⟨?_, ?_, ?_, ?_, ?_, ?_, ?_, ?_, ?_⟩
    · rw [if_neg (by omega), if_neg (by omega), if_neg (by omega), if_neg (by omega)]; exact h0
    · rw [if_neg (by omega), if_neg (by omega), if_neg (by omega), if_neg (by omega)]; exact h1
    · rw [if_neg (by omega), if_neg (by omega), if_neg (by omega), if_neg (by omega)]; exact h2
    · rw [if_neg (by omega), if_neg (by omega), if_neg (by omega), if_neg (by omega)]; exact h3
    · rw [if_neg (by omega), if_neg (by omega), if_neg (by omega), if_neg (by omega)]; exact h4
    · rw [if_neg (by omega), if_neg (by omega), if_neg (by omega), if_pos trivial]
    · rw [if_neg (by omega), if_neg (by omega), if_pos trivial]
    · rw [if_neg (by omega), if_pos trivial]
    · rw [if_pos trivial]
  · simp only [Hist.done, put_other _ _ q]
    refine ⟨?_, ?_, ?_, ?_, ?_, ?_, ?_, ?_, ?_⟩ <;> (rw [if_neg (by omega), if_neg (by omega), if_neg (by omega), if_neg (by omega)]; assumption)
theorem r64_quo {x : Int} (h : R64 x) (d : Nat) (hd : 0 < d) : R64 (x.tdiv d) := by
  obtain ⟨h1, h2⟩ := h
  have key : ∀ y : Int, 0 ≤ y → 0 ≤ y / (d : Int) ∧ y / (d : Int) ≤ y := fun y hy => ⟨Int.ediv_nonneg hy (by omega), Int.ediv_le_self _ hy⟩
  by_cases hx : 0 ≤ x
  · rw [Int.tdiv_eq_ediv_of_nonneg hx]
    have := key x hx
    exact ⟨by omega, by omega⟩
  · have hn : 0 ≤ -x := by omega
    have e : x.tdiv d = -((-x) / (d : Int)) := by
      rw [← Int.tdiv_eq_ediv_of_nonneg hn, Int.neg_tdiv, Int.neg_neg]
    rw [e]
    have := key (-x) hn
    exact ⟨by omega, by omega⟩
theorem pk_num (x : Int) (n : Nat) (h : 0 < n) : ∃ t : Nat, t < n ∧ pk x n = (t : Int) := by
  have := pk_ok x h
  exact ⟨(pk x n).toNat, by omega, by omega⟩
theorem info82' : (Try.prog.info? 82).map (fun i => (i.zero, i.size, i.bytes)) = some (some (.agg #[.int .i64 0, .int .i64 0, .int .i64 0, .int .i64 0, .int .i64 0, .int .i64 0, .bool false, .bool false, .int .i64 0]), 9, 64) := by kernel_rfl
theorem info4' : (Try.prog.info? 4).map (fun i => (i.zero, i.size, i.bytes)) = some (some (.bool false), 1, 1) := by kernel_rfl
/-- At which call a thread is, as a number. -/
def cv : Option Nat → Int
  | none => -1
  | some c => c
/-- The list of the calls lies behind w0. -/
structure ListAt (w0 W : World) (S : Value) (h : Hist) : Prop where
  at_ : (S = .slice none 0 0 ∧ h.n = 0) ∨ ∃ g cap cs, S = .slice (some ⟨g, 0, none⟩) h.n cap ∧ w0.heap.size ≤ g ∧ W.heap[g]? = some (.cells cs 82 (0, 0)) ∧ h.n ≤ cap ∧ cap ≤ maxLen ∧ cs.size = cap * 9 ∧ Cells9 cs h
theorem ListAt.kept {w0 W W' : World} {S : Value} {h : Hist} (L : ListAt w0 W S h) (k : Kept [] W W') : ListAt w0 W' S h :=
  ⟨L.at_.imp id fun ⟨g, cap, cs, e1, e2, e3, e4⟩ => ⟨g, cap, cs, e1, e2, k.at e3 (by simp), e4⟩⟩
theorem ListAt.off {w0 W W' : World} {S : Value} {h : Hist} (L : ListAt w0 W S h) (o : Off W W') : ListAt w0 W' S h :=
  ⟨L.at_.imp id fun ⟨g, cap, cs, e1, e2, e3, e4⟩ => ⟨g, cap, cs, e1, e2, o.at_ _ _ _ e3 (by decide) (by decide) (by decide) (by decide), e4⟩⟩
/-- A cell of another kind of block. -/
theorem ListAt.set {w0 W : World} {S : Value} {h : Hist} (L : ListAt w0 W S h) {x : Nat} {cx : Array Value} {T : TypeId} (hx : W.heap[x]? = some (.cells cx T (0, 0))) (hT : T ≠ 82) (o : Nat) (v : Value) : ListAt w0 (W.setCell ⟨x, o, none⟩ v) S h :=
  ⟨L.at_.imp id fun ⟨g, cap, cs, e1, e2, e3, e4⟩ => ⟨g, cap, cs, e1, e2, block_set_ne e3 (ne_of_blocks e3 hx (by intro e; injection e with _ e2 _; exact hT e2.symm)) _ _, e4⟩⟩
theorem ListAt.own {w0 W : World} {S : Value} {h : Hist} (L : ListAt w0 W S h) : ∃ xs cs, W.ownsRow w0.heap.size 82 9 S h.n xs ∧ (h.n = 0 ∨ Cells9 cs h) ∧ (h.n = 0 ∨ xs = cs.toList.take (h.n * 9)) ∧ xs.length = h.n * 9 := by
  rcases L.at_ with ⟨e1, e2⟩ | ⟨g, cap, cs, e1, e2, e3, e4, e5, e6, e7⟩
  · exact ⟨[], #[], ⟨by rw [e2]; rfl, .inl ⟨e1, e2⟩⟩, .inl e2, .inl e2, by rw [e2]; rfl⟩
  · have hl : (cs.toList.take (h.n * 9)).length = h.n * 9 := by
      rw [List.length_take, Array.length_toList, e6]
      have : h.n * 9 ≤ cap * 9 := Nat.mul_le_mul_right 9 e4
      omega
    exact ⟨cs.toList.take (h.n * 9), cs, ⟨hl, .inr ⟨g, cap, cs, e1, e2, e3, e4, e5, e6, rfl⟩⟩, .inr e7, .inr rfl, hl⟩
theorem KAt.other {b : Nat} {m : M} {w0 w w' : World} (h : KAt b m w0 w) {x : Nat} {cs : Array Value} (hx : w.heap[x]? = some (.cells cs 82 (0, 0))) (hz : w0.heap.size ≤ x) (k : Kept [x] w w') : KAt b m w0 w' := by
  obtain ⟨p, en, hp, hg, hf⟩ := h.at_
  refine ⟨⟨p, en, hp, ?_, hf⟩, h.inv, h.kept.drop k fun y hy hlt => ?_⟩
  · obtain ⟨cs', g1, g2⟩ := hg.tb
    refine hg.kept k ?_ ?_ ?_ ?_ ?_ ?_
    · simpa using ne_of_blocks hg.mp hx (by simp)
    · simpa using ne_of_blocks hg.c hx (by simp)
    · simpa using ne_of_blocks hg.s hx (by simp)
    · simpa using ne_of_blocks g1 hx (by simp)
    · intro i t ht
      obtain ⟨cp, _, c⟩ := hg.ts i t ht
      simpa using ne_of_blocks c hx (by simp)
    · intro j hj
      simpa using ne_of_blocks (hg.es j hj) hx (by simp)
  · simp only [List.mem_cons, List.not_mem_nil, or_false] at hy
    omega
structure HAt (b : Nat) (w0 : World) (p0 : Nat → Int) (ga : Nat) (S : Value) (m : M) (h : Hist) (cur : Nat → Option Nat) (now : Nat) (W : World) : Prop where
  inv : HInv m h p0 cur now
  k : KAt b m w0 W
  at_ : W.heap[ga]? = some (.cells #[.int .i64 (cv (cur 0)), .int .i64 (cv (cur 1)), .int .i64 (cv (cur 2))] 3 (0, 0))
  ga0 : w0.heap.size ≤ ga
  l : ListAt w0 W S h
theorem HAt.kept {b : Nat} {w0 : World} {p0 : Nat → Int} {ga : Nat} {S : Value} {m : M} {h : Hist} {cur : Nat → Option Nat} {now : Nat} {W W' : World} (H : HAt b w0 p0 ga S m h cur now W) (k : Kept [] W W') : HAt b w0 p0 ga S m h cur now W' :=
  ⟨H.inv, H.k.keptNil k, k.at H.at_ (by simp), H.ga0, H.l.kept k⟩
/-- Behind a call of the map's. -/
theorem HAt.off {b : Nat} {w0 : World} {p0 : Nat → Int} {ga : Nat} {S : Value} {m m' : M} {h : Hist} {cur : Nat → Option Nat} {now now' : Nat} {W W' : World} (H : HAt b w0 p0 ga S m h cur now W) (hi : HInv m' h p0 cur now') (k : KAt b m' w0 W') (o : Off W W') : HAt b w0 p0 ga S m' h cur now' W' :=
  ⟨hi, k, o.at_ _ _ _ H.at_ (by decide) (by decide) (by decide) (by decide), H.ga0, H.l.off o⟩
theorem HAt.cellAt {b : Nat} {w0 : World} {p0 : Nat → Int} {ga : Nat} {S : Value} {m : M} {h : Hist} {cur : Nat → Option Nat} {now : Nat} {W : World} (H : HAt b w0 p0 ga S m h cur now W) {t : Nat} (ht : t < 3) : W.cell? ⟨ga, t, none⟩ = some (.int .i64 (cv (cur t))) := by
  rw [cell_of H.at_]
  have : t = 0 ∨ t = 1 ∨ t = 2 := by omega
  rcases this with rfl | rfl | rfl <;> rfl
/-- The list of the places, a thread's set. -/
theorem at_put (cur : Nat → Option Nat) {t : Nat} (ht : t < 3) (x : Option Nat) : #[Value.int .i64 (cv (cur 0)), .int .i64 (cv (cur 1)), .int .i64 (cv (cur 2))].setIfInBounds t (.int .i64 (cv x)) = #[.int .i64 (cv (put cur t x 0)), .int .i64 (cv (put cur t x 1)), .int .i64 (cv (put cur t x 2))] := by
  have : t = 0 ∨ t = 1 ∨ t = 2 := by omega
  rcases this with rfl | rfl | rfl <;> simp [put]
/-- One call more. -/
theorem HAt.append {b : Nat} {w0 : World} {p0 : Nat → Int} {ga : Nat} {S S' : Value} {m : M} {h : Hist} {cur : Nat → Option Nat} {now : Nat} {W W1 : World} {kind val old : Int} {key : Nat} {xs : List Value} {cs : Array Value} (hI : HInv m (h.more ⟨kind, key, val, old⟩ now) p0 cur now) (K : KAt b m w0 W)
    (A : W.heap[ga]? = some (.cells #[.int .i64 (cv (cur 0)), .int .i64 (cv (cur 1)), .int .i64 (cv (cur 2))] 3 (0, 0))) (g0 : w0.heap.size ≤ ga) (L : ListAt w0 W S h) (hund : h.res h.n = (false, 0)) (x1 : h.n = 0 ∨ Cells9 cs h) (x2 : h.n = 0 ∨ xs = cs.toList.take (h.n * 9)) (x3 : xs.length = h.n * 9)
    (hg : W.grownBy W1 S.ownBlock) (ho : W1.ownsRow w0.heap.size 82 9 S' (h.n + 1) (xs ++ [.int .i64 kind, .int .i64 key, .int .i64 val, .int .i64 old, .int .i64 now, .int .i64 0, .bool false, .bool false, .int .i64 0])) : HAt b w0 p0 ga S' m (h.more ⟨kind, key, val, old⟩ now) cur now W1 := by
  have newL : ListAt w0 W1 S' (h.more ⟨kind, key, val, old⟩ now) := by
    rcases ho.2 with ⟨_, e⟩ | ⟨g, cap, cs2, e1, e2, e3, e4, e5, e6, e7⟩
    · omega
    · exact ⟨.inr ⟨g, cap, cs2, e1, e2, e3, e4, e5, e6, Cells9.more x1 hund x2 x3 e7⟩⟩
  rcases L.at_ with ⟨e1, e2⟩ | ⟨g, cap, cs1, e1, e2, e3, e4⟩
  · rw [e1] at hg
    have k : Kept [] W W1 := ⟨hg.os, hg.tape, hg.output, hg.size, fun q hq _ => hg.block q hq (by simp [Value.ownBlock])⟩
    exact ⟨hI, K.keptNil k, k.at A (by simp), g0, newL⟩
  · rw [e1] at hg
    have k : Kept [g] W W1 := ⟨hg.os, hg.tape, hg.output, hg.size, fun q hq hn => hg.block q hq (by simpa [Value.ownBlock] using hn)⟩
    exact ⟨hI, K.other e3 e2 k, k.at A (by simpa using ne_of_blocks A e3 (by simp)), g0, newL⟩
/-- A call is done: its four cells are set. -/
theorem HAt.fin {b : Nat} {w0 : World} {p0 : Nat → Int} {ga g cap : Nat} {m : M} {h : Hist} {cur : Nat → Option Nat} {now c t : Nat} {W : World} {cs : Array Value} {f : Bool} {v : Int} (hI : HInv m (h.done c now (f, v)) p0 (put cur t none) now) (K : KAt b m w0 W) (hnow : 0 < now)
    (A : W.heap[ga]? = some (.cells #[.int .i64 (cv (cur 0)), .int .i64 (cv (cur 1)), .int .i64 (cv (cur 2))] 3 (0, 0))) (g0 : w0.heap.size ≤ ga) (ht : t < 3) (hc : c < h.n) (z : w0.heap.size ≤ g) (B : W.heap[g]? = some (.cells cs 82 (0, 0))) (e1 : h.n ≤ cap) (e2 : cap ≤ maxLen) (e3 : cs.size = cap * 9) (e4 : Cells9 cs h) :
    HAt b w0 p0 ga (.slice (some ⟨g, 0, none⟩) h.n cap) m (h.done c now (f, v)) (put cur t none) now (((((W.setCell ⟨g, c * 9 + 5, none⟩ (.int .i64 now)).setCell ⟨g, c * 9 + 6, none⟩ (.bool true)).setCell ⟨g, c * 9 + 7, none⟩ (.bool f)).setCell ⟨g, c * 9 + 8, none⟩ (.int .i64 v)).setCell ⟨ga, t, none⟩ (.int .i64 (-1))) := by
  have n1 : ga ≠ g := ne_of_blocks A B (by simp)
  have n2 : g ≠ ga := Ne.symm n1
  have b1 := block_set_same B (c * 9 + 5) (.int .i64 now)
  have b2 := block_set_same b1 (c * 9 + 6) (.bool true)
  have b3 := block_set_same b2 (c * 9 + 7) (.bool f)
  have b4 := block_set_same b3 (c * 9 + 8) (.int .i64 v)
  have a4 := block_set_ne (block_set_ne (block_set_ne (block_set_ne A n1 (c * 9 + 5) (.int .i64 now)) n1 (c * 9 + 6) (.bool true)) n1 (c * 9 + 7) (.bool f)) n1 (c * 9 + 8) (.int .i64 v)
  have k1 := K.set B z (by decide) (by decide) (by decide) (by decide) (by decide) (c * 9 + 5) (.int .i64 now)
  have k2 := k1.set b1 z (by decide) (by decide) (by decide) (by decide) (by decide) (c * 9 + 6) (.bool true)
  have k3 := k2.set b2 z (by decide) (by decide) (by decide) (by decide) (by decide) (c * 9 + 7) (.bool f)
  have k4 := k3.set b3 z (by decide) (by decide) (by decide) (by decide) (by decide) (c * 9 + 8) (.int .i64 v)
  have k5 := k4.set a4 g0 (by decide) (by decide) (by decide) (by decide) (by decide) t (.int .i64 (-1))
  refine ⟨hI, k5, ?_, g0, ⟨.inr ⟨g, cap, _, rfl, z, block_set_ne b4 n2 _ _, e1, e2, by simpa using e3, ?_⟩⟩⟩
  · have a5 := block_set_same a4 t (.int .i64 (-1))
    rw [show (Value.int .i64 (-1)) = .int .i64 (cv none) from rfl, at_put cur ht none] at a5
    exact a5
  · exact Cells9.done e4 hc (by rw [e3]; exact Nat.mul_le_mul_right 9 e1) hnow f v
end Go.Proofs.Ytmnkphenobfbfaa
namespace Go.Proofs.Ytmnkphenobfbfaa
open Go.RowKit
/-- What 'history' answers. -/
structure Story (b : Nat) (w0 : World) (p0 : Nat → Int) (e : Ending) (w' : World) : Prop where
  at_ : ∃ ga S m h cur now, e = .returned (.tuple #[S, .bool true]) ∧ HAt b w0 p0 ga S m h cur now w'
set_option maxRecDepth 100000 in
set_option maxHeartbeats 40000000 in
theorem k_hist (b : Nat) (m0 : M) (S : Value) (n keys : Nat) (p0 : Nat → Int) (w0 w : World) (hK : KAt b m0 w0 w) (hS : RawAt w0 S n) (hn : n ≤ 9223372036854775807) (hk0 : 0 < keys) (hk8 : keys ≤ 8)
    (H0 : HInv m0 ⟨0, fun _ => ⟨0, 0, 0, 0⟩, fun _ => 0, fun _ => 0, fun _ => (false, 0)⟩ p0 (fun _ => none) 0) : Calls Try.prog 20 #[.pointer (some ⟨b, 0, none⟩), S, .int .i64 keys] w (Story b w0 p0) := by
  have HS : Hid _ := hS
  have shape : ∃ a c, S = .slice a n c ∧ n ≤ c := by
    obtain ⟨a, c, h1, h2, _⟩ := hS.lies
    exact ⟨a, c, h1, h2⟩
  obtain ⟨sa, sc, rfl, hsc⟩ := shape
  clear hS
  have hz := hK.kept.size
  have HB : Hid (HAt b w0 p0 w.heap.size (.slice none 0 0) m0 ⟨0, fun _ => ⟨0, 0, 0, 0⟩, fun _ => 0, fun _ => 0, fun _ => (false, 0)⟩ (fun _ => none) 0 (w.alloc (.cells #[.int .i64 (-1), .int .i64 (-1), .int .i64 (-1)] 3))) :=
    ⟨H0, hK.keptNil ((Kept.refl [] w).alloc _), block_alloc_new w _, hz, ⟨.inl ⟨rfl, rfl⟩⟩⟩
  clear hK H0
  go_enter Try.func20, Try.ntmps20
  go_wp2_with fail
  go_loopw [8, 10] (fun x y W => ∃ (k : Nat) (m : M) (h : Hist) (cur : Nat → Option Nat), k ≤ n ∧ y = .int .i64 k ∧ HAt b w0 p0 w.heap.size x m h cur k W) (fun _ y _ => n - (intOf y).toNat)
  case atStart => exact ⟨0, m0, _, _, by omega, rfl, HB.out⟩
  case round =>
    clear HB
    obtain ⟨k, m, h, cur, hk, rfl, hH⟩ := hrel
    by_cases hlt : k < n
    · have hlt' : (k : Int) < n := by omega
      have hkt : ((k : Int)).toNat = k := by simp
      obtain ⟨_, _, hs1, _, hs3⟩ := (HS.out.kept hH.k.kept).lies
      cases hs1
      obtain ⟨sb, so, x, rfl, hltb, hr, hx⟩ := hs3 k hlt
      have hX : ∀ W, Kept [] wr W → W.cell? ⟨sb, so + k, none⟩ = some (.int .i64 x) := fun W kk => ((Kept.far kk hltb (by simp)).1).trans hx
      have HR : Hid _ := hr
      have HX : Hid _ := hX
      clear hs3 hr hX
      have len : ∃ sl lc, u8 = .slice sl h.n lc := by
        rcases hH.l.at_ with ⟨e, e0⟩ | ⟨g, cap, cs, e, _⟩
        · exact ⟨none, 0, by rw [e, e0]⟩
        · exact ⟨_, _, e⟩
      obtain ⟨sl, lc, rfl⟩ := len
      have HH : Hid _ := hH
      clear hH
      go_wp2_with fail
      refine (k_pick x 3 (by omega) (by omega) HR.out _).mono ?_
      rintro e w2 ⟨rfl, rfl⟩
      obtain ⟨t, ht, et⟩ := pk_num x 3 (by omega)
      rw [et]
      clear et
      have ca0 := HH.out.cellAt ht
      have ht' : (t : Int) < 3 := by omega
      have htt : ((t : Int)).toNat = t := by simp
      have n7 := HH.out.inv.n7
      cases hc : cur t with
      | none =>
        rw [hc] at ca0
        have ca : w2.cell? ⟨w.heap.size, t, none⟩ = some (.int .i64 (-1)) := ca0
        clear ca0
        by_cases h7 : h.n < 7
        · have h7' : (h.n : Int) < 7 := by omega
          have hd1 : R64 (x.tdiv 3) := r64_quo HR.out 3 (by omega)
          have hd1a := hd1.1
          have hd1b := hd1.2
          go_wp2_with fail
          refine (k_op (x.tdiv 3) keys hk0 hk8 hd1 _).mono ?_
          rintro e w3 ⟨kind, key0, val, old, hop, rfl, k3⟩
          obtain ⟨key, rfl⟩ := Int.eq_ofNat_of_zero_le hop.key.1
          have O3 := block_alloc_new w3 (.cells #[.int .i64 kind, .int .i64 key, .int .i64 val, .int .i64 old] 28)
          have K3 : Kept [] w2 (w3.alloc (.cells #[.int .i64 kind, .int .i64 key, .int .i64 val, .int .i64 old] 28)) := k3.alloc _
          have H3 := HH.out.kept K3
          obtain ⟨hb0, hb1⟩ := HH.out.inv.begin_ ht hc h7 (hop.ok hk8)
          have HO : Hid _ := And.intro H3 (And.intro O3 hb1)
          clear hd1 hd1a hd1b ca k3 K3 O3 H3 HH hx hb1
          go_wp2_with fail
          generalize (w3.alloc (.cells #[.int .i64 kind, .int .i64 key, .int .i64 val, .int .i64 old] 28)) = W3 at *
          refine (k_begin HO.out.1.k t kind key val old).mono ?_
          rintro e w4 ⟨rfl, h4, o4⟩
          rw [hb0]
          have A4 := o4.at_ _ _ _ HO.out.1.at_ (by decide) (by decide) (by decide) (by decide)
          have O4 := o4.at_ _ _ _ HO.out.2.1 (by decide) (by decide) (by decide) (by decide)
          have L4 := HO.out.1.l.off o4
          have g0 := HO.out.1.ga0
          have nOA : w3.heap.size ≠ w.heap.size := ne_of_blocks O4 A4 (by simp)
          have nOA' : w.heap.size ≠ w3.heap.size := Ne.symm nOA
          have ca4 : w4.cell? ⟨w.heap.size, t, none⟩ = some (.int .i64 (-1)) := by
            have := HO.out.1.cellAt ht
            rw [cell_of HO.out.1.at_, ← cell_of A4 t, hc] at this
            exact this
          have fa4 : ∀ o, w4.frozen? ⟨w.heap.size, o, none⟩ = false := frozen_of A4
          have co4 : ∀ o, w4.cell? ⟨w3.heap.size, o, none⟩ = #[Value.int .i64 kind, .int .i64 key, .int .i64 val, .int .i64 old][o]? := cell_of O4
          have zo4 := lt_of_block O4
          have za4 := lt_of_block A4
          have hund := HO.out.1.inv.und h.n (.inr (Nat.le_refl _))
          have A5 : (w4.setCell ⟨w.heap.size, t, none⟩ (.int .i64 h.n)).heap[w.heap.size]? = some (.cells #[.int .i64 (cv (put cur t (some h.n) 0)), .int .i64 (cv (put cur t (some h.n) 1)), .int .i64 (cv (put cur t (some h.n) 2))] 3 (0, 0)) := by
            have := block_set_same A4 t (.int .i64 h.n)
            rw [show (Value.int .i64 h.n) = .int .i64 (cv (some h.n)) from rfl, at_put cur ht (some h.n)] at this
            exact this
          have K5 := h4.set A4 g0 (by decide) (by decide) (by decide) (by decide) (by decide) t (.int .i64 h.n)
          have L5 := L4.set A4 (by decide) t (.int .i64 h.n)
          have HI := HO.out.2.2
          generalize (m.begin t kind key val old).2 = mb at *
          have H5 : Hid _ := And.intro A5 (And.intro K5 (And.intro L5 (And.intro HI (And.intro g0 hund))))
          clear A4 O4 L4 HO A5 K5 L5 HI g0 hund h4 o4 hb0
          obtain ⟨i0, hi0, hz0, hz1, hz2⟩ := info_parts info82'
          have hk1 : ((k : Int) + 1) = ((k + 1 : Nat) : Int) := by omega
          have K6 : Kept [] (w4.setCell ⟨w.heap.size, t, none⟩ (.int .i64 h.n)) ((w4.setCell ⟨w.heap.size, t, none⟩ (.int .i64 h.n)).alloc (.cells #[.int .i64 kind, .int .i64 key, .int .i64 val, .int .i64 old, .int .i64 (k + 1), .int .i64 0, .bool false, .bool false, .int .i64 0] 82)) := (Kept.refl [] _).alloc _
          have hzw : w0.heap.size ≤ w4.heap.size + 1 := by have := H5.out.2.1.kept.size; rw [size_setP] at this; omega
          obtain ⟨xs, cs, own, x1, x2, x3⟩ := (H5.out.2.2.1.kept K6).own
          have ROW : Hid _ := own
          have NB : Hid (((w4.setCell ⟨w.heap.size, t, none⟩ (.int .i64 h.n)).alloc (.cells #[.int .i64 kind, .int .i64 key, .int .i64 val, .int .i64 old, .int .i64 (k + 1), .int .i64 0, .bool false, .bool false, .int .i64 0] 82)).heap[w4.heap.size]? = some (.cells #[.int .i64 kind, .int .i64 key, .int .i64 val, .int .i64 old, .int .i64 (k + 1), .int .i64 0, .bool false, .bool false, .int .i64 0] 82 (0, 0))) := newBox (size_setP _ _ _) _
          have HXS : Hid _ := And.intro x1 (And.intro x2 (And.intro x3 (And.intro K6 hk1)))
          clear own x1 x2 x3 K6 hk1
          go_wp2_with (at_builtin; refine wpList_append_lies _ rfl _ _ _ rfl w0.heap.size 82 i0 _ 9 64 Try.underlying56 hi0 hz0 hz1 hz2 rfl (by omega) (.slice sl h.n lc) h.n xs rfl ROW.out ⟨w4.heap.size, 0, none⟩ 1 1 [.int .i64 kind, .int .i64 key, .int .i64 val, .int .i64 old, .int .i64 (k + 1), .int .i64 0, .bool false, .bool false, .int .i64 0] rfl rfl (World.news_of_block (cs := #[.int .i64 kind, .int .i64 key, .int .i64 val, .int .i64 old, .int .i64 (k + 1), .int .i64 0, .bool false, .bool false, .int .i64 0]) (t := 82) (fr := (0, 0)) NB.out) (by simp [Value.oneCell']) (by omega) (by unfold maxLen; omega) (by omega) (by simp; omega) (w4.heap.size + 1) (by simp) ?_; intro g cap w1 hown1 hgrow hat hlt1)
          have HN : Hid _ := HAt.append H5.out.2.2.2.1 (H5.out.2.1.keptNil HXS.out.2.2.2.1) (HXS.out.2.2.2.1.at H5.out.1 (by simp)) H5.out.2.2.2.2.1 (H5.out.2.2.1.kept HXS.out.2.2.2.1) H5.out.2.2.2.2.2 HXS.out.1 HXS.out.2.1 HXS.out.2.2.1 hgrow (by have := hown1; rw [HXS.out.2.2.2.2] at this; exact this)
          clear hown1 hgrow hat hlt1
          go_roundw
          case rel => exact ⟨k + 1, mb, _, _, by omega, by go_num, HN.out⟩
          case measure => simp [intOf]; omega
        · have h7' : ¬ (h.n : Int) < 7 := by omega
          go_wp2
          go_roundw
          case rel => exact ⟨k + 1, m, h, cur, by omega, by go_num, { HH.out with inv := HH.out.inv.later (by omega) }⟩
          case measure => simp [intOf]; omega
      | some c =>
        rw [hc] at ca0
        have ca : w2.cell? ⟨w.heap.size, t, none⟩ = some (.int .i64 c) := ca0
        clear ca0
        have cn : ¬ (c : Int) < 0 := by omega
        have hst := HH.out.inv.step_ ht hc
        obtain ⟨hcn, _⟩ := HH.out.inv.cur_ ht hc
        have HST : Hid _ := hst
        clear hst
        go_wp2_with fail
        refine (k_step HH.out.k t).mono ?_
        rintro e w4 ⟨rfl, h4, o4⟩
        have hst := HST.out
        clear HST
        generalize m.step t = z at *
        obtain ⟨zerr, ⟨zd, zf, zv, zm⟩⟩ := z
        simp only [ans] at hst h4 ⊢
        have K5 : Kept [] w4 (w4.alloc (.cells #[.bool zd, .bool zf, .int .i64 zv] 30)) := (Kept.refl [] w4).alloc _
        have HO : Hid _ := And.intro h4 (And.intro o4 K5)
        clear h4 o4 K5 ca hx
        rcases hst with ⟨rfl, hi⟩ | ⟨rfl, rfl, hi⟩ | ⟨rfl, rfl, hi⟩
        · have HN : Hid _ := (HH.out.off hi HO.out.1 HO.out.2.1).kept HO.out.2.2
          clear hi
          go_wp2
          go_roundw
          case rel => exact ⟨k + 1, _, _, _, by omega, by go_num, HN.out⟩
          case measure => simp [intOf]; omega
        · have HN : Hid _ := (HH.out.off hi HO.out.1 HO.out.2.1).kept HO.out.2.2
          clear hi
          go_wp2
          go_roundw
          case rel => exact ⟨k + 1, _, _, _, by omega, by go_num, HN.out⟩
          case measure => simp [intOf]; omega
        · have HI : Hid _ := hi
          clear hi
          have A4 := HO.out.2.1.at_ _ _ _ HH.out.at_ (by decide) (by decide) (by decide) (by decide)
          obtain ⟨g, cap, cs, e1, e2, e3, e4, e5, e6, e7⟩ : ∃ g cap cs, Value.slice sl h.n lc = .slice (some ⟨g, 0, none⟩) h.n cap ∧ w0.heap.size ≤ g ∧ w4.heap[g]? = some (.cells cs 82 (0, 0)) ∧ h.n ≤ cap ∧ cap ≤ maxLen ∧ cs.size = cap * 9 ∧ Cells9 cs h := by
            rcases (HH.out.l.off HO.out.2.1).at_ with ⟨_, e⟩ | q
            · omega
            · exact q
          simp only [Value.slice.injEq, true_and] at e1
          obtain ⟨rfl, rfl⟩ := e1
          have HN : Hid _ := HAt.fin HI.out HO.out.1 (by omega) A4 HH.out.ga0 ht hcn e2 e3 e4 e5 e6 e7
          have za := lt_of_block A4
          have zg := lt_of_block e3
          have ca4 : w4.cell? ⟨w.heap.size, t, none⟩ = some (.int .i64 c) := by
            have := HH.out.cellAt ht
            rw [cell_of HH.out.at_, ← cell_of A4 t, hc] at this
            exact this
          have fa4 : ∀ o, w4.frozen? ⟨w.heap.size, o, none⟩ = false := frozen_of A4
          have fg4 : ∀ o, w4.frozen? ⟨g, o, none⟩ = false := frozen_of e3
          obtain ⟨_, _, _, _, _, q5, q6, q7, q8⟩ := e7 c hcn
          rw [← cell_of e3] at q5 q6 q7 q8
          have nga : g ≠ w.heap.size := ne_of_blocks e3 A4 (by simp)
          have nga' := Ne.symm nga
          have hcn' : (c : Int) < h.n := by omega
          have hct : ((c : Int)).toNat = c := by simp
          clear A4 e2 e3 e4 e5 e6 e7 HO
          go_wp2_with fail
          go_region_held3 (fun W => W.cell? ⟨w.heap.size, t, none⟩ = some (.int .i64 c) ∧ (∀ o, W.cell? ⟨w4.heap.size, o, none⟩ = #[Value.bool true, .bool zf, .int .i64 zv][o]?)) (refine ⟨?_, fun o => ?_⟩ <;> go_simp) (fail)
          go_wp2
          go_roundw
          case rel => exact ⟨k + 1, zm, _, _, by omega, by go_num, HN.out.kept (((Kept.refl [] _).alloc _).drew)⟩
          case measure => simp [intOf]; omega
    · have hlt' : ¬ (k : Int) < n := by omega
      have HH : Hid _ := hH
      clear hH
      go_wp2
      exact bodyPost_ret (v := .tuple #[u8, .bool true]) (by simp [results, Try.results20, go_sem]) rfl ⟨_, _, _, _, _, _, rfl, HH.out⟩
end Go.Proofs.Ytmnkphenobfbfaa
