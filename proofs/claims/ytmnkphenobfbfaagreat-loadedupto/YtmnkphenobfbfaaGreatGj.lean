import Derived.Test.YtmnkphenobfbfaaGreatGi
import Derived.Deep.AppendLies
import Derived.ArgAppend
import Derived.Test.YtmnkphenobfbfaaGreatGc
namespace Go.Proofs.YtmnkphenobfbfaaGreat
open Go.RowKit
/-- n entries with the mark m. -/
def marks (m : Int) : Nat → List Value
  | 0 => []
  | n + 1 => .int .i64 m :: .int .i64 0 :: .int .i64 0 :: marks m n
theorem marks_length (m : Int) (n : Nat) : (marks m n).length = n * 3 := by
  induction n with
  | zero => rfl
  | succ n ih => simp [marks, ih]; omega
theorem marks_add (m : Int) (n k : Nat) : marks m n ++ marks m k = marks m (n + k) := by
  induction n with
  | zero => simp [marks]
  | succ n ih => rw [Nat.add_right_comm]; simp [marks, ih]
theorem marks_at (m : Int) (n i : Nat) (h : i < n) : (marks m n)[i * 3]? = some (.int .i64 m) ∧ (marks m n)[i * 3 + 1]? = some (.int .i64 0) ∧ (marks m n)[i * 3 + 2]? = some (.int .i64 0) := by
  induction n generalizing i with
  | zero => omega
  | succ n ih =>
    cases i with
    | zero => simp [marks]
    | succ i =>
      have := ih i (by omega)
      have e : (i + 1) * 3 = i * 3 + 3 := by omega
      simpa [marks, e] using this
/-- A list that its owner has written full with the mark m. -/
structure Good (w : World) (x : Value) (m : Int) : Prop where
  good : ∃ (g n cap : Nat) (cs : Array Value), x = .slice (some ⟨g, 0, none⟩) n cap ∧ n ≤ 1000 ∧ w.heap[g]? = some (.cells cs 84 (0, 0)) ∧ cs.toList.take (n * 3) = marks m n
theorem Good.kept {F : List Nat} {w w' : World} {x : Value} {m : Int} (h : Good w x m) (k : Kept F w w') (hF : ∀ y, y ∈ F → ∀ cs, w.heap[y]? ≠ some (.cells cs 84 (0, 0))) : Good w' x m := by
  obtain ⟨g, n, cap, cs, h1, h2, h3, h4⟩ := h.good
  exact ⟨g, n, cap, cs, h1, h2, k.at h3 (fun hm => hF g hm cs h3), h4⟩
set_option maxRecDepth 100000 in
set_option maxHeartbeats 1600000 in
theorem full_yes (x : Value) (m : Int) (w : World) (h : Good w x m) : Calls Tryz.prog 42 #[x, .int .i64 m] w fun e w' => e = .returned (.bool true) ∧ w' = w := by
  obtain ⟨g, n, cap, cs, rfl, hn, hb, hm⟩ := h.good
  have cell : ∀ i, i < n → w.cell? ⟨g, i * 3, none⟩ = some (.int .i64 m) ∧ w.cell? ⟨g, i * 3 + 1, none⟩ = some (.int .i64 0) ∧ w.cell? ⟨g, i * 3 + 2, none⟩ = some (.int .i64 0) := by
    intro i hi
    have hat := marks_at m n i hi
    rw [← hm] at hat
    simp only [List.getElem?_take, Array.getElem?_toList] at hat
    rw [if_pos (by omega), if_pos (by omega), if_pos (by omega)] at hat
    rw [cell_of hb, cell_of hb, cell_of hb]
    exact hat
  have HC : Hid _ := cell
  clear cell hm h hb
  go_enter Tryz.func42, Tryz.ntmps42
  go_wp2
  go_loop [5] (fun i => ∃ k : Nat, k ≤ n ∧ i = .int .i64 k) (fun i => n - (intOf i).toNat)
  case atStart => exact ⟨0, by omega, rfl⟩
  case round =>
    obtain ⟨k, hk, rfl⟩ := hrel
    by_cases hlt : k < n
    · obtain ⟨c0, c1, c2⟩ := HC.out k hlt
      have hlt' : (k : Int) < n := by omega
      go_wp2
      go_round
      case rel => exact ⟨k + 1, by omega, by go_num⟩
      case measure => simp [intOf]; omega
    · go_wp2
      go_ret
      exact ⟨rfl, rfl⟩
set_option maxHeartbeats 400000 in
theorem pick_one (c : Int) (w : World) : Calls Tryz.prog 40 #[.int .i64 c, .int .i64 1] w fun e w' => e = .returned (.int .i64 0) ∧ w' = w := by
  by_cases h : c < 0
  · go_enter Tryz.func40, Tryz.ntmps40
    go_wp2
    go_ret
    exact ⟨by simp, rfl⟩
  · go_enter Tryz.func40, Tryz.ntmps40
    go_wp2
    go_ret
    exact ⟨by simp, rfl⟩
end Go.Proofs.YtmnkphenobfbfaaGreat
namespace Go.Proofs.YtmnkphenobfbfaaGreat
open Go.RowKit
/-- The lists that came out, and what they were grown to. -/
structure LAt (B : Nat) (ls l3 : Value) (L : Nat) (xs ys : List Value) (w : World) : Prop where
  row : w.ownsRow B 25 1 ls L xs
  row3 : w.ownsRow B 25 1 l3 (3 * L) ys
  apart : ∀ g, ls.ownBlock = some g → l3.ownBlock ≠ some g
  good : ∀ (k : Nat) (x : Value), xs[k]? = some x → Good w x (-1 - k)
  good3 : ∀ (k : Nat) (y : Value), ys[k]? = some y → Good w y (-1 - (k / 3 : Nat))
theorem row_cell {w : World} {B e n : Nat} {v : Value} {xs : List Value} (h : w.ownsRow B e 1 v n xs) {k : Nat} (hk : k < n) :
    ∃ g cap x, v = .slice (some ⟨g, 0, none⟩) n cap ∧ n ≤ cap ∧ w.cell? ⟨g, k, none⟩ = some x ∧ xs[k]? = some x := by
  rcases h.2 with ⟨_, h0⟩ | ⟨g, cap, cur, rfl, _, hg, hc, _, hs, ht⟩
  · omega
  · have hx : xs[k]? = some (xs[k]'(by rw [h.1]; omega)) := List.getElem?_eq_getElem _
    refine ⟨g, cap, _, rfl, hc, ?_, hx⟩
    rw [cell_of hg, ← hx, ← ht]
    simp only [Nat.mul_one, List.getElem?_take, Array.getElem?_toList]
    rw [if_pos hk]
set_option maxRecDepth 100000 in
set_option maxHeartbeats 3200000 in
theorem looks_yes (wb B L : Nat) (ps ls l3 : Value) (xs ys : List Value) (w : World) (hb : w.heap[wb]? = some (.cells #[ps, ls, l3] 64 (0, 0))) (h : LAt B ls l3 L xs ys w) (hL : L ≤ 4000000) :
    Calls Tryz.prog 22 #[.pointer (some ⟨wb, 0, none⟩)] w fun e w' => e = .returned (.bool true) ∧ w' = w := by
  have d1 : w.cell? ⟨wb, 1, none⟩ = some ls := cell_of hb 1
  have d2 : w.cell? ⟨wb, 2, none⟩ = some l3 := cell_of hb 2
  have HH : Hid _ := h
  have shape : ∃ a1 n1 c1, ls = .slice a1 L c1 ∧ n1 = L := by
    rcases h.row.2 with ⟨rfl, rfl⟩ | ⟨g, cap, cur, rfl, _⟩
    · exact ⟨_, _, _, rfl, rfl⟩
    · exact ⟨_, _, _, rfl, rfl⟩
  obtain ⟨a1, _, c1, hls, _⟩ := shape
  clear h hb
  by_cases h0 : L = 0
  · subst h0
    subst hls
    go_enter Tryz.func22, Tryz.ntmps22
    go_wp2
    go_loop [3] (fun i => i = .int .i64 0) (fun _ => 0)
    case atStart => rfl
    case round =>
      subst hrel
      go_wp2
      go_ret
      exact ⟨rfl, rfl⟩
  · obtain ⟨g1, cap1, x0, e1, hc1, _, _⟩ := row_cell HH.out.row (k := 0) (by omega)
    obtain ⟨g3, cap3, y0, e3, hc3, _, _⟩ := row_cell HH.out.row3 (k := 0) (by omega)
    subst e1
    subst e3
    clear hls
    go_enter Tryz.func22, Tryz.ntmps22
    go_wp2
    go_loop [3] (fun i => ∃ k : Nat, k ≤ L ∧ i = .int .i64 k) (fun i => L - (intOf i).toNat)
    case atStart => exact ⟨0, by omega, rfl⟩
    case round =>
      obtain ⟨k, hk, rfl⟩ := hrel
      by_cases hlt : k < L
      · obtain ⟨_, _, x, e, _, q1, p1⟩ := row_cell HH.out.row (k := k) (by omega)
        cases e
        obtain ⟨_, _, y, e, _, q2, p2⟩ := row_cell HH.out.row3 (k := 3 * k) (by omega)
        cases e
        obtain ⟨_, _, z, e, _, q3, p3⟩ := row_cell HH.out.row3 (k := 3 * k + 1) (by omega)
        cases e
        obtain ⟨_, _, u, e, _, q4, p4⟩ := row_cell HH.out.row3 (k := 3 * k + 2) (by omega)
        cases e
        have G1 := HH.out.good k x p1
        have G2 := HH.out.good3 (3 * k) y p2
        have G3 := HH.out.good3 (3 * k + 1) z p3
        have G4 := HH.out.good3 (3 * k + 2) u p4
        rw [show 3 * k / 3 = k by omega] at G2
        rw [show (3 * k + 1) / 3 = k by omega] at G3
        rw [show (3 * k + 2) / 3 = k by omega] at G4
        have b1 : (k : Int) < L := by omega
        have b2 : (3 * k : Int) < (3 * L : Nat) := by omega
        have b3 : (3 * k + 1 : Int) < (3 * L : Nat) := by omega
        have b4 : (3 * k + 2 : Int) < (3 * L : Nat) := by omega
        have b5 : (k : Int) ≤ 4000000 := by omega
        clear p1 p2 p3 p4
        go_wp2_with fail
        refine (full_yes x _ w G1).mono ?_
        rintro e w1 ⟨rfl, rfl⟩
        go_wp2_with fail
        refine (full_yes y _ w1 G2).mono ?_
        rintro e w1 ⟨rfl, rfl⟩
        go_wp2_with fail
        refine (full_yes z _ w1 G3).mono ?_
        rintro e w1 ⟨rfl, rfl⟩
        go_wp2_with fail
        refine (full_yes u _ w1 G4).mono ?_
        rintro e w1 ⟨rfl, rfl⟩
        go_wp2
        go_round
        case rel => exact ⟨k + 1, by omega, by go_num⟩
        case measure => simp [intOf]; omega
      · go_wp2
        go_ret
        exact ⟨rfl, rfl⟩
end Go.Proofs.YtmnkphenobfbfaaGreat
namespace Go.Proofs.YtmnkphenobfbfaaGreat
open Go.RowKit
theorem info84' : (Tryz.prog.info? 84).map (fun i => (i.zero, i.size, i.bytes)) = some (some (.agg #[.int .i64 0, .int .i64 0, .int .i64 0]), 3, 24) := by kernel_rfl
theorem info25 : (Tryz.prog.info? 25).map (fun i => (i.zero, i.size, i.bytes)) = some (some (.slice none 0 0), 1, 24) := by kernel_rfl
theorem own_lt {w : World} {B n : Nat} {sl : Value} {zs : List Value} (h : w.ownsRow B 25 1 sl n zs) {b : Nat} (hb : sl.ownBlock = some b) : ∃ cs, w.heap[b]? = some (.cells cs 25 (0, 0)) ∧ B ≤ b := by
  rcases h.2 with ⟨rfl, _⟩ | ⟨g, cap, cur, rfl, hg, hh, _⟩
  · simp [Value.ownBlock] at hb
  · simp only [Value.ownBlock, Option.some.injEq] at hb
    subst hb
    exact ⟨cur, hh, hg⟩
theorem rowStep {wb B n fld : Nat} {cells : Array Value} {sl v : Value} {zs : List Value} {Wc w1 : World} {g cap : Nat} {X : Obj} (hwb : Wc.heap[wb]? = some (.cells cells 64 (0, 0))) (hrow : Wc.ownsRow B 25 1 sl n zs)
    (hown : w1.ownsRow B 25 1 (.slice (some ⟨g, 0, none⟩) (n + 1) cap) (n + 1) (zs ++ [v])) (hgrow : (Wc.alloc X).grownBy w1 sl.ownBlock) :
    (w1.setCell ⟨wb, fld, none⟩ (.slice (some ⟨g, 0, none⟩) (n + 1) cap)).heap[wb]? = some (.cells (cells.setIfInBounds fld (.slice (some ⟨g, 0, none⟩) (n + 1) cap)) 64 (0, 0)) ∧
    (w1.setCell ⟨wb, fld, none⟩ (.slice (some ⟨g, 0, none⟩) (n + 1) cap)).ownsRow B 25 1 (.slice (some ⟨g, 0, none⟩) (n + 1) cap) (n + 1) (zs ++ [v]) ∧
    Kept (wb :: sl.ownBlock.toList) Wc (w1.setCell ⟨wb, fld, none⟩ (.slice (some ⟨g, 0, none⟩) (n + 1) cap)) := by
  have zb := lt_of_block hwb
  have hne : sl.ownBlock ≠ some wb := by
    intro e
    obtain ⟨cs, h1, _⟩ := own_lt hrow e
    have := Option.some.inj (h1.symm.trans hwb)
    simp at this
  have hw1 : w1.heap[wb]? = some (.cells cells 64 (0, 0)) := (hgrow.block wb (by simp; omega) (Ne.symm hne)).trans (block_alloc_lt hwb _)
  have k1 : Kept (wb :: sl.ownBlock.toList) Wc w1 := by
    refine ⟨hgrow.os, hgrow.tape, hgrow.output, ?_, fun b hb hf => ?_⟩
    · have := hgrow.size; simp at this; omega
    · refine (hgrow.block b (by simp; omega) (fun e => hf ?_)).trans (Below.heap_alloc _ _ _ hb)
      rw [← e]
      simp
  refine ⟨block_set_same hw1 _ _, ⟨hown.1, ?_⟩, k1.setCell (.inl (by simp)) _⟩
  rcases hown.2 with ⟨_, h0⟩ | ⟨g', cap', cur, e1, e2, e3, e4⟩
  · omega
  · refine .inr ⟨g', cap', cur, e1, e2, block_set_ne e3 ?_ _ _, e4⟩
    exact ne_of_blocks e3 hw1 (by simp)
theorem ownsRow.kept {w w' : World} {B n : Nat} {sl : Value} {zs : List Value} (h : w.ownsRow B 25 1 sl n zs) (k : Kept [] w w') : w'.ownsRow B 25 1 sl n zs := by
  refine ⟨h.1, ?_⟩
  rcases h.2 with h2 | ⟨g, cap, cur, a1, a2, a3, a4⟩
  · exact .inl h2
  · exact .inr ⟨g, cap, cur, a1, a2, k.at a3 (by simp), a4⟩
theorem ownsRow.keptF {w w' : World} {B n : Nat} {sl : Value} {zs : List Value} {F : List Nat} (h : w.ownsRow B 25 1 sl n zs) (k : Kept F w w') (hF : ∀ g, sl.ownBlock = some g → g ∉ F) : w'.ownsRow B 25 1 sl n zs := by
  refine ⟨h.1, ?_⟩
  rcases h.2 with h2 | ⟨g, cap, cur, a1, a2, a3, a4⟩
  · exact .inl h2
  · exact .inr ⟨g, cap, cur, a1, a2, k.at a3 (hF g (by rw [a1]; rfl)), a4⟩
/-- The two rows of a World. -/
structure Ph (wb B : Nat) (ps a c : Value) (na nc : Nat) (xa xc : List Value) (w : World) : Prop where
  b : w.heap[wb]? = some (.cells #[ps, a, c] 64 (0, 0))
  ra : w.ownsRow B 25 1 a na xa
  rc : w.ownsRow B 25 1 c nc xc
  ap : ∀ g, a.ownBlock = some g → c.ownBlock ≠ some g
/-- What the walk of a row's growth keeps. -/
structure Went (wb : Nat) (old new : Value) (w w' : World) : Prop where
  own : ∀ g, new.ownBlock = some g → old.ownBlock = some g ∨ w.heap.size ≤ g
  good : ∀ x m, Good w x m → Good w' x m
  kept : Kept (wb :: old.ownBlock.toList) w w'
theorem Ph.keptNil {wb B : Nat} {ps a c : Value} {na nc : Nat} {xa xc : List Value} {w w' : World} (h : Ph wb B ps a c na nc xa xc w) (k : Kept [] w w') : Ph wb B ps a c na nc xa xc w' :=
  ⟨k.at h.b (by simp), ownsRow.kept h.ra k, ownsRow.kept h.rc k, h.ap⟩
theorem rowBlock {wb B n : Nat} {cells : Array Value} {sl : Value} {zs : List Value} {w : World} (hb : w.heap[wb]? = some (.cells cells 64 (0, 0))) (h : w.ownsRow B 25 1 sl n zs) : sl.ownBlock ≠ some wb := fun e => by
  obtain ⟨cs, h1, _⟩ := own_lt h e
  have := Option.some.inj (h1.symm.trans hb)
  simp at this
theorem went_good {wb B n : Nat} {cells : Array Value} {sl : Value} {zs : List Value} {w w' : World} (hb : w.heap[wb]? = some (.cells cells 64 (0, 0))) (h : w.ownsRow B 25 1 sl n zs) (k : Kept (wb :: sl.ownBlock.toList) w w') : ∀ x m, Good w x m → Good w' x m := by
  intro x m hg
  refine hg.kept k (fun y hy cs he => ?_)
  rcases List.mem_cons.1 hy with rfl | hy
  · have := Option.some.inj (he.symm.trans hb); simp at this
  · simp at hy
    obtain ⟨cs', h1, _⟩ := own_lt h hy
    have := Option.some.inj (he.symm.trans h1); simp at this
theorem Ph.stepA {wb B : Nat} {ps a c v : Value} {na nc : Nat} {xa xc : List Value} {W w1 : World} {g cap : Nat} {X : Obj} (h : Ph wb B ps a c na nc xa xc W)
    (hown : w1.ownsRow B 25 1 (.slice (some ⟨g, 0, none⟩) (na + 1) cap) (na + 1) (xa ++ [v])) (hgrow : (W.alloc X).grownBy w1 a.ownBlock) (hat : a.ownBlock = some g ∨ g = W.heap.size + 1) :
    Ph wb B ps (.slice (some ⟨g, 0, none⟩) (na + 1) cap) c (na + 1) nc (xa ++ [v]) xc (w1.setCell ⟨wb, 1, none⟩ (.slice (some ⟨g, 0, none⟩) (na + 1) cap)) ∧
    Went wb a (.slice (some ⟨g, 0, none⟩) (na + 1) cap) W (w1.setCell ⟨wb, 1, none⟩ (.slice (some ⟨g, 0, none⟩) (na + 1) cap)) := by
  obtain ⟨r1, r2, r3⟩ := rowStep (fld := 1) h.b h.ra hown hgrow
  refine ⟨⟨r1, r2, ownsRow.keptF h.rc r3 (fun y hy hm => ?_), fun y hy hc => ?_⟩, ⟨fun y hy => ?_, went_good h.b h.ra r3, r3⟩⟩
  · rcases List.mem_cons.1 hm with rfl | hm
    · exact rowBlock h.b h.rc hy
    · simp at hm
      exact h.ap y hm hy
  · simp only [Value.ownBlock, Option.some.injEq] at hy
    subst hy
    rcases hat with hat | hat
    · exact h.ap g hat hc
    · obtain ⟨cs, h1, _⟩ := own_lt h.rc hc
      have := lt_of_block h1
      omega
  · simp only [Value.ownBlock, Option.some.injEq] at hy
    subst hy
    rcases hat with hat | hat
    · exact .inl hat
    · exact .inr (by omega)
theorem Ph.stepC {wb B : Nat} {ps a c v : Value} {na nc : Nat} {xa xc : List Value} {W w1 : World} {g cap : Nat} {X : Obj} (h : Ph wb B ps a c na nc xa xc W)
    (hown : w1.ownsRow B 25 1 (.slice (some ⟨g, 0, none⟩) (nc + 1) cap) (nc + 1) (xc ++ [v])) (hgrow : (W.alloc X).grownBy w1 c.ownBlock) (hat : c.ownBlock = some g ∨ g = W.heap.size + 1) :
    Ph wb B ps a (.slice (some ⟨g, 0, none⟩) (nc + 1) cap) na (nc + 1) xa (xc ++ [v]) (w1.setCell ⟨wb, 2, none⟩ (.slice (some ⟨g, 0, none⟩) (nc + 1) cap)) ∧
    Went wb c (.slice (some ⟨g, 0, none⟩) (nc + 1) cap) W (w1.setCell ⟨wb, 2, none⟩ (.slice (some ⟨g, 0, none⟩) (nc + 1) cap)) := by
  obtain ⟨r1, r2, r3⟩ := rowStep (fld := 2) h.b h.rc hown hgrow
  refine ⟨⟨r1, ownsRow.keptF h.ra r3 (fun y hy hm => ?_), r2, fun y hy hc => ?_⟩, ⟨fun y hy => ?_, went_good h.b h.rc r3, r3⟩⟩
  · rcases List.mem_cons.1 hm with rfl | hm
    · exact rowBlock h.b h.ra hy
    · simp at hm
      exact h.ap y hy hm
  · simp only [Value.ownBlock, Option.some.injEq] at hc
    subst hc
    rcases hat with hat | hat
    · exact h.ap g hy hat
    · obtain ⟨cs, h1, _⟩ := own_lt h.ra hy
      have := lt_of_block h1
      omega
  · simp only [Value.ownBlock, Option.some.injEq] at hy
    subst hy
    rcases hat with hat | hat
    · exact .inl hat
    · exact .inr (by omega)
structure Took (wb B L b : Nat) (ps ls l3 : Value) (xs : List Value) (w w' : World) : Prop where
  out : ∃ ls' l3' ys', w'.heap[wb]? = some (.cells #[ps, ls', l3'] 64 (0, 0)) ∧ LAt B ls' l3' (L + 1) (xs ++ [.slice (some ⟨b, 0, none⟩) 0 0]) ys' w' ∧ Kept (wb :: (ls.ownBlock.toList ++ l3.ownBlock.toList)) w w'
theorem news1 (w : World) (v : Value) (t : TypeId) : ∀ j u, [v][j]? = some u → (w.alloc (.cells #[v] t)).cell? ((⟨w.heap.size, 0, none⟩ : Addr).add j) = some u :=
  World.news_of_block (cs := #[v]) (t := t) (fr := (0, 0)) (block_alloc_new w _)
set_option maxRecDepth 100000 in
set_option maxHeartbeats 3200000 in
theorem takes_any (wb B L b : Nat) (ps ls l3 : Value) (xs ys : List Value) (w : World) (hb : w.heap[wb]? = some (.cells #[ps, ls, l3] 64 (0, 0))) (h : LAt B ls l3 L xs ys w) (hL : L ≤ 4000000) (hB : B ≤ w.heap.size)
    (hl : w.heap[b]? = some (.cells #[] 84 (0, 0))) :
    Calls Tryz.prog 41 #[.pointer (some ⟨wb, 0, none⟩), .slice (some ⟨b, 0, none⟩) 0 0] w fun e w' => e = .returned (.tuple #[]) ∧ Took wb B L b ps ls l3 xs w w' := by
  obtain ⟨i0, hi0, hz0, hz1, hz2⟩ := info_parts info84'
  obtain ⟨i1, hi1, hy0, hy1, hy2⟩ := info_parts info25
  have d1 : w.cell? ⟨wb, 1, none⟩ = some ls := cell_of hb 1
  have zb := lt_of_block hb
  have HH : Hid _ := h
  have shape : ∃ a1 n1 c1, ls = .slice a1 L c1 ∧ n1 = L := by
    rcases h.row.2 with ⟨rfl, rfl⟩ | ⟨g, cap, cur, rfl, _⟩
    · exact ⟨_, _, _, rfl, rfl⟩
    · exact ⟨_, _, _, rfl, rfl⟩
  obtain ⟨a1, _, c1, hls, _⟩ := shape
  have HS : Hid _ := hls
  rw [hls] at d1
  have bL : (L : Int) ≤ 4000000 := by omega
  clear h hls
  go_enter Tryz.func41, Tryz.ntmps41
  go_wp2
  go_loop [5] (fun i => i = .int .i64 0) (fun _ => 0)
  case atStart => rfl
  case round =>
    subst hrel
    have hM : (w.alloc (.cells #[.int .i64 (-1 - L), .int .i64 0, .int .i64 0] 84)).heap[w.heap.size]? = some (.cells #[.int .i64 (-1 - L), .int .i64 0, .int .i64 0] 84 (0, 0)) := block_alloc_new _ _
    have K0 : Kept [] w (w.alloc (.cells #[.int .i64 (-1 - L), .int .i64 0, .int .i64 0] 84)) := (Kept.refl [] w).alloc _
    generalize (w.alloc (.cells #[.int .i64 (-1 - L), .int .i64 0, .int .i64 0] 84)) = W0 at *
    have cM : ∀ o, W0.cell? ⟨w.heap.size, o, none⟩ = #[.int .i64 (-1 - L), .int .i64 0, .int .i64 0][o]? := cell_of hM
    have zM := lt_of_block hM
    have HB : Hid _ := hb
    clear d1 hb
    go_upto_region 5 with (fail)
    go_cut [6] (fun x w' => Good w' x (-1 - L) ∧ (∃ g, x.ownBlock = some g ∧ W0.heap.size ≤ g) ∧ Kept [] W0 w')
    case first =>
      go_wp2
      go_meet
      exact ⟨⟨⟨_, 1, _, _, rfl, by omega, three2 W0 _ _, by simp [marks]⟩⟩, ⟨_, rfl, Nat.le_succ _⟩, (((Kept.refl [] W0).alloc _).alloc _).drew⟩
    case rest =>
      obtain ⟨G1, ⟨g1, o1, z1⟩, k1⟩ := hcut
      replace hM := k1.at hM (by simp)
      replace K0 := K0.trans k1
      clear cM zM k1
      have cM : ∀ o, wc.cell? ⟨w.heap.size, o, none⟩ = #[.int .i64 (-1 - L), .int .i64 0, .int .i64 0][o]? := cell_of hM
      have zM := lt_of_block hM
      have O1 : Hid _ := o1
      clear o1
      go_upto_region 6 with (fail)
      go_cut [7] (fun x w' => Good w' x (-1 - L) ∧ (∃ g, x.ownBlock = some g ∧ wc.heap.size ≤ g) ∧ Kept [] wc w')
      case first =>
        go_wp2
        go_meet
        exact ⟨⟨⟨_, 2, _, _, rfl, by omega, three2 wc _ _, by simp [marks]⟩⟩, ⟨_, rfl, Nat.le_succ _⟩, (((Kept.refl [] wc).alloc _).alloc _).drew⟩
      case rest =>
        obtain ⟨G2, ⟨g2, o2, z2⟩, k1⟩ := hcut
        replace hM := k1.at hM (by simp)
        replace K0 := K0.trans k1
        replace G1 := G1.kept k1 (by simp)
        clear cM zM k1
        have cM : ∀ o, wc.cell? ⟨w.heap.size, o, none⟩ = #[.int .i64 (-1 - L), .int .i64 0, .int .i64 0][o]? := cell_of hM
        have zM := lt_of_block hM
        have O2 : Hid _ := o2
        clear o2
        go_upto_region 7 with (fail)
        go_cut [8] (fun x w' => Good w' x (-1 - L) ∧ (∃ g, x.ownBlock = some g ∧ wc.heap.size ≤ g) ∧ Kept [] wc w')
        case first =>
          go_wp2
          go_meet
          exact ⟨⟨⟨_, 3, _, _, rfl, by omega, three2 wc _ _, by simp [marks]⟩⟩, ⟨_, rfl, Nat.le_succ _⟩, (((Kept.refl [] wc).alloc _).alloc _).drew⟩
        case rest =>
          obtain ⟨G3, ⟨g3, o3, z3⟩, k1⟩ := hcut
          replace hM := k1.at hM (by simp)
          replace K0 := K0.trans k1
          replace G1 := G1.kept k1 (by simp)
          replace G2 := G2.kept k1 (by simp)
          clear cM zM k1
          have O3 : Hid _ := o3
          clear o3
          have hP : Ph wb B ps ls l3 L (3 * L) xs ys wc := ⟨K0.at HB.out (by simp), ownsRow.kept HH.out.row K0, ownsRow.kept HH.out.row3 K0, HH.out.apart⟩
          have GG : Hid (∀ (k : Nat) (x : Value), xs[k]? = some x → Good wc x (-1 - k)) := fun k x hk => (HH.out.good k x hk).kept K0 (by simp)
          have GH : Hid (∀ (k : Nat) (y : Value), ys[k]? = some y → Good wc y (-1 - (k / 3 : Nat))) := fun k y hk => (HH.out.good3 k y hk).kept K0 (by simp)
          have GL : Good wc (.slice (some ⟨b, 0, none⟩) 0 0) (-1 - L) := ⟨b, 0, 0, #[], rfl, by omega, K0.at hl (by simp), by simp [marks]⟩
          have hsz := K0.size
          have KK : Hid (Kept (wb :: (ls.ownBlock.toList ++ l3.ownBlock.toList)) w wc) := K0.mono (by simp)
          clear K0 hM HH HB hl O1 O2 O3
          have hb1 := hP.b
          have d1 : wc.cell? ⟨wb, 1, none⟩ = some ls := cell_of hb1 1
          have zb1 := lt_of_block hb1
          have om := rowBlock hb1 hP.ra
          have HP : Hid _ := hP
          have kB := hsz
          clear hP
          go_upto_region 8 with (fail)
          go_cut [] (fun w' => ∃ ls', Ph wb B ps ls' l3 (L + 1) (3 * L) (xs ++ [.slice (some ⟨b, 0, none⟩) 0 0]) ys w' ∧ Went wb ls ls' wc w')
          case first =>
            go_wp2_with (at_builtin; go_must (refine wpList_append_lies _ rfl _ _ _ rfl B 25 i1 _ 1 24 Tryz.underlying62 hi1 hy0 hy1 hy2 rfl (by omega) ls L xs rfl (HP.out.keptNil ((Kept.refl [] wc).alloc _)).ra ⟨wc.heap.size, 0, none⟩ 1 1 [.slice (some ⟨b, 0, none⟩) 0 0] rfl rfl (news1 wc _ 25) (by simp [Value.oneCell']) (by omega) (by unfold maxLen; omega) (by omega) (by simp; omega) (wc.heap.size + 1) (by simp) ?_); intro g cap w1 hown1 hgrow hat hlt1; have hm1 := (hgrow.block wb (by simp; omega) (Ne.symm om)).trans (block_alloc_lt hb1 _); have s4 := cell_of hm1 1; have sf := frozen_of hm1 1)
            go_meet
            exact ⟨_, HP.out.stepA hown1 hgrow hat⟩
          case rest =>
            obtain ⟨ls', hP, hW⟩ := hcut
            replace GG : Hid _ := fun (k : Nat) (x : Value) hk => hW.good _ _ (GG.out k x hk)
            replace GH : Hid _ := fun (k : Nat) (y : Value) hk => hW.good _ _ (GH.out k y hk)
            replace GL := hW.good _ _ GL
            replace G1 := hW.good _ _ G1
            replace G2 := hW.good _ _ G2
            replace G3 := hW.good _ _ G3
            have W1 : Hid _ := hW.own
            replace KK : Hid (Kept (wb :: (ls.ownBlock.toList ++ l3.ownBlock.toList)) w wc) := KK.out.drop hW.kept (fun x hx hlt => by simp at hx ⊢; rcases hx with hx | hx; exact .inl hx; exact .inr (.inl hx))
            replace hsz := Nat.le_trans hsz hW.kept.size
            clear W1 hW HP d1 om hb1 zb1
            have hb1 := hP.b
            have d1 : wc.cell? ⟨wb, 2, none⟩ = some l3 := cell_of hb1 2
            have zb1 := lt_of_block hb1
            have om := rowBlock hb1 hP.rc
            obtain ⟨q0, r0, t0, v0, rfl, _⟩ := G1.good
            have HP : Hid _ := hP
            clear hP
            go_upto_region 9 with (fail)
            go_cut [] (fun w' => ∃ c', Ph wb B ps ls' c' (L + 1) (3 * L + 1) (xs ++ [.slice (some ⟨b, 0, none⟩) 0 0]) (ys ++ [.slice (some ⟨q0, 0, none⟩) r0 t0]) w' ∧ Went wb l3 c' wc w')
            case first =>
              go_wp2_with (at_builtin; go_must (refine wpList_append_lies _ rfl _ _ _ rfl B 25 i1 _ 1 24 Tryz.underlying62 hi1 hy0 hy1 hy2 rfl (by omega) l3 (3 * L) (ys) rfl (HP.out.keptNil ((Kept.refl [] wc).alloc _)).rc ⟨wc.heap.size, 0, none⟩ 1 1 [.slice (some ⟨q0, 0, none⟩) r0 t0] rfl rfl (news1 wc _ 25) (by simp [Value.oneCell']) (by omega) (by unfold maxLen; omega) (by omega) (by simp; omega) (wc.heap.size + 1) (by simp) ?_); intro g cap w1 hown1 hgrow hat hlt1; have hm1 := (hgrow.block wb (by simp; omega) (Ne.symm om)).trans (block_alloc_lt hb1 _); have s4 := cell_of hm1 2; have sf := frozen_of hm1 2)
              go_meet
              exact ⟨_, HP.out.stepC hown1 hgrow hat⟩
            case rest =>
              obtain ⟨m1, hP, hW⟩ := hcut
              replace GG : Hid _ := fun (k : Nat) (x : Value) hk => hW.good _ _ (GG.out k x hk)
              replace GH : Hid _ := fun (k : Nat) (y : Value) hk => hW.good _ _ (GH.out k y hk)
              replace GL := hW.good _ _ GL
              replace G1 := hW.good _ _ G1
              replace G2 := hW.good _ _ G2
              replace G3 := hW.good _ _ G3
              replace KK : Hid (Kept (wb :: (ls.ownBlock.toList ++ l3.ownBlock.toList)) w wc) := KK.out.drop hW.kept (fun x hx hlt => by simp at hx ⊢; rcases hx with hx | hx; exact .inl hx; exact .inr (.inr hx))
              have W2 : Hid (∀ g, m1.ownBlock = some g → l3.ownBlock = some g ∨ w.heap.size ≤ g) := fun g hg => by
                rcases hW.own g hg with h | h
                · exact .inl h
                · exact .inr (by omega)
              replace hsz := Nat.le_trans hsz hW.kept.size
              clear hW HP d1 om hb1 zb1
              have hb1 := hP.b
              have d1 : wc.cell? ⟨wb, 2, none⟩ = some m1 := cell_of hb1 2
              have zb1 := lt_of_block hb1
              have om := rowBlock hb1 hP.rc
              obtain ⟨q1, r1, t1, v1, rfl, _⟩ := G2.good
              have HP : Hid _ := hP
              clear hP
              go_upto_region 10 with (fail)
              go_cut [] (fun w' => ∃ c', Ph wb B ps ls' c' (L + 1) (3 * L + 1 + 1) (xs ++ [.slice (some ⟨b, 0, none⟩) 0 0]) (ys ++ [.slice (some ⟨q0, 0, none⟩) r0 t0] ++ [.slice (some ⟨q1, 0, none⟩) r1 t1]) w' ∧ Went wb m1 c' wc w')
              case first =>
                go_wp2_with (at_builtin; go_must (refine wpList_append_lies _ rfl _ _ _ rfl B 25 i1 _ 1 24 Tryz.underlying62 hi1 hy0 hy1 hy2 rfl (by omega) m1 (3 * L + 1) (ys ++ [.slice (some ⟨q0, 0, none⟩) r0 t0]) rfl (HP.out.keptNil ((Kept.refl [] wc).alloc _)).rc ⟨wc.heap.size, 0, none⟩ 1 1 [.slice (some ⟨q1, 0, none⟩) r1 t1] rfl rfl (news1 wc _ 25) (by simp [Value.oneCell']) (by omega) (by unfold maxLen; omega) (by omega) (by simp; omega) (wc.heap.size + 1) (by simp) ?_); intro g cap w1 hown1 hgrow hat hlt1; have hm1 := (hgrow.block wb (by simp; omega) (Ne.symm om)).trans (block_alloc_lt hb1 _); have s4 := cell_of hm1 2; have sf := frozen_of hm1 2)
                go_meet
                exact ⟨_, HP.out.stepC hown1 hgrow hat⟩
              case rest =>
                obtain ⟨m2, hP, hW⟩ := hcut
                replace GG : Hid _ := fun (k : Nat) (x : Value) hk => hW.good _ _ (GG.out k x hk)
                replace GH : Hid _ := fun (k : Nat) (y : Value) hk => hW.good _ _ (GH.out k y hk)
                replace GL := hW.good _ _ GL
                replace G1 := hW.good _ _ G1
                replace G2 := hW.good _ _ G2
                replace G3 := hW.good _ _ G3
                replace KK : Hid (Kept (wb :: (ls.ownBlock.toList ++ l3.ownBlock.toList)) w wc) := KK.out.drop hW.kept (fun x hx hlt => by simp at hx ⊢; rcases hx with hx | hx; exact .inl hx; rcases W2.out x hx with h | h; exact .inr (.inr h); omega)
                have W3 : Hid (∀ g, m2.ownBlock = some g → l3.ownBlock = some g ∨ w.heap.size ≤ g) := fun g hg => by
                  rcases hW.own g hg with h | h
                  · exact W2.out g h
                  · exact .inr (by omega)
                replace hsz := Nat.le_trans hsz hW.kept.size
                clear hW HP d1 om hb1 zb1 W2
                have hb1 := hP.b
                have d1 : wc.cell? ⟨wb, 2, none⟩ = some m2 := cell_of hb1 2
                have zb1 := lt_of_block hb1
                have om := rowBlock hb1 hP.rc
                obtain ⟨q2, r2, t2, v2, rfl, _⟩ := G3.good
                have HP : Hid _ := hP
                clear hP
                go_upto_region 11 with (fail)
                go_wp2_with (at_builtin; go_must (refine wpList_append_lies _ rfl _ _ _ rfl B 25 i1 _ 1 24 Tryz.underlying62 hi1 hy0 hy1 hy2 rfl (by omega) m2 (3 * L + 1 + 1) (ys ++ [.slice (some ⟨q0, 0, none⟩) r0 t0] ++ [.slice (some ⟨q1, 0, none⟩) r1 t1]) rfl (HP.out.keptNil ((Kept.refl [] wc).alloc _)).rc ⟨wc.heap.size, 0, none⟩ 1 1 [.slice (some ⟨q2, 0, none⟩) r2 t2] rfl rfl (news1 wc _ 25) (by simp [Value.oneCell']) (by omega) (by unfold maxLen; omega) (by omega) (by simp; omega) (wc.heap.size + 1) (by simp) ?_); intro g cap w1 hown1 hgrow hat hlt1; have hm1 := (hgrow.block wb (by simp; omega) (Ne.symm om)).trans (block_alloc_lt hb1 _); have s4 := cell_of hm1 2; have sf := frozen_of hm1 2)
                obtain ⟨hP, hW⟩ := HP.out.stepC hown1 hgrow hat
                go_end0
                replace GG : Hid _ := fun (k : Nat) (x : Value) hk => hW.good _ _ (GG.out k x hk)
                replace GH : Hid _ := fun (k : Nat) (y : Value) hk => hW.good _ _ (GH.out k y hk)
                replace GL := hW.good _ _ GL
                replace G1 := hW.good _ _ G1
                replace G2 := hW.good _ _ G2
                replace G3 := hW.good _ _ G3
                have K9 := KK.out.drop hW.kept (F := wb :: (ls.ownBlock.toList ++ l3.ownBlock.toList)) (fun x hx hlt => by simp at hx ⊢; rcases hx with hx | hx; exact .inl hx; rcases W3.out x hx with h | h; exact .inr (.inr h); omega)
                refine ⟨rfl, ⟨ls', _, _, hP.b, ⟨hP.ra, hP.rc, hP.ap, fun k x hk => ?_, fun k y hk => ?_⟩, K9⟩⟩
                · simp only [List.getElem?_append] at hk
                  split at hk
                  · exact GG.out k x hk
                  · have hlen : xs.length = L := by have := hP.ra.1; simp at this; omega
                    by_cases hkL : k = L
                    · subst hkL
                      simp [hlen] at hk
                      subst hk
                      exact GL
                    · have : ∃ d, k - xs.length = d + 1 := ⟨k - xs.length - 1, by omega⟩
                      obtain ⟨d, hd⟩ := this
                      rw [hd] at hk
                      simp at hk
                · have hlen : ys.length = 3 * L := by have := hP.rc.1; simp at this; omega
                  simp only [List.append_assoc, List.cons_append, List.nil_append, List.getElem?_append] at hk
                  split at hk
                  · exact GH.out k y hk
                  · have hk3 : k = 3 * L ∨ k = 3 * L + 1 ∨ k = 3 * L + 2 ∨ 3 * L + 3 ≤ k := by omega
                    rcases hk3 with rfl | rfl | rfl | hk3
                    · rw [hlen, Nat.sub_self] at hk
                      simp at hk
                      subst hk
                      rw [show 3 * L / 3 = L by omega]
                      exact G1
                    · rw [hlen, show 3 * L + 1 - 3 * L = 1 by omega] at hk
                      simp at hk
                      subst hk
                      rw [show (3 * L + 1) / 3 = L by omega]
                      exact G2
                    · rw [hlen, show 3 * L + 2 - 3 * L = 2 by omega] at hk
                      simp at hk
                      subst hk
                      rw [show (3 * L + 2) / 3 = L by omega]
                      exact G3
                    · obtain ⟨d, hd⟩ : ∃ d, k - ys.length = d + 3 := ⟨k - ys.length - 3, by omega⟩
                      rw [hd] at hk
                      simp at hk
end Go.Proofs.YtmnkphenobfbfaaGreat
