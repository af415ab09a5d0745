import Derived.Test.YtfgfpggjcfhccaaGreatXc
import Derived.Deep.AppendLies
import Derived.ArgAppend
import Derived.Test.YtfgfpggjcfhccaaGreatXd
import Derived.Deep.LoopGhost
namespace Go.Proofs.YtfgfpggjcfhccaaGreat
open Go.RowKit
theorem info84' : (Tryz.prog.info? 84).map (fun i => (i.zero, i.size, i.bytes)) = some (some (.agg #[.int .i64 0, .int .i64 0, .int .i64 0]), 3, 24) := by kernel_rfl
theorem info25 : (Tryz.prog.info? 25).map (fun i => (i.zero, i.size, i.bytes)) = some (some (.slice none 0 0), 1, 24) := by kernel_rfl
theorem own_lt {w : World} {B n : Nat} {sl : Value} {zs : List Value} (h : w.ownsRow B 25 1 sl n zs) {b : Nat} (hb : sl.ownBlock = some b) : ∃ cs, w.heap[b]? = some (.cells cs 25 (0, 0)) ∧ B ≤ b := by
  rcases h.2 with ⟨rfl, _⟩ | ⟨g, cap, cur, rfl, hg, hh, _⟩
  · simp [Value.ownBlock] at hb
  · simp only [Value.ownBlock, Option.some.injEq] at hb
    subst hb
    exact ⟨cur, hh, hg⟩
theorem rowStep {wb B n fld : Nat} {cells : Array Value} {sl v : Value} {zs : List Value} {Wc w1 : World} {g cap : Nat} {X : Obj} (hwb : Wc.heap[wb]? = some (.cells cells 64 (0, 0))) (hrow : Wc.ownsRow B 25 1 sl n zs)
    (hown : w1.ownsRow B 25 1 (.slice (some ⟨g, 0, none⟩) (n + 1) cap) (n + 1) (zs ++ [v])) (hgrow : (Wc.alloc X).grownBy w1 sl.ownBlock) :
    (w1.setCell ⟨wb, fld, none⟩ (.slice (some ⟨g, 0, none⟩) (n + 1) cap)).heap[wb]? = some (.cells (cells.setIfInBounds fld (.slice (some ⟨g, 0, none⟩) (n + 1) cap)) 64 (0, 0)) ∧
    (w1.setCell ⟨wb, fld, none⟩ (.slice (some ⟨g, 0, none⟩) (n + 1) cap)).ownsRow B 25 1 (.slice (some ⟨g, 0, none⟩) (n + 1) cap) (n + 1) (zs ++ [v]) ∧
    Kept (wb :: sl.ownBlock.toList) Wc (w1.setCell ⟨wb, fld, none⟩ (.slice (some ⟨g, 0, none⟩) (n + 1) cap)) := by
  have zb := lt_of_block hwb
  have hne : sl.ownBlock ≠ some wb := by
    intro e
    obtain ⟨cs, h1, _⟩ := own_lt hrow e
    have := Option.some.inj (h1.symm.trans hwb)
    simp at this
  have hw1 : w1.heap[wb]? = some (.cells cells 64 (0, 0)) := (hgrow.block wb (by simp; omega) (Ne.symm hne)).trans (block_alloc_lt hwb _)
  have k1 : Kept (wb :: sl.ownBlock.toList) Wc w1 := by
    refine ⟨hgrow.os, hgrow.tape, hgrow.output, ?_, fun b hb hf => ?_⟩
    · have := hgrow.size; simp at this; omega
    · refine (hgrow.block b (by simp; omega) (fun e => hf ?_)).trans (Below.heap_alloc _ _ _ hb)
      rw [← e]
      simp
  refine ⟨block_set_same hw1 _ _, ⟨hown.1, ?_⟩, k1.setCell (.inl (by simp)) _⟩
  rcases hown.2 with ⟨_, h0⟩ | ⟨g', cap', cur, e1, e2, e3, e4⟩
  · omega
  · refine .inr ⟨g', cap', cur, e1, e2, block_set_ne e3 ?_ _ _, e4⟩
    exact ne_of_blocks e3 hw1 (by simp)
theorem ownsRow.kept {w w' : World} {B n : Nat} {sl : Value} {zs : List Value} (h : w.ownsRow B 25 1 sl n zs) (k : Kept [] w w') : w'.ownsRow B 25 1 sl n zs := by
  refine ⟨h.1, ?_⟩
  rcases h.2 with h2 | ⟨g, cap, cur, a1, a2, a3, a4⟩
  · exact .inl h2
  · exact .inr ⟨g, cap, cur, a1, a2, k.at a3 (by simp), a4⟩
theorem ownsRow.keptF {w w' : World} {B n : Nat} {sl : Value} {zs : List Value} {F : List Nat} (h : w.ownsRow B 25 1 sl n zs) (k : Kept F w w') (hF : ∀ g, sl.ownBlock = some g → g ∉ F) : w'.ownsRow B 25 1 sl n zs := by
  refine ⟨h.1, ?_⟩
  rcases h.2 with h2 | ⟨g, cap, cur, a1, a2, a3, a4⟩
  · exact .inl h2
  · exact .inr ⟨g, cap, cur, a1, a2, k.at a3 (hF g (by rw [a1]; rfl)), a4⟩
/-- The two rows of a World. -/
structure Ph (wb B : Nat) (ps a c : Value) (na nc : Nat) (xa xc : List Value) (w : World) : Prop where
  b : w.heap[wb]? = some (.cells #[ps, a, c] 64 (0, 0))
  ra : w.ownsRow B 25 1 a na xa
  rc : w.ownsRow B 25 1 c nc xc
  ap : ∀ g, a.ownBlock = some g → c.ownBlock ≠ some g
/-- What the walk of a row's growth keeps. -/
structure Went (wb : Nat) (old new : Value) (w w' : World) : Prop where
  own : ∀ g, new.ownBlock = some g → old.ownBlock = some g ∨ w.heap.size ≤ g
  good : ∀ x m, Good w x m → Good w' x m
  kept : Kept (wb :: old.ownBlock.toList) w w'
theorem Ph.keptNil {wb B : Nat} {ps a c : Value} {na nc : Nat} {xa xc : List Value} {w w' : World} (h : Ph wb B ps a c na nc xa xc w) (k : Kept [] w w') : Ph wb B ps a c na nc xa xc w' :=
  ⟨k.at h.b (by simp), ownsRow.kept h.ra k, ownsRow.kept h.rc k, h.ap⟩
theorem rowBlock {wb B n : Nat} {cells : Array Value} {sl : Value} {zs : List Value} {w : World} (hb : w.heap[wb]? = some (.cells cells 64 (0, 0))) (h : w.ownsRow B 25 1 sl n zs) : sl.ownBlock ≠ some wb := fun e => by
  obtain ⟨cs, h1, _⟩ := own_lt h e
  have := Option.some.inj (h1.symm.trans hb)
  simp at this
theorem went_good {wb B n : Nat} {cells : Array Value} {sl : Value} {zs : List Value} {w w' : World} (hb : w.heap[wb]? = some (.cells cells 64 (0, 0))) (h : w.ownsRow B 25 1 sl n zs) (k : Kept (wb :: sl.ownBlock.toList) w w') : ∀ x m, Good w x m → Good w' x m := by
  intro x m hg
  refine hg.kept k (fun y hy cs he => ?_)
  rcases List.mem_cons.1 hy with rfl | hy
  · have := Option.some.inj (he.symm.trans hb); simp at this
  · simp at hy
    obtain ⟨cs', h1, _⟩ := own_lt h hy
    have := Option.some.inj (he.symm.trans h1); simp at this
theorem Ph.stepA {wb B : Nat} {ps a c v : Value} {na nc : Nat} {xa xc : List Value} {W w1 : World} {g cap : Nat} {X : Obj} (h : Ph wb B ps a c na nc xa xc W)
    (hown : w1.ownsRow B 25 1 (.slice (some ⟨g, 0, none⟩) (na + 1) cap) (na + 1) (xa ++ [v])) (hgrow : (W.alloc X).grownBy w1 a.ownBlock) (hat : a.ownBlock = some g ∨ g = W.heap.size + 1) :
    Ph wb B ps (.slice (some ⟨g, 0, none⟩) (na + 1) cap) c (na + 1) nc (xa ++ [v]) xc (w1.setCell ⟨wb, 1, none⟩ (.slice (some ⟨g, 0, none⟩) (na + 1) cap)) ∧
    Went wb a (.slice (some ⟨g, 0, none⟩) (na + 1) cap) W (w1.setCell ⟨wb, 1, none⟩ (.slice (some ⟨g, 0, none⟩) (na + 1) cap)) := by
  obtain ⟨r1, r2, r3⟩ := rowStep (fld := 1) h.b h.ra hown hgrow
  refine ⟨⟨r1, r2, ownsRow.keptF h.rc r3 (fun y hy hm => ?_), fun y hy hc => ?_⟩, ⟨fun y hy => ?_, went_good h.b h.ra r3, r3⟩⟩
  · rcases List.mem_cons.1 hm with rfl | hm
    · exact rowBlock h.b h.rc hy
    · simp at hm
      exact h.ap y hm hy
  · simp only [Value.ownBlock, Option.some.injEq] at hy
    subst hy
    rcases hat with hat | hat
    · exact h.ap g hat hc
    · obtain ⟨cs, h1, _⟩ := own_lt h.rc hc
      have := lt_of_block h1
      omega
  · simp only [Value.ownBlock, Option.some.injEq] at hy
    subst hy
    rcases hat with hat | hat
    · exact .inl hat
    · exact .inr (by omega)
theorem Ph.stepC {wb B : Nat} {ps a c v : Value} {na nc : Nat} {xa xc : List Value} {W w1 : World} {g cap : Nat} {X : Obj} (h : Ph wb B ps a c na nc xa xc W)
    (hown : w1.ownsRow B 25 1 (.slice (some ⟨g, 0, none⟩) (nc + 1) cap) (nc + 1) (xc ++ [v])) (hgrow : (W.alloc X).grownBy w1 c.ownBlock) (hat : c.ownBlock = some g ∨ g = W.heap.size + 1) :
    Ph wb B ps a (.slice (some ⟨g, 0, none⟩) (nc + 1) cap) na (nc + 1) xa (xc ++ [v]) (w1.setCell ⟨wb, 2, none⟩ (.slice (some ⟨g, 0, none⟩) (nc + 1) cap)) ∧
    Went wb c (.slice (some ⟨g, 0, none⟩) (nc + 1) cap) W (w1.setCell ⟨wb, 2, none⟩ (.slice (some ⟨g, 0, none⟩) (nc + 1) cap)) := by
  obtain ⟨r1, r2, r3⟩ := rowStep (fld := 2) h.b h.rc hown hgrow
  refine ⟨⟨r1, ownsRow.keptF h.ra r3 (fun y hy hm => ?_), r2, fun y hy hc => ?_⟩, ⟨fun y hy => ?_, went_good h.b h.rc r3, r3⟩⟩
  · rcases List.mem_cons.1 hm with rfl | hm
    · exact rowBlock h.b h.ra hy
    · simp at hm
      exact h.ap y hy hm
  · simp only [Value.ownBlock, Option.some.injEq] at hc
    subst hc
    rcases hat with hat | hat
    · exact h.ap g hy hat
    · obtain ⟨cs, h1, _⟩ := own_lt h.ra hy
      have := lt_of_block h1
      omega
  · simp only [Value.ownBlock, Option.some.injEq] at hy
    subst hy
    rcases hat with hat | hat
    · exact .inl hat
    · exact .inr (by omega)
structure Took (wb B L b : Nat) (ps ls l3 : Value) (xs : List Value) (w w' : World) : Prop where
  out : ∃ ls' l3' ys', w'.heap[wb]? = some (.cells #[ps, ls', l3'] 64 (0, 0)) ∧ LAt B ls' l3' (L + 1) (xs ++ [.slice (some ⟨b, 0, none⟩) 0 0]) ys' w' ∧ Kept (wb :: (ls.ownBlock.toList ++ l3.ownBlock.toList)) w w'
theorem news1 (w : World) (v : Value) (t : TypeId) : ∀ j u, [v][j]? = some u → (w.alloc (.cells #[v] t)).cell? ((⟨w.heap.size, 0, none⟩ : Addr).add j) = some u :=
  World.news_of_block (cs := #[v]) (t := t) (fr := (0, 0)) (block_alloc_new w _)
set_option maxRecDepth 100000 in
set_option maxHeartbeats 3200000 in
theorem takes_any (wb B L b : Nat) (ps ls l3 : Value) (xs ys : List Value) (w : World) (hb : w.heap[wb]? = some (.cells #[ps, ls, l3] 64 (0, 0))) (h : LAt B ls l3 L xs ys w) (hL : L ≤ 4000000) (hB : B ≤ w.heap.size)
    (hl : w.heap[b]? = some (.cells #[] 84 (0, 0))) :
    Calls Tryz.prog 40 #[.pointer (some ⟨wb, 0, none⟩), .slice (some ⟨b, 0, none⟩) 0 0] w fun e w' => e = .returned (.tuple #[]) ∧ Took wb B L b ps ls l3 xs w w' := by
  obtain ⟨i0, hi0, hz0, hz1, hz2⟩ := info_parts info84'
  obtain ⟨i1, hi1, hy0, hy1, hy2⟩ := info_parts info25
  have d1 : w.cell? ⟨wb, 1, none⟩ = some ls := cell_of hb 1
  have zb := lt_of_block hb
  have HH : Hid _ := h
  have shape : ∃ a1 n1 c1, ls = .slice a1 L c1 ∧ n1 = L := by
    rcases h.row.2 with ⟨rfl, rfl⟩ | ⟨g, cap, cur, rfl, _⟩
    · exact ⟨_, _, _, rfl, rfl⟩
    · exact ⟨_, _, _, rfl, rfl⟩
  obtain ⟨a1, _, c1, hls, _⟩ := shape
  have HS : Hid _ := hls
  rw [hls] at d1
  have bL : (L : Int) ≤ 4000000 := by omega
  clear h hls
  go_enter Tryz.func40, Tryz.ntmps40
  go_wp2
  go_loop [5] (fun i => i = .int .i64 0) (fun _ => 0)
  case atStart => rfl
  case round =>
    subst hrel
    have hM : (w.alloc (.cells #[.int .i64 (-1 - L), .int .i64 0, .int .i64 0] 84)).heap[w.heap.size]? = some (.cells #[.int .i64 (-1 - L), .int .i64 0, .int .i64 0] 84 (0, 0)) := block_alloc_new _ _
    have K0 : Kept [] w (w.alloc (.cells #[.int .i64 (-1 - L), .int .i64 0, .int .i64 0] 84)) := (Kept.refl [] w).alloc _
    generalize (w.alloc (.cells #[.int .i64 (-1 - L), .int .i64 0, .int .i64 0] 84)) = W0 at *
    have cM : ∀ o, W0.cell? ⟨w.heap.size, o, none⟩ = #[.int .i64 (-1 - L), .int .i64 0, .int .i64 0][o]? := cell_of hM
    have zM := lt_of_block hM
    have HB : Hid _ := hb
    clear d1 hb
    go_upto_region 5 with (fail)
    go_cut [6] (fun x w' => Good w' x (-1 - L) ∧ (∃ g, x.ownBlock = some g ∧ W0.heap.size ≤ g) ∧ Kept [] W0 w')
    case first =>
      go_wp2
      go_meet
      exact ⟨⟨⟨_, 1, _, _, rfl, by omega, three2 W0 _ _, by simp [marks]⟩⟩, ⟨_, rfl, Nat.le_succ _⟩, (((Kept.refl [] W0).alloc _).alloc _).drew⟩
    case rest =>
      obtain ⟨G1, ⟨g1, o1, z1⟩, k1⟩ := hcut
      replace hM := k1.at hM (by simp)
      replace K0 := K0.trans k1
      clear cM zM k1
      have cM : ∀ o, wc.cell? ⟨w.heap.size, o, none⟩ = #[.int .i64 (-1 - L), .int .i64 0, .int .i64 0][o]? := cell_of hM
      have zM := lt_of_block hM
      have O1 : Hid _ := o1
      clear o1
      go_upto_region 6 with (fail)
      go_cut [7] (fun x w' => Good w' x (-1 - L) ∧ (∃ g, x.ownBlock = some g ∧ wc.heap.size ≤ g) ∧ Kept [] wc w')
      case first =>
        go_wp2
        go_meet
        exact ⟨⟨⟨_, 2, _, _, rfl, by omega, three2 wc _ _, by simp [marks]⟩⟩, ⟨_, rfl, Nat.le_succ _⟩, (((Kept.refl [] wc).alloc _).alloc _).drew⟩
      case rest =>
        obtain ⟨G2, ⟨g2, o2, z2⟩, k1⟩ := hcut
        replace hM := k1.at hM (by simp)
        replace K0 := K0.trans k1
        replace G1 := G1.kept k1 (by simp)
        clear cM zM k1
        have cM : ∀ o, wc.cell? ⟨w.heap.size, o, none⟩ = #[.int .i64 (-1 - L), .int .i64 0, .int .i64 0][o]? := cell_of hM
        have zM := lt_of_block hM
        have O2 : Hid _ := o2
        clear o2
        go_upto_region 7 with (fail)
        go_cut [8] (fun x w' => Good w' x (-1 - L) ∧ (∃ g, x.ownBlock = some g ∧ wc.heap.size ≤ g) ∧ Kept [] wc w')
        case first =>
          go_wp2
          go_meet
          exact ⟨⟨⟨_, 3, _, _, rfl, by omega, three2 wc _ _, by simp [marks]⟩⟩, ⟨_, rfl, Nat.le_succ _⟩, (((Kept.refl [] wc).alloc _).alloc _).drew⟩
        case rest =>
          obtain ⟨G3, ⟨g3, o3, z3⟩, k1⟩ := hcut
          replace hM := k1.at hM (by simp)
          replace K0 := K0.trans k1
          replace G1 := G1.kept k1 (by simp)
          replace G2 := G2.kept k1 (by simp)
          clear cM zM k1
          have O3 : Hid _ := o3
          clear o3
          have hP : Ph wb B ps ls l3 L (3 * L) xs ys wc := ⟨K0.at HB.out (by simp), ownsRow.kept HH.out.row K0, ownsRow.kept HH.out.row3 K0, HH.out.apart⟩
          have GG : Hid (∀ (k : Nat) (x : Value), xs[k]? = some x → Good wc x (-1 - k)) := fun k x hk => (HH.out.good k x hk).kept K0 (by simp)
          have GH : Hid (∀ (k : Nat) (y : Value), ys[k]? = some y → Good wc y (-1 - (k / 3 : Nat))) := fun k y hk => (HH.out.good3 k y hk).kept K0 (by simp)
          have GL : Good wc (.slice (some ⟨b, 0, none⟩) 0 0) (-1 - L) := ⟨b, 0, 0, #[], rfl, by omega, K0.at hl (by simp), by simp [marks]⟩
          have hsz := K0.size
          have KK : Hid (Kept (wb :: (ls.ownBlock.toList ++ l3.ownBlock.toList)) w wc) := K0.mono (by simp)
          clear K0 hM HH HB hl O1 O2 O3
          have hb1 := hP.b
          have d1 : wc.cell? ⟨wb, 1, none⟩ = some ls := cell_of hb1 1
          have zb1 := lt_of_block hb1
          have om := rowBlock hb1 hP.ra
          have HP : Hid _ := hP
          have kB := hsz
          clear hP
          go_upto_region 8 with (fail)
          go_cut [] (fun w' => ∃ ls', Ph wb B ps ls' l3 (L + 1) (3 * L) (xs ++ [.slice (some ⟨b, 0, none⟩) 0 0]) ys w' ∧ Went wb ls ls' wc w')
          case first =>
            go_wp2_with (at_builtin; go_must (refine wpList_append_lies _ rfl _ _ _ rfl B 25 i1 _ 1 24 Tryz.underlying62 hi1 hy0 hy1 hy2 rfl (by omega) ls L xs rfl (HP.out.keptNil ((Kept.refl [] wc).alloc _)).ra ⟨wc.heap.size, 0, none⟩ 1 1 [.slice (some ⟨b, 0, none⟩) 0 0] rfl rfl (news1 wc _ 25) (by simp [Value.oneCell']) (by omega) (by unfold maxLen; omega) (by omega) (by simp; omega) (wc.heap.size + 1) (by simp) ?_); intro g cap w1 hown1 hgrow hat hlt1; have hm1 := (hgrow.block wb (by simp; omega) (Ne.symm om)).trans (block_alloc_lt hb1 _); have s4 := cell_of hm1 1; have sf := frozen_of hm1 1)
            go_meet
            exact ⟨_, HP.out.stepA hown1 hgrow hat⟩
          case rest =>
            obtain ⟨ls', hP, hW⟩ := hcut
            replace GG : Hid _ := fun (k : Nat) (x : Value) hk => hW.good _ _ (GG.out k x hk)
            replace GH : Hid _ := fun (k : Nat) (y : Value) hk => hW.good _ _ (GH.out k y hk)
            replace GL := hW.good _ _ GL
            replace G1 := hW.good _ _ G1
            replace G2 := hW.good _ _ G2
            replace G3 := hW.good _ _ G3
            have W1 : Hid _ := hW.own
            replace KK : Hid (Kept (wb :: (ls.ownBlock.toList ++ l3.ownBlock.toList)) w wc) := KK.out.drop hW.kept (fun x hx hlt => by simp at hx ⊢; rcases hx with hx | hx; exact .inl hx; exact .inr (.inl hx))
            replace hsz := Nat.le_trans hsz hW.kept.size
            clear W1 hW HP d1 om hb1 zb1
            have hb1 := hP.b
            have d1 : wc.cell? ⟨wb, 2, none⟩ = some l3 := cell_of hb1 2
            have zb1 := lt_of_block hb1
            have om := rowBlock hb1 hP.rc
            obtain ⟨q0, r0, t0, v0, rfl, _⟩ := G1.good
            have HP : Hid _ := hP
            clear hP
            go_upto_region 9 with (fail)
            go_cut [] (fun w' => ∃ c', Ph wb B ps ls' c' (L + 1) (3 * L + 1) (xs ++ [.slice (some ⟨b, 0, none⟩) 0 0]) (ys ++ [.slice (some ⟨q0, 0, none⟩) r0 t0]) w' ∧ Went wb l3 c' wc w')
            case first =>
              go_wp2_with (at_builtin; go_must (refine wpList_append_lies _ rfl _ _ _ rfl B 25 i1 _ 1 24 Tryz.underlying62 hi1 hy0 hy1 hy2 rfl (by omega) l3 (3 * L) (ys) rfl (HP.out.keptNil ((Kept.refl [] wc).alloc _)).rc ⟨wc.heap.size, 0, none⟩ 1 1 [.slice (some ⟨q0, 0, none⟩) r0 t0] rfl rfl (news1 wc _ 25) (by simp [Value.oneCell']) (by omega) (by unfold maxLen; omega) (by omega) (by simp; omega) (wc.heap.size + 1) (by simp) ?_); intro g cap w1 hown1 hgrow hat hlt1; have hm1 := (hgrow.block wb (by simp; omega) (Ne.symm om)).trans (block_alloc_lt hb1 _); have s4 := cell_of hm1 2; have sf := frozen_of hm1 2)
              go_meet
              exact ⟨_, HP.out.stepC hown1 hgrow hat⟩
            case rest =>
              obtain ⟨m1, hP, hW⟩ := hcut
              replace GG : Hid _ := fun (k : Nat) (x : Value) hk => hW.good _ _ (GG.out k x hk)
              replace GH : Hid _ := fun (k : Nat) (y : Value) hk => hW.good _ _ (GH.out k y hk)
              replace GL := hW.good _ _ GL
              replace G1 := hW.good _ _ G1
              replace G2 := hW.good _ _ G2
              replace G3 := hW.good _ _ G3
              replace KK : Hid (Kept (wb :: (ls.ownBlock.toList ++ l3.ownBlock.toList)) w wc) := KK.out.drop hW.kept (fun x hx hlt => by simp at hx ⊢; rcases hx with hx | hx; exact .inl hx; exact .inr (.inr hx))
              have W2 : Hid (∀ g, m1.ownBlock = some g → l3.ownBlock = some g ∨ w.heap.size ≤ g) := fun g hg => by
                rcases hW.own g hg with h | h
                · exact .inl h
                · exact .inr (by omega)
              replace hsz := Nat.le_trans hsz hW.kept.size
              clear hW HP d1 om hb1 zb1
              have hb1 := hP.b
              have d1 : wc.cell? ⟨wb, 2, none⟩ = some m1 := cell_of hb1 2
              have zb1 := lt_of_block hb1
              have om := rowBlock hb1 hP.rc
              obtain ⟨q1, r1, t1, v1, rfl, _⟩ := G2.good
              have HP : Hid _ := hP
              clear hP
              go_upto_region 10 with (fail)
              go_cut [] (fun w' => ∃ c', Ph wb B ps ls' c' (L + 1) (3 * L + 1 + 1) (xs ++ [.slice (some ⟨b, 0, none⟩) 0 0]) (ys ++ [.slice (some ⟨q0, 0, none⟩) r0 t0] ++ [.slice (some ⟨q1, 0, none⟩) r1 t1]) w' ∧ Went wb m1 c' wc w')
              case first =>
                go_wp2_with (at_builtin; go_must (refine wpList_append_lies _ rfl _ _ _ rfl B 25 i1 _ 1 24 Tryz.underlying62 hi1 hy0 hy1 hy2 rfl (by omega) m1 (3 * L + 1) (ys ++ [.slice (some ⟨q0, 0, none⟩) r0 t0]) rfl (HP.out.keptNil ((Kept.refl [] wc).alloc _)).rc ⟨wc.heap.size, 0, none⟩ 1 1 [.slice (some ⟨q1, 0, none⟩) r1 t1] rfl rfl (news1 wc _ 25) (by simp [Value.oneCell']) (by omega) (by unfold maxLen; omega) (by omega) (by simp; omega) (wc.heap.size + 1) (by simp) ?_); intro g cap w1 hown1 hgrow hat hlt1; have hm1 := (hgrow.block wb (by simp; omega) (Ne.symm om)).trans (block_alloc_lt hb1 _); have s4 := cell_of hm1 2; have sf := frozen_of hm1 2)
                go_meet
                exact ⟨_, HP.out.stepC hown1 hgrow hat⟩
              case rest =>
                obtain ⟨m2, hP, hW⟩ := hcut
                replace GG : Hid _ := fun (k : Nat) (x : Value) hk => hW.good _ _ (GG.out k x hk)
                replace GH : Hid _ := fun (k : Nat) (y : Value) hk => hW.good _ _ (GH.out k y hk)
                replace GL := hW.good _ _ GL
                replace G1 := hW.good _ _ G1
                replace G2 := hW.good _ _ G2
                replace G3 := hW.good _ _ G3
                replace KK : Hid (Kept (wb :: (ls.ownBlock.toList ++ l3.ownBlock.toList)) w wc) := KK.out.drop hW.kept (fun x hx hlt => by simp at hx ⊢; rcases hx with hx | hx; exact .inl hx; rcases W2.out x hx with h | h; exact .inr (.inr h); omega)
                have W3 : Hid (∀ g, m2.ownBlock = some g → l3.ownBlock = some g ∨ w.heap.size ≤ g) := fun g hg => by
                  rcases hW.own g hg with h | h
                  · exact W2.out g h
                  · exact .inr (by omega)
                replace hsz := Nat.le_trans hsz hW.kept.size
                clear hW HP d1 om hb1 zb1 W2
                have hb1 := hP.b
                have d1 : wc.cell? ⟨wb, 2, none⟩ = some m2 := cell_of hb1 2
                have zb1 := lt_of_block hb1
                have om := rowBlock hb1 hP.rc
                obtain ⟨q2, r2, t2, v2, rfl, _⟩ := G3.good
                have HP : Hid _ := hP
                clear hP
                go_upto_region 11 with (fail)
                go_wp2_with (at_builtin; go_must (refine wpList_append_lies _ rfl _ _ _ rfl B 25 i1 _ 1 24 Tryz.underlying62 hi1 hy0 hy1 hy2 rfl (by omega) m2 (3 * L + 1 + 1) (ys ++ [.slice (some ⟨q0, 0, none⟩) r0 t0] ++ [.slice (some ⟨q1, 0, none⟩) r1 t1]) rfl (HP.out.keptNil ((Kept.refl [] wc).alloc _)).rc ⟨wc.heap.size, 0, none⟩ 1 1 [.slice (some ⟨q2, 0, none⟩) r2 t2] rfl rfl (news1 wc _ 25) (by simp [Value.oneCell']) (by omega) (by unfold maxLen; omega) (by omega) (by simp; omega) (wc.heap.size + 1) (by simp) ?_); intro g cap w1 hown1 hgrow hat hlt1; have hm1 := (hgrow.block wb (by simp; omega) (Ne.symm om)).trans (block_alloc_lt hb1 _); have s4 := cell_of hm1 2; have sf := frozen_of hm1 2)
                obtain ⟨hP, hW⟩ := HP.out.stepC hown1 hgrow hat
                go_end0
                replace GG : Hid _ := fun (k : Nat) (x : Value) hk => hW.good _ _ (GG.out k x hk)
                replace GH : Hid _ := fun (k : Nat) (y : Value) hk => hW.good _ _ (GH.out k y hk)
                replace GL := hW.good _ _ GL
                replace G1 := hW.good _ _ G1
                replace G2 := hW.good _ _ G2
                replace G3 := hW.good _ _ G3
                have K9 := KK.out.drop hW.kept (F := wb :: (ls.ownBlock.toList ++ l3.ownBlock.toList)) (fun x hx hlt => by simp at hx ⊢; rcases hx with hx | hx; exact .inl hx; rcases W3.out x hx with h | h; exact .inr (.inr h); omega)
                refine ⟨rfl, ⟨ls', _, _, hP.b, ⟨hP.ra, hP.rc, hP.ap, fun k x hk => ?_, fun k y hk => ?_⟩, K9⟩⟩
                · simp only [List.getElem?_append] at hk
                  split at hk
                  · exact GG.out k x hk
                  · have hlen : xs.length = L := by have := hP.ra.1; simp at this; omega
                    by_cases hkL : k = L
                    · subst hkL
                      simp [hlen] at hk
                      subst hk
                      exact GL
                    · have : ∃ d, k - xs.length = d + 1 := ⟨k - xs.length - 1, by omega⟩
                      obtain ⟨d, hd⟩ := this
                      rw [hd] at hk
                      simp at hk
                · have hlen : ys.length = 3 * L := by have := hP.rc.1; simp at this; omega
                  simp only [List.append_assoc, List.cons_append, List.nil_append, List.getElem?_append] at hk
                  split at hk
                  · exact GH.out k y hk
                  · have hk3 : k = 3 * L ∨ k = 3 * L + 1 ∨ k = 3 * L + 2 ∨ 3 * L + 3 ≤ k := by omega
                    rcases hk3 with rfl | rfl | rfl | hk3
                    · rw [hlen, Nat.sub_self] at hk
                      simp at hk
                      subst hk
                      rw [show 3 * L / 3 = L by omega]
                      exact G1
                    · rw [hlen, show 3 * L + 1 - 3 * L = 1 by omega] at hk
                      simp at hk
                      subst hk
                      rw [show (3 * L + 1) / 3 = L by omega]
                      exact G2
                    · rw [hlen, show 3 * L + 2 - 3 * L = 2 by omega] at hk
                      simp at hk
                      subst hk
                      rw [show (3 * L + 2) / 3 = L by omega]
                      exact G3
                    · obtain ⟨d, hd⟩ : ∃ d, k - ys.length = d + 3 := ⟨k - ys.length - 3, by omega⟩
                      rw [hd] at hk
                      simp at hk
end Go.Proofs.YtfgfpggjcfhccaaGreat
namespace Go.Proofs.YtfgfpggjcfhccaaGreat
open Go.RowKit
/-- A World with one map and L lists, begun at w0. -/
structure WAt (wb b : Nat) (p : PM) (q : RM) (cl : Bool) (th : Nat → Option (Int × Int × Int)) (L : Nat) (w0 w : World) : Prop where
  two : Two b p q w cl th
  keys : KeysOk th
  at_ : ∃ pb cap ls l3 xs ys pcs, w.heap[wb]? = some (.cells #[.slice (some ⟨pb, 0, none⟩) 1 cap, ls, l3] 64 (0, 0)) ∧ w.heap[pb]? = some (.cells pcs 22 (0, 0)) ∧ pcs[0]? = some (.pointer (some ⟨b, 0, none⟩)) ∧ LAt w0.heap.size ls l3 L xs ys w
  fresh : ∀ x, x ∈ wb :: p.m :: p.c :: q.r :: q.tb :: p.ts → w0.heap.size ≤ x
  kept : Kept [] w0 w
set_option maxRecDepth 100000 in
set_option maxHeartbeats 1600000 in
theorem wstep_other (wb : Nat) (kd mp i y0 y1 y2 y3 : Int) (w : World) (h1 : kd ≠ 1) (h : kd < 2 ∨ 5 < kd) :
    Calls Tryz.prog 20 #[.pointer (some ⟨wb, 0, none⟩), .agg #[.int .i64 kd, .int .i64 mp, .int .i64 i, .int .i64 y0, .int .i64 y1, .int .i64 y2, .int .i64 y3]] w fun e w' => e = .returned (.bool true) ∧ Kept [] w w' := by
  have e1 : (kd == 1) = false := beq_eq_false_iff_ne.2 h1
  by_cases h2 : kd < 2
  · clear h
    go_enter Tryz.func20, Tryz.ntmps20
    go_wp2
    go_ret
    exact ⟨rfl, (Kept.refl [] w).alloc _⟩
  · have h5 : 5 < kd := by omega
    clear h
    go_enter Tryz.func20, Tryz.ntmps20
    go_wp2
    go_ret
    exact ⟨rfl, (Kept.refl [] w).alloc _⟩
set_option maxRecDepth 100000 in
set_option maxHeartbeats 3200000 in
/-- Begin, Step, Close: whatever 'does' does. -/
theorem wstep_does (wb b pb cap : Nat) (ls l3 : Value) (pcs : Array Value) (kd mp i y0 y1 y2 y3 : Int) (w : World) (Q : World → World → Prop) (hk : kd = 2 ∨ kd = 3 ∨ kd = 5)
    (hb : w.heap[wb]? = some (.cells #[.slice (some ⟨pb, 0, none⟩) 1 cap, ls, l3] 64 (0, 0))) (hpb : w.heap[pb]? = some (.cells pcs 22 (0, 0))) (hpc : pcs[0]? = some (.pointer (some ⟨b, 0, none⟩)))
    (hd : ∀ W, Kept [] w W → Calls Tryz.prog 8 #[.pointer (some ⟨b, 0, none⟩), .agg #[.int .i64 kd, .int .i64 mp, .int .i64 i, .int .i64 y0, .int .i64 y1, .int .i64 y2, .int .i64 y3]] W fun e w' => e = .returned (.bool true) ∧ Q W w') :
    Calls Tryz.prog 20 #[.pointer (some ⟨wb, 0, none⟩), .agg #[.int .i64 kd, .int .i64 mp, .int .i64 i, .int .i64 y0, .int .i64 y1, .int .i64 y2, .int .i64 y3]] w fun e w' => e = .returned (.bool true) ∧ ∃ W, Kept [] w W ∧ Q W w' := by
  have zb := lt_of_block hb
  have e1 : (kd == 1) = false := beq_eq_false_iff_ne.2 (by omega)
  have e4 : (kd == 4) = false := beq_eq_false_iff_ne.2 (by omega)
  have h2 : ¬ kd < 2 := by omega
  have h5 : ¬ 5 < kd := by omega
  have d0 : w.cell? ⟨wb, 0, none⟩ = some (.slice (some ⟨pb, 0, none⟩) 1 cap) := cell_of hb 0
  have ho : (w.alloc (.cells #[Value.int .i64 kd, .int .i64 mp, .int .i64 i, .int .i64 y0, .int .i64 y1, .int .i64 y2, .int .i64 y3] 34)).heap[w.heap.size]? = some (.cells #[Value.int .i64 kd, .int .i64 mp, .int .i64 i, .int .i64 y0, .int .i64 y1, .int .i64 y2, .int .i64 y3] 34 (0, 0)) := block_alloc_new _ _
  have hK : Kept [] w (w.alloc (.cells #[Value.int .i64 kd, .int .i64 mp, .int .i64 i, .int .i64 y0, .int .i64 y1, .int .i64 y2, .int .i64 y3] 34)) := (Kept.refl _ w).alloc _
  have HD : Hid _ := hd
  clear hk hd
  go_enter Tryz.func20, Tryz.ntmps20
  go_wp2_with fail
  have g0 := cell_of (hK.at hb (by simp)) 0
  have gp := (cell_of (hK.at hpb (by simp)) 0).trans hpc
  generalize (w.alloc (.cells #[Value.int .i64 kd, .int .i64 mp, .int .i64 i, .int .i64 y0, .int .i64 y1, .int .i64 y2, .int .i64 y3] 34)) = W0 at *
  have d2 : ∀ x, W0.cell? ⟨w.heap.size, x, none⟩ = #[Value.int .i64 kd, .int .i64 mp, .int .i64 i, .int .i64 y0, .int .i64 y1, .int .i64 y2, .int .i64 y3][x]? := cell_of ho
  go_region_held3 (fun w' => w'.cell? ⟨wb, 0, none⟩ = some (.slice (some ⟨pb, 0, none⟩) 1 cap) ∧ w'.cell? ⟨pb, 0, none⟩ = some (.pointer (some ⟨b, 0, none⟩)) ∧ (∀ x, w'.cell? ⟨w.heap.size, x, none⟩ = #[Value.int .i64 kd, .int .i64 mp, .int .i64 i, .int .i64 y0, .int .i64 y1, .int .i64 y2, .int .i64 y3][x]?))
    (first | exact ⟨g0, gp, d2⟩)
    (first | (go_at_call 39; refine (pick_one mp _).mono ?_; rintro e w1 ⟨rfl, rfl⟩))
  go_wp2_with fail
  refine (HD.out _ hK.drew).mono ?_
  rintro e w2 ⟨rfl, hq⟩
  have HQ : Hid _ := hq
  clear hq g0 gp d2 d0
  go_wp2
  go_ret
  exact ⟨rfl, _, hK.drew, HQ.out⟩
end Go.Proofs.YtfgfpggjcfhccaaGreat
namespace Go.Proofs.YtfgfpggjcfhccaaGreat
open Go.RowKit
/-- F holds the World's own block and its rows alone. -/
def Rows25 (F : List Nat) (w : World) : Prop := ∀ y, y ∈ F → ∃ cs, w.heap[y]? = some (.cells cs 64 (0, 0)) ∨ w.heap[y]? = some (.cells cs 25 (0, 0))
theorem Rows25.off {F : List Nat} {w : World} (h : Rows25 F w) {x : Nat} {o : Obj} (hx : w.heap[x]? = some o) (h1 : ∀ cs, o ≠ .cells cs 64 (0, 0)) (h2 : ∀ cs, o ≠ .cells cs 25 (0, 0)) : x ∉ F := by
  intro hm
  obtain ⟨cs, hc | hc⟩ := h x hm
  · exact h1 cs (Option.some.inj (hx.symm.trans hc))
  · exact h2 cs (Option.some.inj (hx.symm.trans hc))
theorem Two.rows {b : Nat} {p : PM} {q : RM} {w w' : World} {cl : Bool} {th : Nat → Option (Int × Int × Int)} {F : List Nat} (h : Two b p q w cl th) (k : Kept F w w') (hF : Rows25 F w) : Two b p q w' cl th := by
  obtain ⟨cs, g1, _⟩ := h.q.tb
  obtain ⟨cs', g2, _⟩ := h.p.tb
  exact ⟨h.n, k.at h.b (hF.off h.b (by simp) (by simp)),
    h.p.kept k ⟨hF.off h.p.m (by simp) (by simp), hF.off h.p.c (by simp) (by simp), hF.off h.p.s (by simp) (by simp), hF.off g2 (by simp) (by simp), fun i t hi => hF.off (h.p.ts i t hi) (by simp) (by simp)⟩,
    h.q.kept k (hF.off h.q.r (by simp) (by simp)) (hF.off g1 (by simp) (by simp))⟩
theorem rows25_of {wb B L : Nat} {cells : Array Value} {ls l3 : Value} {xs ys : List Value} {w : World} (hb : w.heap[wb]? = some (.cells cells 64 (0, 0))) (h : LAt B ls l3 L xs ys w) : Rows25 (wb :: (ls.ownBlock.toList ++ l3.ownBlock.toList)) w := by
  intro y hy
  simp at hy
  rcases hy with rfl | hy | hy
  · exact ⟨_, .inl hb⟩
  · obtain ⟨cs, h1, _⟩ := own_lt h.row hy
    exact ⟨cs, .inr h1⟩
  · obtain ⟨cs, h1, _⟩ := own_lt h.row3 hy
    exact ⟨cs, .inr h1⟩
/-- Blocks that are none of the World's turn. -/
theorem LAt.kept {B L : Nat} {ls l3 : Value} {xs ys : List Value} {w w' : World} {F : List Nat} (h : LAt B ls l3 L xs ys w) (k : Kept F w w') (hF : ∀ y, y ∈ F → ∀ cs, w.heap[y]? ≠ some (.cells cs 84 (0, 0)) ∧ w.heap[y]? ≠ some (.cells cs 25 (0, 0))) : LAt B ls l3 L xs ys w' := by
  refine ⟨ownsRow.keptF h.row k (fun g hg hm => ?_), ownsRow.keptF h.row3 k (fun g hg hm => ?_), h.apart, fun k' x hk => (h.good k' x hk).kept k (fun y hy cs => (hF y hy cs).1), fun k' x hk => (h.good3 k' x hk).kept k (fun y hy cs => (hF y hy cs).1)⟩
  · obtain ⟨cs, h1, _⟩ := own_lt h.row hg
    exact (hF g hm cs).2 h1
  · obtain ⟨cs, h1, _⟩ := own_lt h.row3 hg
    exact (hF g hm cs).2 h1
theorem LAt.keptNil {B L : Nat} {ls l3 : Value} {xs ys : List Value} {w w' : World} (h : LAt B ls l3 L xs ys w) (k : Kept [] w w') : LAt B ls l3 L xs ys w' := h.kept k (by simp)
structure Looked (wb b pb cap L B : Nat) (p : PM) (q : RM) (cl : Bool) (th : Nat → Option (Int × Int × Int)) (pcs : Array Value) (w w' : World) : Prop where
  out : ∃ ls' l3' xs' ys', Two b p q w' cl th ∧ w'.heap[wb]? = some (.cells #[.slice (some ⟨pb, 0, none⟩) 1 cap, ls', l3'] 64 (0, 0)) ∧ w'.heap[pb]? = some (.cells pcs 22 (0, 0)) ∧ LAt B ls' l3' (L + 2) xs' ys' w' ∧ (∀ w0 : World, w0.heap.size = B → B ≤ p.m → B ≤ wb → Kept [] w0 w → Kept [] w0 w')
set_option maxRecDepth 100000 in
set_option maxHeartbeats 3200000 in
theorem wstep_look (wb b pb cap B L : Nat) (p : PM) (q : RM) (cl : Bool) (th : Nat → Option (Int × Int × Int)) (ls l3 : Value) (xs ys : List Value) (pcs : Array Value) (mp i y0 y1 y2 y3 : Int) (w : World)
    (hT : Two b p q w cl th) (hb : w.heap[wb]? = some (.cells #[.slice (some ⟨pb, 0, none⟩) 1 cap, ls, l3] 64 (0, 0))) (hpb : w.heap[pb]? = some (.cells pcs 22 (0, 0))) (hpc : pcs[0]? = some (.pointer (some ⟨b, 0, none⟩)))
    (hl : LAt B ls l3 L xs ys w) (hL : L + 1 ≤ 4000000) (hB : B ≤ w.heap.size) :
    Calls Tryz.prog 20 #[.pointer (some ⟨wb, 0, none⟩), .agg #[.int .i64 4, .int .i64 mp, .int .i64 i, .int .i64 y0, .int .i64 y1, .int .i64 y2, .int .i64 y3]] w fun e w' => e = .returned (.bool true) ∧ Looked wb b pb cap L B p q cl th pcs w w' := by
  have zb := lt_of_block hb
  have d0 : w.cell? ⟨wb, 0, none⟩ = some (.slice (some ⟨pb, 0, none⟩) 1 cap) := cell_of hb 0
  have ho : (w.alloc (.cells #[Value.int .i64 4, .int .i64 mp, .int .i64 i, .int .i64 y0, .int .i64 y1, .int .i64 y2, .int .i64 y3] 34)).heap[w.heap.size]? = some (.cells #[Value.int .i64 4, .int .i64 mp, .int .i64 i, .int .i64 y0, .int .i64 y1, .int .i64 y2, .int .i64 y3] 34 (0, 0)) := block_alloc_new _ _
  have hK : Kept [] w (w.alloc (.cells #[Value.int .i64 4, .int .i64 mp, .int .i64 i, .int .i64 y0, .int .i64 y1, .int .i64 y2, .int .i64 y3] 34)) := (Kept.refl _ w).alloc _
  have HL : Hid _ := hl
  have HT : Hid _ := hT
  clear hl hT
  go_enter Tryz.func20, Tryz.ntmps20
  go_wp2_with fail
  have g0 := cell_of (hK.at hb (by simp)) 0
  have gp := (cell_of (hK.at hpb (by simp)) 0).trans hpc
  generalize (w.alloc (.cells #[Value.int .i64 4, .int .i64 mp, .int .i64 i, .int .i64 y0, .int .i64 y1, .int .i64 y2, .int .i64 y3] 34)) = W0 at *
  have d2 : ∀ x, W0.cell? ⟨w.heap.size, x, none⟩ = #[Value.int .i64 4, .int .i64 mp, .int .i64 i, .int .i64 y0, .int .i64 y1, .int .i64 y2, .int .i64 y3][x]? := cell_of ho
  go_region_held3 (fun w' => w'.cell? ⟨wb, 0, none⟩ = some (.slice (some ⟨pb, 0, none⟩) 1 cap) ∧ w'.cell? ⟨pb, 0, none⟩ = some (.pointer (some ⟨b, 0, none⟩)) ∧ (∀ x, w'.cell? ⟨w.heap.size, x, none⟩ = #[Value.int .i64 4, .int .i64 mp, .int .i64 i, .int .i64 y0, .int .i64 y1, .int .i64 y2, .int .i64 y3][x]?))
    (first | exact ⟨g0, gp, d2⟩)
    (first | (go_at_call 39; refine (pick_one mp _).mono ?_; rintro e w1 ⟨rfl, rfl⟩))
  go_wp2_with fail
  refine (seen_any b p q cl _ th (HT.out.keptNil hK.drew)).mono ?_
  rintro e w2 ⟨b1, b2, rfl, hb1, hz1, hb2, hz2, hT2, k2⟩
  clear g0 gp d2 d0
  have K2 : Kept [p.m] w w2 := (hK.drew.mono (by simp)).trans k2
  have nm : ∀ (x : Nat) (o : Obj), w.heap[x]? = some o → (∀ cs, o ≠ Obj.cells cs 78 (0, 0)) → x ∉ [p.m] := fun x o hx h1 hm => by
    simp at hm
    subst hm
    exact h1 _ (Option.some.inj (hx.symm.trans HT.out.p.m))
  have hbW := K2.at hb (nm _ _ hb (by simp))
  have hpW := K2.at hpb (nm _ _ hpb (by simp))
  have lW : LAt B ls l3 L xs ys w2 := HL.out.kept K2 (fun y hy cs => by
    simp at hy
    subst hy
    rw [HT.out.p.m]
    simp)
  have hv := block_alloc_new w2 (.cells #[Value.slice (some ⟨b1, 0, none⟩) 0 0, .bool false, .bool false, .slice (some ⟨b2, 0, none⟩) 0 0, .int .i64 0, .int .i64 (-1)] 27)
  have a1 := block_alloc_lt hb1 (.cells #[Value.slice (some ⟨b1, 0, none⟩) 0 0, .bool false, .bool false, .slice (some ⟨b2, 0, none⟩) 0 0, .int .i64 0, .int .i64 (-1)] 27)
  have a2 := block_alloc_lt hb2 (.cells #[Value.slice (some ⟨b1, 0, none⟩) 0 0, .bool false, .bool false, .slice (some ⟨b2, 0, none⟩) 0 0, .int .i64 0, .int .i64 (-1)] 27)
  have aW := block_alloc_lt hbW (.cells #[Value.slice (some ⟨b1, 0, none⟩) 0 0, .bool false, .bool false, .slice (some ⟨b2, 0, none⟩) 0 0, .int .i64 0, .int .i64 (-1)] 27)
  have aP := block_alloc_lt hpW (.cells #[Value.slice (some ⟨b1, 0, none⟩) 0 0, .bool false, .bool false, .slice (some ⟨b2, 0, none⟩) 0 0, .int .i64 0, .int .i64 (-1)] 27)
  have lV := lW.keptNil ((Kept.refl [] w2).alloc (.cells #[Value.slice (some ⟨b1, 0, none⟩) 0 0, .bool false, .bool false, .slice (some ⟨b2, 0, none⟩) 0 0, .int .i64 0, .int .i64 (-1)] 27))
  have tV := hT2.keptNil ((Kept.refl [] w2).alloc (.cells #[Value.slice (some ⟨b1, 0, none⟩) 0 0, .bool false, .bool false, .slice (some ⟨b2, 0, none⟩) 0 0, .int .i64 0, .int .i64 (-1)] 27))
  have KV := K2.alloc (.cells #[Value.slice (some ⟨b1, 0, none⟩) 0 0, .bool false, .bool false, .slice (some ⟨b2, 0, none⟩) 0 0, .int .i64 0, .int .i64 (-1)] 27)
  have zV := Nat.le_trans hB KV.size
  have HV : Hid _ := And.intro lV tV
  clear lV tV lW hT2
  go_wp2_with fail
  generalize (w2.alloc (.cells #[Value.slice (some ⟨b1, 0, none⟩) 0 0, .bool false, .bool false, .slice (some ⟨b2, 0, none⟩) 0 0, .int .i64 0, .int .i64 (-1)] 27)) = W3 at *
  refine (takes_any wb B L b1 _ ls l3 xs ys W3 aW HV.out.1 (by omega) zV a1).mono ?_
  rintro e w4 ⟨rfl, T4⟩
  obtain ⟨ls4, l34, ys4, h4, l4, k4⟩ := T4.out
  have r4 := rows25_of aW HV.out.1
  have hv4 := k4.at hv (r4.off hv (by simp) (by simp))
  have a24 := k4.at a2 (r4.off a2 (by simp) (by simp))
  have aP4 := k4.at aP (r4.off aP (by simp) (by simp))
  have t4 := HV.out.2.rows k4 r4
  have c3 : ∀ o, w4.cell? ⟨w2.heap.size, o, none⟩ = #[Value.slice (some ⟨b1, 0, none⟩) 0 0, .bool false, .bool false, .slice (some ⟨b2, 0, none⟩) 0 0, .int .i64 0, .int .i64 (-1)][o]? := cell_of hv4
  have z4 := Nat.le_trans zV k4.size
  have HW : Hid _ := And.intro l4 (And.intro t4 T4)
  clear l4 t4 T4
  go_wp2_with fail
  refine (takes_any wb B (L + 1) b2 _ ls4 l34 _ ys4 w4 h4 HW.out.1 (by omega) z4 a24).mono ?_
  rintro e w5 ⟨rfl, T5⟩
  obtain ⟨ls5, l35, ys5, h5, l5, k5⟩ := T5.out
  have r5 := rows25_of h4 HW.out.1
  have aP5 := k5.at aP4 (r5.off aP4 (by simp) (by simp))
  have t5 := HW.out.2.1.rows k5 r5
  have HX : Hid (Looked wb b pb cap L B p q cl th pcs w w5) := by
    refine ⟨⟨ls5, l35, _, ys5, t5, h5, aP5, l5, fun w0 hw0 hpm hwb k0 => ?_⟩⟩
    have K3 : Kept [] w0 W3 := k0.drop KV (fun x hx hlt => by simp at hx; omega)
    have own : ∀ (g : Nat) (sl : Value) (n : Nat) (zs : List Value) (u : World), u.ownsRow B 25 1 sl n zs → sl.ownBlock = some g → B ≤ g := fun g sl n zs u hu hg => by obtain ⟨cs, _, h⟩ := own_lt hu hg; exact h
    have K4 : Kept [] w0 w4 := K3.drop k4 (fun x hx hlt => by
      simp at hx
      rcases hx with rfl | hx | hx
      · omega
      · have := own _ _ _ _ _ HV.out.1.row hx; omega
      · have := own _ _ _ _ _ HV.out.1.row3 hx; omega)
    exact K4.drop k5 (fun x hx hlt => by
      simp at hx
      rcases hx with rfl | hx | hx
      · omega
      · have := own _ _ _ _ _ HW.out.1.row hx; omega
      · have := own _ _ _ _ _ HW.out.1.row3 hx; omega)
  clear l5 t5 T5 c3
  go_wp2
  go_ret
  exact ⟨rfl, HX.out⟩
end Go.Proofs.YtfgfpggjcfhccaaGreat
namespace Go.Proofs.YtfgfpggjcfhccaaGreat
open Go.RowKit
theorem info22 : (Tryz.prog.info? 22).map (fun i => (i.zero, i.size, i.bytes)) = some (some (.pointer none), 1, 8) := by kernel_rfl
theorem ownsRow.kept22 {w w' : World} {B n : Nat} {sl : Value} {zs : List Value} (h : w.ownsRow B 22 1 sl n zs) (k : Kept [] w w') : w'.ownsRow B 22 1 sl n zs := by
  refine ⟨h.1, ?_⟩
  rcases h.2 with h2 | ⟨g, cap, cur, a1, a2, a3, a4⟩
  · exact .inl h2
  · exact .inr ⟨g, cap, cur, a1, a2, k.at a3 (by simp), a4⟩
structure Opened0 (wb : Nat) (w w' : World) : Prop where
  out : ∃ b p q, p.ts.length = 3 ∧ WAt wb b p q false (fun _ => none) 0 w w'
set_option maxRecDepth 100000 in
set_option maxHeartbeats 3200000 in
theorem wstep_new (wb : Nat) (w0 w : World) (hb : w.heap[wb]? = some (.cells #[.slice none 0 0, .slice none 0 0, .slice none 0 0] 64 (0, 0))) (hw : Kept [] w0 w) (hz : w0.heap.size ≤ wb) :
    Calls Tryz.prog 20 #[.pointer (some ⟨wb, 0, none⟩), .agg #[.int .i64 1, .int .i64 0, .int .i64 3, .int .i64 0, .int .i64 0, .int .i64 0, .int .i64 0]] w fun e w' => e = .returned (.bool true) ∧ Opened0 wb w0 w' := by
  obtain ⟨i1, hi1, hy0, hy1, hy2⟩ := info_parts info22
  have zb := lt_of_block hb
  have hK : Kept [] w (w.alloc (.cells #[.int .i64 1, .int .i64 0, .int .i64 3, .int .i64 0, .int .i64 0, .int .i64 0, .int .i64 0] 34)) := (Kept.refl _ w).alloc _
  go_enter Tryz.func20, Tryz.ntmps20
  go_wp2_with fail
  generalize (w.alloc (.cells #[.int .i64 1, .int .i64 0, .int .i64 3, .int .i64 0, .int .i64 0, .int .i64 0, .int .i64 0] 34)) = W0 at *
  refine (open_yes 3 W0 (by omega) (by omega)).mono ?_
  rintro e w1 ⟨b, p, q, rfl, hl3, hT, k1, hzb, hf⟩
  have K1 := hK.trans k1
  have hb1 := K1.at hb (by simp)
  have d0 : w1.cell? ⟨wb, 0, none⟩ = some (.slice none 0 0) := cell_of hb1 0
  have zb1 := lt_of_block hb1
  have kz := K1.size
  have hz1 := hw.size
  have zW := hK.size
  have row0 : (w1.alloc (.cells #[.pointer (some ⟨b, 0, none⟩)] 22)).ownsRow w0.heap.size 22 1 (.slice none 0 0) 0 [] := ⟨rfl, .inl ⟨rfl, rfl⟩⟩
  have HF : Hid _ := And.intro hl3 (And.intro hT hf)
  clear hl3 hT hf
  go_wp2_with (at_builtin; go_must (refine wpList_append_lies _ rfl _ _ _ rfl w0.heap.size 22 i1 _ 1 8 Tryz.underlying61 hi1 hy0 hy1 hy2 rfl (by omega) (.slice none 0 0) 0 [] rfl row0 ⟨w1.heap.size, 0, none⟩ 1 1 [.pointer (some ⟨b, 0, none⟩)] rfl rfl (news1 w1 _ 22) (by simp [Value.oneCell']) (by omega) (by unfold maxLen; omega) (by omega) (by simp; omega) (w1.heap.size + 1) (by simp) ?_); intro g cap w2 hown1 hgrow hat hlt1; have hm1 := (hgrow.block wb (by simp; omega) (by simp [Value.ownBlock])).trans (block_alloc_lt hb1 _); have s4 := cell_of hm1 0; have sf := frozen_of hm1 0)
  go_ret
  refine ⟨rfl, ⟨b, p, q, HF.out.1, ?_⟩⟩
  have k2 : Kept [] w1 w2 := by
    refine ⟨hgrow.os, hgrow.tape, hgrow.output, ?_, fun x hx _ => ?_⟩
    · have := hgrow.size; simp at this; omega
    · exact (hgrow.block x (by simp; omega) (by simp [Value.ownBlock])).trans (Below.heap_alloc _ _ _ hx)
  have hg : g = w1.heap.size + 1 := by
    rcases hat with h | h
    · simp [Value.ownBlock] at h
    · exact h
  obtain ⟨cur, hcur, hcur0⟩ : ∃ cur, w2.heap[g]? = some (.cells cur 22 (0, 0)) ∧ cur[0]? = some (.pointer (some ⟨b, 0, none⟩)) := by
    rcases hown1.2 with ⟨_, h0⟩ | ⟨g', cap', cur, e1, _, e3, _, _, _, e7⟩
    · omega
    · cases e1
      refine ⟨cur, e3, ?_⟩
      have := congrArg (fun l => l[0]?) e7
      simpa using this
  have T2 := HF.out.2.1.keptNil k2
  have k3 : Kept [wb] w2 (w2.setCell ⟨wb, 0, none⟩ (.slice (some ⟨g, 0, none⟩) 1 cap)) := (Kept.refl _ w2).setCell (.inl (by simp)) _
  have r3 : Rows25 [wb] w2 := fun y hy => by simp at hy; subst hy; exact ⟨_, .inl hm1⟩
  refine ⟨T2.rows k3 r3, (fun i k v o hh => by cases hh), ⟨g, cap, .slice none 0 0, .slice none 0 0, [], [], cur, ?_, block_set_ne hcur (ne_of_blocks hcur hm1 (by simp)) _ _, hcur0, ?_⟩, fun x hx => ?_, ?_⟩
  · rw [block_set_same hm1]; simp
  · exact ⟨⟨rfl, .inl ⟨rfl, rfl⟩⟩, ⟨rfl, .inl ⟨rfl, rfl⟩⟩, fun g hg => by simp [Value.ownBlock] at hg, fun k x hk => by simp at hk, fun k x hk => by simp at hk⟩
  · rcases List.mem_cons.1 hx with rfl | hx
    · exact hz
    · have := HF.out.2.2 x hx; omega
  · exact (hw.trans (K1.trans k2)).setCell (.inr hz) _
end Go.Proofs.YtfgfpggjcfhccaaGreat
namespace Go.Proofs.YtfgfpggjcfhccaaGreat
open Go.RowKit
theorem WAt.keptNil {wb b : Nat} {p : PM} {q : RM} {cl : Bool} {th : Nat → Option (Int × Int × Int)} {L : Nat} {w0 w w' : World} (h : WAt wb b p q cl th L w0 w) (k : Kept [] w w') : WAt wb b p q cl th L w0 w' := by
  obtain ⟨pb, cap, ls, l3, xs, ys, pcs, h1, h2, h3, h4⟩ := h.at_
  exact ⟨h.two.keptNil k, h.keys, ⟨pb, cap, ls, l3, xs, ys, pcs, k.at h1 (by simp), k.at h2 (by simp), h3, h4.keptNil k⟩, h.fresh, h.kept.trans k⟩
/-- Blocks of the two maps alone. -/
def Maps (F : List Nat) (w : World) : Prop := ∀ y, y ∈ F → ∀ cs, w.heap[y]? ≠ some (.cells cs 64 (0, 0)) ∧ w.heap[y]? ≠ some (.cells cs 22 (0, 0)) ∧ w.heap[y]? ≠ some (.cells cs 84 (0, 0)) ∧ w.heap[y]? ≠ some (.cells cs 25 (0, 0))
theorem Two.maps {b : Nat} {p : PM} {q : RM} {w : World} {cl : Bool} {th : Nat → Option (Int × Int × Int)} (h : Two b p q w cl th) : Maps (p.m :: p.c :: q.r :: q.tb :: p.ts) w := by
  intro y hy cs
  obtain ⟨tcs, g1, _⟩ := h.q.tb
  simp only [List.mem_cons] at hy
  rcases hy with rfl | rfl | rfl | rfl | hy
  · rw [h.p.m]; simp
  · rw [h.p.c]; simp
  · rw [h.q.r]; simp
  · rw [g1]; simp
  · obtain ⟨i, hi⟩ := List.getElem?_of_mem hy
    rw [h.p.ts i y hi]; simp
theorem WAt.after {wb b : Nat} {p : PM} {q : RM} {cl cl' : Bool} {th th' : Nat → Option (Int × Int × Int)} {L : Nat} {w0 w w' : World} {F : List Nat} (h : WAt wb b p q cl th L w0 w) (k : Kept F w w')
    (hF : ∀ y, y ∈ F → y ∈ p.m :: p.c :: q.r :: q.tb :: p.ts) (h2 : Two b p q w' cl' th') (hk : KeysOk th') : WAt wb b p q cl' th' L w0 w' := by
  obtain ⟨pb, cap, ls, l3, xs, ys, pcs, e1, e2, e3, e4⟩ := h.at_
  have hm := h.two.maps
  refine ⟨h2, hk, ⟨pb, cap, ls, l3, xs, ys, pcs, k.at e1 (fun hy => (hm _ (hF _ hy) _).1 e1), k.at e2 (fun hy => (hm _ (hF _ hy) _).2.1 e2), e3, e4.kept k (fun y hy cs => ⟨(hm y (hF y hy) cs).2.2.1, (hm y (hF y hy) cs).2.2.2⟩)⟩, h.fresh, h.kept.drop k (fun x hx hlt => ?_)⟩
  have := h.fresh x (List.mem_cons_of_mem _ (hF x hx))
  omega
structure Stepped (wb b : Nat) (p : PM) (q : RM) (L : Nat) (w0 w' : World) : Prop where
  out : ∃ cl th L', L' ≤ L + 2 ∧ WAt wb b p q cl th L' w0 w'
theorem wstep (wb b : Nat) (p : PM) (q : RM) (cl : Bool) (th : Nat → Option (Int × Int × Int)) (L : Nat) (kd mp i y0 y1 y2 y3 : Int) (w0 w : World) (h : WAt wb b p q cl th L w0 w) (h1 : kd ≠ 1) (h2 : kd = 2 → y0 ≤ 0) (hL : L + 1 ≤ 4000000) :
    Calls Tryz.prog 20 #[.pointer (some ⟨wb, 0, none⟩), .agg #[.int .i64 kd, .int .i64 mp, .int .i64 i, .int .i64 y0, .int .i64 y1, .int .i64 y2, .int .i64 y3]] w fun e w' => e = .returned (.bool true) ∧ Stepped wb b p q L w0 w' := by
  by_cases ho : kd < 2 ∨ 5 < kd
  · refine (wstep_other wb kd mp i y0 y1 y2 y3 w h1 ho).mono ?_
    rintro e w' ⟨rfl, k⟩
    exact ⟨rfl, ⟨cl, th, L, by omega, h.keptNil k⟩⟩
  · obtain ⟨pb, cap, ls, l3, xs, ys, pcs, e1, e2, e3, e4⟩ := h.at_
    by_cases h4 : kd = 4
    · subst h4
      refine (wstep_look wb b pb cap w0.heap.size L p q cl th ls l3 xs ys pcs mp i y0 y1 y2 y3 w h.two e1 e2 e3 e4 hL h.kept.size).mono ?_
      rintro e w' ⟨rfl, hl⟩
      obtain ⟨ls', l3', xs', ys', a1, a2, a3, a4, a5⟩ := hl.out
      exact ⟨rfl, ⟨cl, th, L + 2, by omega, ⟨a1, h.keys, ⟨pb, cap, ls', l3', xs', ys', pcs, a2, a3, e3, a4⟩, h.fresh, a5 w0 rfl (h.fresh _ (by simp)) (h.fresh _ (by simp)) h.kept⟩⟩⟩
    · by_cases hk2 : kd = 2
      · subst hk2
        refine (wstep_does wb b pb cap ls l3 pcs 2 mp i y0 y1 y2 y3 w (fun W w' => Two b p q w' cl (beginT cl p.ts.length th i y0 y1 y2 y3) ∧ Kept (p.m :: q.tb :: p.ts) W w') (by omega) e1 e2 e3 (fun W hW => does_begin b p q cl mp i y0 y1 y2 y3 W th (h.two.keptNil hW) (h2 rfl))).mono ?_
        rintro e w' ⟨rfl, W, hW, hT, hK⟩
        exact ⟨rfl, ⟨_, _, L, by omega, (h.keptNil hW).after hK (by simp only [List.mem_cons]; intro y hy; rcases hy with hy | hy | hy; exact .inl hy; exact .inr (.inr (.inr (.inl hy))); exact .inr (.inr (.inr (.inr hy)))) hT (keys_beginT h.keys)⟩⟩
      · by_cases hk3 : kd = 3
        · subst hk3
          refine (wstep_does wb b pb cap ls l3 pcs 3 mp i y0 y1 y2 y3 w (fun W w' => Two b p q w' cl (stepT cl p.ts.length th i) ∧ Kept (p.m :: q.tb :: p.ts) W w') (by omega) e1 e2 e3 (fun W hW => does_step b p q cl mp i y0 y1 y2 y3 W th (h.two.keptNil hW) h.keys)).mono ?_
          rintro e w' ⟨rfl, W, hW, hT, hK⟩
          exact ⟨rfl, ⟨_, _, L, by omega, (h.keptNil hW).after hK (by simp only [List.mem_cons]; intro y hy; rcases hy with hy | hy | hy; exact .inl hy; exact .inr (.inr (.inr (.inl hy))); exact .inr (.inr (.inr (.inr hy)))) hT (keys_stepT h.keys)⟩⟩
        · obtain rfl : kd = 5 := by omega
          refine (wstep_does wb b pb cap ls l3 pcs 5 mp i y0 y1 y2 y3 w (fun W w' => Two b p q w' true th ∧ Kept [p.m, p.c, q.r] W w') (by omega) e1 e2 e3 (fun W hW => does_close b p q cl mp i y0 y1 y2 y3 W th (h.two.keptNil hW))).mono ?_
          rintro e w' ⟨rfl, W, hW, hT, hK⟩
          exact ⟨rfl, ⟨_, _, L, by omega, (h.keptNil hW).after hK (by simp only [List.mem_cons]; intro y hy; rcases hy with hy | hy | hy | hy; exact .inl hy; exact .inr (.inl hy); exact .inr (.inr (.inl hy)); cases hy) hT h.keys⟩⟩
end Go.Proofs.YtfgfpggjcfhccaaGreat
namespace Go.Proofs.YtfgfpggjcfhccaaGreat
open Go.RowKit
/-- A script of n plain steps that lies in memory. -/
structure Script (w : World) (S : Value) (n : Nat) : Prop where
  lies : ∃ a c, S = .slice a n c ∧ n ≤ c ∧ ∀ k : Nat, k < n → ∃ (sb so : Nat) (kd mp i y0 y1 y2 y3 : Int), a = some ⟨sb, so, none⟩ ∧ sb < w.heap.size ∧
    w.cell? ⟨sb, so + k * 7, none⟩ = some (.int .i64 kd) ∧ w.cell? ⟨sb, so + k * 7 + 1, none⟩ = some (.int .i64 mp) ∧ w.cell? ⟨sb, so + k * 7 + 2, none⟩ = some (.int .i64 i) ∧
    w.cell? ⟨sb, so + k * 7 + 3, none⟩ = some (.int .i64 y0) ∧ w.cell? ⟨sb, so + k * 7 + 4, none⟩ = some (.int .i64 y1) ∧ w.cell? ⟨sb, so + k * 7 + 5, none⟩ = some (.int .i64 y2) ∧ w.cell? ⟨sb, so + k * 7 + 6, none⟩ = some (.int .i64 y3)
theorem Script.kept {w w' : World} {S : Value} {n : Nat} (h : Script w S n) (k : Kept [] w w') : Script w' S n := by
  obtain ⟨a, c, h1, h2, h3⟩ := h.lies
  refine ⟨a, c, h1, h2, fun j hj => ?_⟩
  obtain ⟨sb, so, kd, mp, i, y0, y1, y2, y3, e, hlt, c0, c1, c2, c3, c4, c5, c6⟩ := h3 j hj
  have hc : ∀ o, w'.cell? ⟨sb, o, none⟩ = w.cell? ⟨sb, o, none⟩ := fun o => (k.far hlt (by simp)).1
  exact ⟨sb, so, kd, mp, i, y0, y1, y2, y3, e, Nat.lt_of_lt_of_le hlt k.size, (hc _).trans c0, (hc _).trans c1, (hc _).trans c2, (hc _).trans c3, (hc _).trans c4, (hc _).trans c5, (hc _).trans c6⟩
set_option maxRecDepth 100000 in
set_option maxHeartbeats 6400000 in
theorem plays_yes (S : Value) (n : Nat) (w0 : World) (hS : Script w0 S n) (hn : n ≤ 1048576) : Calls Tryz.prog 9 #[S, .bool false, .bool false, .bool false] w0 fun e w' => e = .returned (.bool true) ∧ Kept [] w0 w' := by
  have HS : Hid _ := hS
  have shape : ∃ a c, S = .slice a n c ∧ n ≤ c := by
    obtain ⟨a, c, h1, h2, _⟩ := hS.lies
    exact ⟨a, c, h1, h2⟩
  obtain ⟨sa, sc, rfl, hsc⟩ := shape
  clear hS
  go_enter Tryz.func9, Tryz.ntmps9
  go_wp2_with fail
  refine (wstep_new w0.heap.size w0 _ (block_alloc_new _ _) ((Kept.refl [] w0).alloc _) (Nat.le_refl _)).mono ?_
  rintro e w1 ⟨rfl, hO⟩
  obtain ⟨b, p, q, hl3, hW⟩ := hO.out
  obtain ⟨pb, cap, ls, l3, xs, ys, pcs, e1, e2, e3, e4⟩ := hW.at_
  have d0 : w1.cell? ⟨w0.heap.size, 0, none⟩ = some (.slice (some ⟨pb, 0, none⟩) 1 cap) := cell_of e1 0
  clear e1 e2 e3 e4 hO hl3
  go_wp2_with fail
  clear d0
  go_loopw [10, 12] (fun ok x W => ∃ k L : Nat, k ≤ n ∧ L ≤ 2 * k ∧ x = .int .i64 k ∧ ok = .bool true ∧ ∃ cl th, WAt w0.heap.size b p q cl th L w0 W) (fun _ x _ => n - (intOf x).toNat)
  case atStart => exact ⟨0, 0, by omega, by omega, rfl, rfl, _, _, hW⟩
  case round =>
    obtain ⟨k, L, hk, hL, rfl, rfl, cl, th, hW⟩ := hrel
    by_cases hlt : k < n
    · have hlt' : (k : Int) < n := by omega
      obtain ⟨_, _, hs1, _, hs3⟩ := (HS.out.kept hW.kept).lies
      cases hs1
      obtain ⟨sb, so, kd, mp, i, y0, y1, y2, y3, rfl, hltb, c0, c1, c2, c3, c4, c5, c6⟩ := hs3 k hlt
      have HC : Hid _ := hs3
      clear hs3
      have hb31 : (k : Int) ≤ 1048576 := by omega
      by_cases hk2 : kd = 2
      · subst hk2
        by_cases hy1 : y0 = 1
        · subst hy1
          go_wp2
          go_roundw
          case rel => exact ⟨k + 1, L, by omega, by omega, by go_num, rfl, _, _, hW.keptNil ((Kept.refl [] wr).alloc _)⟩
          case measure => simp [intOf]; omega
        · by_cases hy2 : 1 < y0
          · have ey : (y0 == 1) = false := beq_eq_false_iff_ne.2 hy1
            go_wp2
            go_roundw
            case rel => exact ⟨k + 1, L, by omega, by omega, by go_num, rfl, _, _, hW.keptNil ((Kept.refl [] wr).alloc _)⟩
            case measure => simp [intOf]; omega
          · have ey : (y0 == 1) = false := beq_eq_false_iff_ne.2 hy1
            go_wp2_with fail
            refine (wstep w0.heap.size b p q cl th L 2 mp i y0 y1 y2 y3 w0 _ (hW.keptNil ((Kept.refl [] wr).alloc _)) (by omega) (fun _ => by omega) (by omega)).mono ?_
            rintro e w2 ⟨rfl, hSt⟩
            obtain ⟨cl2, th2, L2, hL2, hW2⟩ := hSt.out
            obtain ⟨pb2, cap2, ls2, l32, xs2, ys2, pcs2, f1, f2, f3, f4⟩ := hW2.at_
            have HF : Hid _ := And.intro f1 f4
            clear f1 f2 f3 f4 hSt c0 c1 c2 c3 c4 c5 c6 hW
            go_wp2_with fail
            refine (looks_yes w0.heap.size w0.heap.size L2 _ ls2 l32 xs2 ys2 w2 HF.out.1 HF.out.2 (by omega)).mono ?_
            rintro e w3 ⟨rfl, rfl⟩
            go_wp2
            go_roundw
            case rel => exact ⟨k + 1, L2, by omega, by omega, by go_num, rfl, _, _, hW2⟩
            case measure => simp [intOf]; omega
      · have e2 : (kd == 2) = false := beq_eq_false_iff_ne.2 hk2
        by_cases hk1 : kd = 1
        · subst hk1
          go_wp2
          go_roundw
          case rel => exact ⟨k + 1, L, by omega, by omega, by go_num, rfl, _, _, hW.keptNil ((Kept.refl [] wr).alloc _)⟩
          case measure => simp [intOf]; omega
        · have e1 : (kd == 1) = false := beq_eq_false_iff_ne.2 hk1
          go_wp2_with fail
          refine (wstep w0.heap.size b p q cl th L kd mp i y0 y1 y2 y3 w0 _ (hW.keptNil ((Kept.refl [] wr).alloc _)) hk1 (fun h => absurd h hk2) (by omega)).mono ?_
          rintro e w2 ⟨rfl, hSt⟩
          obtain ⟨cl2, th2, L2, hL2, hW2⟩ := hSt.out
          obtain ⟨pb2, cap2, ls2, l32, xs2, ys2, pcs2, f1, f2, f3, f4⟩ := hW2.at_
          have HF : Hid _ := And.intro f1 f4
          clear f1 f2 f3 f4 hSt c0 c1 c2 c3 c4 c5 c6 hW
          go_wp2_with fail
          refine (looks_yes w0.heap.size w0.heap.size L2 _ ls2 l32 xs2 ys2 w2 HF.out.1 HF.out.2 (by omega)).mono ?_
          rintro e w3 ⟨rfl, rfl⟩
          go_wp2
          go_roundw
          case rel => exact ⟨k + 1, L2, by omega, by omega, by go_num, rfl, _, _, hW2⟩
          case measure => simp [intOf]; omega
    · go_wp2
      go_ret
      exact ⟨rfl, hW.kept⟩
set_option maxHeartbeats 400000 in
theorem loaded_yes (S : Value) (n : Nat) (w : World) (hS : Script w S n) (hn : n ≤ 1048576) : Calls Tryz.prog 4 #[S] w fun e w' => e = .returned (.bool true) ∧ Kept [] w w' := by
  go_enter Tryz.func4, Tryz.ntmps4
  go_wp2_with fail
  refine (plays_yes S n w hS hn).mono ?_
  rintro e w' ⟨rfl, hk⟩
  go_wp2
  go_ret
  exact ⟨rfl, hk⟩
end Go.Proofs.YtfgfpggjcfhccaaGreat
