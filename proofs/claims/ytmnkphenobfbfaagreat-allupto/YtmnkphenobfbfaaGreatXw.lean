import Derived.Test.YtmnkphenobfbfaaGreatXu
import Derived.Test.YtmnkphenobfbfaaGreatGj
import Derived.Test.YtmnkphenobfbfaaGreatXv
import Derived.Test.YtmnkphenobfbfaaGreatGg
namespace Go.Proofs.YtmnkphenobfbfaaGreat
open Go.RowKit
theorem Good.keptF {F : List Nat} {w w' : World} {x : Value} {m : Int} (h : Good w x m) (k : Kept F w w') (hF : ∀ g, x.ownBlock = some g → g ∉ F) : Good w' x m := by
  obtain ⟨g, n, cap, cs, h1, h2, h3, h4⟩ := h.good
  exact ⟨g, n, cap, cs, h1, h2, k.at h3 (hF g (by rw [h1]; rfl)), h4⟩
theorem set3_take {l : List Value} {a : Nat} {x : List Value} (h : l.take a = x) (hl : a + 3 ≤ l.length) (u v z : Value) : (((l.set a u).set (a + 1) v).set (a + 2) z).take (a + 3) = x ++ [u, v, z] := by
  have hx : x.length = a := by rw [← h, List.length_take]; omega
  apply List.ext_getElem?
  intro i
  by_cases h1 : i < a
  · rw [List.getElem?_take, if_pos (by omega), List.getElem?_set_ne (by omega), List.getElem?_set_ne (by omega), List.getElem?_set_ne (by omega), List.getElem?_append_left (by omega), ← h, List.getElem?_take, if_pos h1]
  · rw [List.getElem?_append_right (by omega), hx]
    by_cases h2 : i = a
    · subst h2
      rw [List.getElem?_take, if_pos (by omega), List.getElem?_set_ne (by omega), List.getElem?_set_ne (by omega), List.getElem?_set_self (by omega), Nat.sub_self]
      rfl
    · by_cases h3 : i = a + 1
      · subst h3
        rw [List.getElem?_take, if_pos (by omega), List.getElem?_set_ne (by omega), List.getElem?_set_self (by simp; omega), Nat.add_sub_cancel_left]
        rfl
      · by_cases h4 : i = a + 2
        · subst h4
          rw [List.getElem?_take, if_pos (by omega), List.getElem?_set_self (by simp; omega), Nat.add_sub_cancel_left]
          rfl
        · rw [List.getElem?_take, if_neg (by omega), List.getElem?_eq_none (by simp; omega)]
/-- A list that is being written full. -/
structure Filling (b n : Nat) (m : Int) (w : World) (k : Nat) (W : World) : Prop where
  blk : ∃ cur : Array Value, W.heap[b]? = some (.cells cur 84 (0, 0)) ∧ cur.size = n * 3 ∧ cur.toList.take (k * 3) = marks m k
  box : W.heap[w.heap.size]? = some (.cells #[.int .i64 m, .int .i64 0, .int .i64 0] 84 (0, 0))
  kept : Kept [b] w W
theorem Filling.next {b n : Nat} {m : Int} {w : World} {k : Nat} {W : World} (h : Filling b n m w k W) (hk : k < n) (hb : b < w.heap.size) :
    Filling b n m w (k + 1) (((W.setCell ⟨b, k * 3, none⟩ (.int .i64 m)).setCell ⟨b, k * 3 + 1, none⟩ (.int .i64 0)).setCell ⟨b, k * 3 + 2, none⟩ (.int .i64 0)) := by
  obtain ⟨cur, h1, h2, h3⟩ := h.blk
  refine ⟨⟨_, block_set_same (block_set_same (block_set_same h1 _ _) _ _) _ _, by simpa using h2, ?_⟩, block_set_ne (block_set_ne (block_set_ne h.box (by omega) _ _) (by omega) _ _) (by omega) _ _, ((h.kept.setCell (.inl (by simp)) _).setCell (.inl (by simp)) _).setCell (.inl (by simp)) _⟩
  have := set3_take h3 (by simp [h2]; omega) (.int .i64 m) (.int .i64 0) (.int .i64 0)
  rw [show (k + 1) * 3 = k * 3 + 3 by omega]
  simp only [Array.toList_setIfInBounds]
  rw [this, ← marks_add m k 1]
  rfl
theorem good_own {w : World} {base : Nat} {v : Value} {n : Nat} {m : Int} (h : w.ownsRow base 84 3 v n (marks m n)) (h0 : 0 < n) (hn : n ≤ 1000) : Good w v m ∧ ∃ g, v.ownBlock = some g ∧ base ≤ g := by
  rcases h.2 with ⟨_, e⟩ | ⟨g, cap, cur, rfl, e2, e3, e4, e5, e6, e7⟩
  · omega
  · exact ⟨⟨g, n, cap, cur, rfl, hn, e3, e7⟩, g, rfl, e2⟩
/-- Behind the call. -/
structure TookN (wb B L b n : Nat) (ps ls l3 : Value) (xs ys : List Value) (w w' : World) : Prop where
  out : ∃ ls' l3' ys', w'.heap[wb]? = some (.cells #[ps, ls', l3'] 64 (0, 0)) ∧ LAt B ls' l3' (L + 1) (xs ++ [.slice (some ⟨b, 0, none⟩) n n]) ys' w' ∧ Kept (b :: wb :: (ls.ownBlock.toList ++ l3.ownBlock.toList)) w w' ∧
    (∀ (k : Nat) (y : Value), ys'[k]? = some y → (∃ k' : Nat, ys[k']? = some y) ∨ ∀ g, y.ownBlock = some g → w.heap.size ≤ g)
set_option maxRecDepth 100000 in
set_option maxHeartbeats 1600000 in
theorem takes_gen (wb B L b n : Nat) (hn : n ≤ 8) (ps ls l3 : Value) (xs ys : List Value) (w : World) (hb : w.heap[wb]? = some (.cells #[ps, ls, l3] 64 (0, 0))) (h : LAt B ls l3 L xs ys w) (hL : L ≤ 4000000) (hB : B ≤ w.heap.size)
    (X : Array Value) (hX : X.size = n * 3) (hl : w.heap[b]? = some (.cells X 84 (0, 0))) (hxs : ∀ (k : Nat) (x : Value), xs[k]? = some x → x.ownBlock ≠ some b) (hys : ∀ (k : Nat) (y : Value), ys[k]? = some y → y.ownBlock ≠ some b) :
    Calls Tryz.prog 41 #[.pointer (some ⟨wb, 0, none⟩), .slice (some ⟨b, 0, none⟩) n n] w fun e w' => e = .returned (.tuple #[]) ∧ TookN wb B L b n ps ls l3 xs ys w w' := by
  obtain ⟨i0, hi0, hz0, hz1, hz2⟩ := infoE84
  obtain ⟨i1, hi1, hy0, hy1, hy2⟩ := info_parts info25
  have d1 : w.cell? ⟨wb, 1, none⟩ = some ls := cell_of hb 1
  have zb := lt_of_block hb
  have zl := lt_of_block hl
  have HH : Hid _ := h
  have HXS : Hid _ := hxs
  have HYS : Hid _ := hys
  have shape : ∃ a1 n1 c1, ls = .slice a1 L c1 ∧ n1 = L := by
    rcases h.row.2 with ⟨rfl, rfl⟩ | ⟨g, cap, cur, rfl, _⟩
    · exact ⟨_, _, _, rfl, rfl⟩
    · exact ⟨_, _, _, rfl, rfl⟩
  obtain ⟨a1, _, c1, hls, _⟩ := shape
  have HS : Hid _ := hls
  rw [hls] at d1
  have bL : (L : Int) ≤ 4000000 := by omega
  have hne : b ≠ wb := ne_of_blocks hl hb (by simp)
  have hF0 : Filling b n (-1 - L) w 0 (w.alloc (.cells #[.int .i64 (-1 - L), .int .i64 0, .int .i64 0] 84)) := ⟨⟨X, block_alloc_lt hl _, hX, by simp [marks]⟩, block_alloc_new _ _, (Kept.refl _ w).alloc _⟩
  have HB : Hid _ := hb
  have HLS : Hid (ls.ownBlock ≠ some b ∧ l3.ownBlock ≠ some b) := ⟨fun e => by obtain ⟨cs, q, _⟩ := own_lt h.row e; exact absurd (q.symm.trans hl) (by simp), fun e => by obtain ⟨cs, q, _⟩ := own_lt h.row3 e; exact absurd (q.symm.trans hl) (by simp)⟩
  clear h hls hxs hys
  go_enter Tryz.func41, Tryz.ntmps41
  go_wp2
  clear d1 hb hl
  go_loopw [5] (fun x W => ∃ k : Nat, k ≤ n ∧ x = .int .i64 k ∧ Filling b n (-1 - L) w k W) (fun x _ => n - (intOf x).toNat)
  case atStart => exact ⟨0, by omega, rfl, hF0⟩
  case round =>
    obtain ⟨k, hk, rfl, hR⟩ := hrel
    clear hF0
    have cM : ∀ o, wr.cell? ⟨w.heap.size, o, none⟩ = #[.int .i64 (-1 - L), .int .i64 0, .int .i64 0][o]? := cell_of hR.box
    have zM := lt_of_block hR.box
    obtain ⟨cur, hcur, hcs, hct⟩ := hR.blk
    by_cases hlt : k < n
    · have q0 : wr.cell? ⟨b, k * 3, none⟩ = some (cur[k * 3]'(by omega)) := by rw [cell_of hcur]; exact Array.getElem?_eq_getElem _
      have q1 : wr.cell? ⟨b, k * 3 + 1, none⟩ = some (cur[k * 3 + 1]'(by omega)) := by rw [cell_of hcur]; exact Array.getElem?_eq_getElem _
      have q2 : wr.cell? ⟨b, k * 3 + 2, none⟩ = some (cur[k * 3 + 2]'(by omega)) := by rw [cell_of hcur]; exact Array.getElem?_eq_getElem _
      have qf : ∀ o, wr.frozen? ⟨b, o, none⟩ = false := frozen_of hcur
      have hlt' : (k : Int) < (n : Int) := by omega
      have hkt : ((k : Int)).toNat = k := by simp
      have HR : Hid _ := hR.next hlt zl
      clear hR hcur hct
      generalize cur[k * 3]'(by omega) = e0 at *
      generalize cur[k * 3 + 1]'(by omega) = e1 at *
      generalize cur[k * 3 + 2]'(by omega) = e2 at *
      go_wp2
      go_roundw
      case rel => exact ⟨k + 1, by omega, by go_num, HR.out⟩
      case measure => simp [intOf]; omega
    · skip
      have hkn : n = k := by omega
      subst hkn
      have hbk : wr.heap[b]? = some (.cells (marks (-1 - L) n).toArray 84 (0, 0)) := by
        obtain ⟨c2, a1, a2, a3⟩ := hR.blk
        have e2 : marks (-1 - L) n = c2.toList := by rw [← a3]; exact List.take_of_length_le (by simp [a2])
        rw [a1, e2]
      have HBK : Hid _ := hbk
      clear hbk
      have hM := hR.box
      have K0 : Kept [b] w wr := hR.kept
      clear hR hcur hct
      go_upto_region 5 with (fail)
      go_cut [6] (fun x w' => Good w' x (-1 - L) ∧ (∃ g, x.ownBlock = some g ∧ wr.heap.size ≤ g) ∧ Kept [] wr w')
      case first =>
        go_wp2_with (at_builtin; go_must (refine wpList_append_grows _ rfl _ _ 25 rfl 84 i0 _ 3 24 Tryz.underlying25 hi0 hz0 hz1 hz2 rfl (by omega) (some ⟨b, 0, none⟩) n n (marks (-1 - L) n) rfl (by simp) (marks_length _ _) (fun b' e => by cases e; exact World.news_of_block (cs := (marks (-1 - L) n).toArray) (t := 84) (fr := (0, 0)) (block_alloc_lt HBK.out _)) ⟨wr.heap.size, 0, none⟩ 1 1 (marks (-1 - L) 1) rfl rfl (World.news_of_block (cs := #[.int .i64 (-1 - L), .int .i64 0, .int .i64 0]) (t := 84) (fr := (0, 0)) (block_alloc_new wr _)) (by simp [marks, Value.oneCell']) (by omega) (by unfold maxLen; omega) (by omega) ?_); intro v4 w4 own4 gr4)
        rw [marks_add] at own4
        have hg4 := good_own own4 (by omega) (by omega)
        have kg4 : Hid (Kept [] wr w4) := ((Kept.refl [] wr).alloc _).trans (Kept.ofGrown gr4)
        have HG4 : Hid _ := hg4
        clear own4 gr4 hg4
        go_wp2
        go_meet
        obtain ⟨G, g, e1, e2⟩ := HG4.out
        exact ⟨G, ⟨g, e1, by simp only [World.size_alloc] at e2; omega⟩, kg4.out⟩
      case rest =>
        obtain ⟨G1, ⟨g1, o1, z1⟩, k1⟩ := hcut
        have Z1 : Hid (w.heap.size ≤ g1) := Nat.le_trans K0.size z1
        replace hM := k1.at hM (by simp)
        replace K0 := K0.trans (k1.mono (by simp))
        replace HBK : Hid _ := k1.at HBK.out (by simp)
        clear cM zM k1
        have cM : ∀ o, wc.cell? ⟨w.heap.size, o, none⟩ = #[.int .i64 (-1 - L), .int .i64 0, .int .i64 0][o]? := cell_of hM
        have zM := lt_of_block hM
        have O1 : Hid _ := o1
        clear o1
        go_upto_region 6 with (fail)
        go_cut [7] (fun x w' => Good w' x (-1 - L) ∧ (∃ g, x.ownBlock = some g ∧ wc.heap.size ≤ g) ∧ Kept [] wc w')
        case first =>
          go_wp2_with (at_builtin; go_must (refine wpList_append_grows _ rfl _ _ 25 rfl 84 i0 _ 3 24 Tryz.underlying25 hi0 hz0 hz1 hz2 rfl (by omega) (some ⟨b, 0, none⟩) n n (marks (-1 - L) n) rfl (by simp) (marks_length _ _) (fun b' e => by cases e; exact World.news_of_block (cs := (marks (-1 - L) n).toArray) (t := 84) (fr := (0, 0)) (block_alloc_lt HBK.out _)) ⟨wc.heap.size, 0, none⟩ 2 2 (marks (-1 - L) 2) rfl rfl (World.news_of_block (cs := #[.int .i64 (-1 - L), .int .i64 0, .int .i64 0, .int .i64 (-1 - L), .int .i64 0, .int .i64 0]) (t := 84) (fr := (0, 0)) (block_alloc_new wc _)) (by simp [marks, Value.oneCell']) (by omega) (by unfold maxLen; omega) (by omega) ?_); intro v4 w4 own4 gr4)
          rw [marks_add] at own4
          have hg4 := good_own own4 (by omega) (by omega)
          have kg4 : Hid (Kept [] wc w4) := ((Kept.refl [] wc).alloc _).trans (Kept.ofGrown gr4)
          have HG4 : Hid _ := hg4
          clear own4 gr4 hg4
          go_wp2
          go_meet
          obtain ⟨G, g, e1, e2⟩ := HG4.out
          exact ⟨G, ⟨g, e1, by simp only [World.size_alloc] at e2; omega⟩, kg4.out⟩
        case rest =>
          obtain ⟨G2, ⟨g2, o2, z2⟩, k1⟩ := hcut
          have Z2 : Hid (w.heap.size ≤ g2) := Nat.le_trans K0.size z2
          replace hM := k1.at hM (by simp)
          replace K0 := K0.trans (k1.mono (by simp))
          replace G1 := G1.kept k1 (by simp)
          replace HBK : Hid _ := k1.at HBK.out (by simp)
          clear cM zM k1
          have cM : ∀ o, wc.cell? ⟨w.heap.size, o, none⟩ = #[.int .i64 (-1 - L), .int .i64 0, .int .i64 0][o]? := cell_of hM
          have zM := lt_of_block hM
          have O2 : Hid _ := o2
          clear o2
          go_upto_region 7 with (fail)
          go_cut [8] (fun x w' => Good w' x (-1 - L) ∧ (∃ g, x.ownBlock = some g ∧ wc.heap.size ≤ g) ∧ Kept [] wc w')
          case first =>
            go_wp2_with (at_builtin; go_must (refine wpList_append_grows _ rfl _ _ 25 rfl 84 i0 _ 3 24 Tryz.underlying25 hi0 hz0 hz1 hz2 rfl (by omega) (some ⟨b, 0, none⟩) n n (marks (-1 - L) n) rfl (by simp) (marks_length _ _) (fun b' e => by cases e; exact World.news_of_block (cs := (marks (-1 - L) n).toArray) (t := 84) (fr := (0, 0)) (block_alloc_lt HBK.out _)) ⟨wc.heap.size, 0, none⟩ 3 3 (marks (-1 - L) 3) rfl rfl (World.news_of_block (cs := #[.int .i64 (-1 - L), .int .i64 0, .int .i64 0, .int .i64 (-1 - L), .int .i64 0, .int .i64 0, .int .i64 (-1 - L), .int .i64 0, .int .i64 0]) (t := 84) (fr := (0, 0)) (block_alloc_new wc _)) (by simp [marks, Value.oneCell']) (by omega) (by unfold maxLen; omega) (by omega) ?_); intro v4 w4 own4 gr4)
            rw [marks_add] at own4
            have hg4 := good_own own4 (by omega) (by omega)
            have kg4 : Hid (Kept [] wc w4) := ((Kept.refl [] wc).alloc _).trans (Kept.ofGrown gr4)
            have HG4 : Hid _ := hg4
            clear own4 gr4 hg4
            go_wp2
            go_meet
            obtain ⟨G, g, e1, e2⟩ := HG4.out
            exact ⟨G, ⟨g, e1, by simp only [World.size_alloc] at e2; omega⟩, kg4.out⟩
          case rest =>
            obtain ⟨G3, ⟨g3, o3, z3⟩, k1⟩ := hcut
            have Z3 : Hid (w.heap.size ≤ g3) := Nat.le_trans K0.size z3
            replace hM := k1.at hM (by simp)
            replace K0 := K0.trans (k1.mono (by simp))
            replace G1 := G1.kept k1 (by simp)
            replace G2 := G2.kept k1 (by simp)
            replace HBK : Hid _ := k1.at HBK.out (by simp)
            clear cM zM k1
            have O3 : Hid _ := o3
            clear o3
            have hP : Ph wb B ps ls l3 L (3 * L) xs ys wc := ⟨K0.at HB.out (by simpa using Ne.symm hne), ownsRow.keptF HH.out.row K0 (fun g hg hm => by simp only [List.mem_singleton] at hm; subst hm; exact HLS.out.1 hg), ownsRow.keptF HH.out.row3 K0 (fun g hg hm => by simp only [List.mem_singleton] at hm; subst hm; exact HLS.out.2 hg), HH.out.apart⟩
            have GG : Hid (∀ (k : Nat) (x : Value), xs[k]? = some x → Good wc x (-1 - k)) := fun k x hk => (HH.out.good k x hk).keptF K0 (fun g hg hm => by simp only [List.mem_singleton] at hm; subst hm; exact HXS.out k x hk hg)
            have GH : Hid (∀ (k : Nat) (y : Value), ys[k]? = some y → Good wc y (-1 - (k / 3 : Nat))) := fun k y hk => (HH.out.good3 k y hk).keptF K0 (fun g hg hm => by simp only [List.mem_singleton] at hm; subst hm; exact HYS.out k y hk hg)
            have GL : Good wc (.slice (some ⟨b, 0, none⟩) n n) (-1 - L) := ⟨b, n, n, (marks (-1 - L) n).toArray, rfl, by omega, HBK.out, List.take_of_length_le (Nat.le_of_eq (marks_length _ _))⟩
            have hsz := K0.size
            have KK : Hid (Kept (b :: wb :: (ls.ownBlock.toList ++ l3.ownBlock.toList)) w wc) := K0.mono (by simp)
            clear K0 hM HH HB
            have hb1 := hP.b
            have d1 : wc.cell? ⟨wb, 1, none⟩ = some ls := cell_of hb1 1
            have zb1 := lt_of_block hb1
            have om := rowBlock hb1 hP.ra
            have HP : Hid _ := hP
            have kB := hsz
            clear hP
            go_upto_region 8 with (fail)
            go_cut [] (fun w' => ∃ ls', Ph wb B ps ls' l3 (L + 1) (3 * L) (xs ++ [.slice (some ⟨b, 0, none⟩) n n]) ys w' ∧ Went wb ls ls' wc w')
            case first =>
              go_wp2_with (at_builtin; go_must (refine wpList_append_lies _ rfl _ _ _ rfl B 25 i1 _ 1 24 Tryz.underlying62 hi1 hy0 hy1 hy2 rfl (by omega) ls L xs rfl (HP.out.keptNil ((Kept.refl [] wc).alloc _)).ra ⟨wc.heap.size, 0, none⟩ 1 1 [.slice (some ⟨b, 0, none⟩) n n] rfl rfl (news1 wc _ 25) (by simp [Value.oneCell']) (by omega) (by unfold maxLen; omega) (by omega) (by simp; omega) (wc.heap.size + 1) (by simp) ?_); intro g cap w1 hown1 hgrow hat hlt1; have hm1 := (hgrow.block wb (by simp; omega) (Ne.symm om)).trans (block_alloc_lt hb1 _); have s4 := cell_of hm1 1; have sf := frozen_of hm1 1)
              go_meet
              exact ⟨_, HP.out.stepA hown1 hgrow hat⟩
            case rest =>
              obtain ⟨ls', hP, hW⟩ := hcut
              replace GG : Hid _ := fun (k : Nat) (x : Value) hk => hW.good _ _ (GG.out k x hk)
              replace GH : Hid _ := fun (k : Nat) (y : Value) hk => hW.good _ _ (GH.out k y hk)
              replace GL := hW.good _ _ GL
              replace G1 := hW.good _ _ G1
              replace G2 := hW.good _ _ G2
              replace G3 := hW.good _ _ G3
              have W1 : Hid _ := hW.own
              replace KK : Hid (Kept (b :: wb :: (ls.ownBlock.toList ++ l3.ownBlock.toList)) w wc) := KK.out.drop hW.kept (fun x hx hlt => by simp at hx ⊢; right; rcases hx with hx | hx; exact .inl hx; exact .inr (.inl hx))
              replace hsz := Nat.le_trans hsz hW.kept.size
              clear W1 hW HP d1 om hb1 zb1
              have hb1 := hP.b
              have d1 : wc.cell? ⟨wb, 2, none⟩ = some l3 := cell_of hb1 2
              have zb1 := lt_of_block hb1
              have om := rowBlock hb1 hP.rc
              obtain ⟨q0, r0, t0, v0, rfl, _⟩ := G1.good
              have HP : Hid _ := hP
              clear hP
              go_upto_region 9 with (fail)
              go_cut [] (fun w' => ∃ c', Ph wb B ps ls' c' (L + 1) (3 * L + 1) (xs ++ [.slice (some ⟨b, 0, none⟩) n n]) (ys ++ [.slice (some ⟨q0, 0, none⟩) r0 t0]) w' ∧ Went wb l3 c' wc w')
              case first =>
                go_wp2_with (at_builtin; go_must (refine wpList_append_lies _ rfl _ _ _ rfl B 25 i1 _ 1 24 Tryz.underlying62 hi1 hy0 hy1 hy2 rfl (by omega) l3 (3 * L) (ys) rfl (HP.out.keptNil ((Kept.refl [] wc).alloc _)).rc ⟨wc.heap.size, 0, none⟩ 1 1 [.slice (some ⟨q0, 0, none⟩) r0 t0] rfl rfl (news1 wc _ 25) (by simp [Value.oneCell']) (by omega) (by unfold maxLen; omega) (by omega) (by simp; omega) (wc.heap.size + 1) (by simp) ?_); intro g cap w1 hown1 hgrow hat hlt1; have hm1 := (hgrow.block wb (by simp; omega) (Ne.symm om)).trans (block_alloc_lt hb1 _); have s4 := cell_of hm1 2; have sf := frozen_of hm1 2)
                go_meet
                exact ⟨_, HP.out.stepC hown1 hgrow hat⟩
              case rest =>
                obtain ⟨m1, hP, hW⟩ := hcut
                replace GG : Hid _ := fun (k : Nat) (x : Value) hk => hW.good _ _ (GG.out k x hk)
                replace GH : Hid _ := fun (k : Nat) (y : Value) hk => hW.good _ _ (GH.out k y hk)
                replace GL := hW.good _ _ GL
                replace G1 := hW.good _ _ G1
                replace G2 := hW.good _ _ G2
                replace G3 := hW.good _ _ G3
                replace KK : Hid (Kept (b :: wb :: (ls.ownBlock.toList ++ l3.ownBlock.toList)) w wc) := KK.out.drop hW.kept (fun x hx hlt => by simp at hx ⊢; right; rcases hx with hx | hx; exact .inl hx; exact .inr (.inr hx))
                have W2 : Hid (∀ g, m1.ownBlock = some g → l3.ownBlock = some g ∨ w.heap.size ≤ g) := fun g hg => by
                  rcases hW.own g hg with h | h
                  · exact .inl h
                  · exact .inr (by omega)
                replace hsz := Nat.le_trans hsz hW.kept.size
                clear hW HP d1 om hb1 zb1
                have hb1 := hP.b
                have d1 : wc.cell? ⟨wb, 2, none⟩ = some m1 := cell_of hb1 2
                have zb1 := lt_of_block hb1
                have om := rowBlock hb1 hP.rc
                obtain ⟨q1, r1, t1, v1, rfl, _⟩ := G2.good
                have HP : Hid _ := hP
                clear hP
                go_upto_region 10 with (fail)
                go_cut [] (fun w' => ∃ c', Ph wb B ps ls' c' (L + 1) (3 * L + 1 + 1) (xs ++ [.slice (some ⟨b, 0, none⟩) n n]) (ys ++ [.slice (some ⟨q0, 0, none⟩) r0 t0] ++ [.slice (some ⟨q1, 0, none⟩) r1 t1]) w' ∧ Went wb m1 c' wc w')
                case first =>
                  go_wp2_with (at_builtin; go_must (refine wpList_append_lies _ rfl _ _ _ rfl B 25 i1 _ 1 24 Tryz.underlying62 hi1 hy0 hy1 hy2 rfl (by omega) m1 (3 * L + 1) (ys ++ [.slice (some ⟨q0, 0, none⟩) r0 t0]) rfl (HP.out.keptNil ((Kept.refl [] wc).alloc _)).rc ⟨wc.heap.size, 0, none⟩ 1 1 [.slice (some ⟨q1, 0, none⟩) r1 t1] rfl rfl (news1 wc _ 25) (by simp [Value.oneCell']) (by omega) (by unfold maxLen; omega) (by omega) (by simp; omega) (wc.heap.size + 1) (by simp) ?_); intro g cap w1 hown1 hgrow hat hlt1; have hm1 := (hgrow.block wb (by simp; omega) (Ne.symm om)).trans (block_alloc_lt hb1 _); have s4 := cell_of hm1 2; have sf := frozen_of hm1 2)
                  go_meet
                  exact ⟨_, HP.out.stepC hown1 hgrow hat⟩
                case rest =>
                  obtain ⟨m2, hP, hW⟩ := hcut
                  replace GG : Hid _ := fun (k : Nat) (x : Value) hk => hW.good _ _ (GG.out k x hk)
                  replace GH : Hid _ := fun (k : Nat) (y : Value) hk => hW.good _ _ (GH.out k y hk)
                  replace GL := hW.good _ _ GL
                  replace G1 := hW.good _ _ G1
                  replace G2 := hW.good _ _ G2
                  replace G3 := hW.good _ _ G3
                  replace KK : Hid (Kept (b :: wb :: (ls.ownBlock.toList ++ l3.ownBlock.toList)) w wc) := KK.out.drop hW.kept (fun x hx hlt => by simp at hx ⊢; right; rcases hx with hx | hx; exact .inl hx; rcases W2.out x hx with h | h; exact .inr (.inr h); omega)
                  have W3 : Hid (∀ g, m2.ownBlock = some g → l3.ownBlock = some g ∨ w.heap.size ≤ g) := fun g hg => by
                    rcases hW.own g hg with h | h
                    · exact W2.out g h
                    · exact .inr (by omega)
                  replace hsz := Nat.le_trans hsz hW.kept.size
                  clear hW HP d1 om hb1 zb1 W2
                  have hb1 := hP.b
                  have d1 : wc.cell? ⟨wb, 2, none⟩ = some m2 := cell_of hb1 2
                  have zb1 := lt_of_block hb1
                  have om := rowBlock hb1 hP.rc
                  obtain ⟨q2, r2, t2, v2, rfl, _⟩ := G3.good
                  have HP : Hid _ := hP
                  clear hP
                  go_upto_region 11 with (fail)
                  go_wp2_with (at_builtin; go_must (refine wpList_append_lies _ rfl _ _ _ rfl B 25 i1 _ 1 24 Tryz.underlying62 hi1 hy0 hy1 hy2 rfl (by omega) m2 (3 * L + 1 + 1) (ys ++ [.slice (some ⟨q0, 0, none⟩) r0 t0] ++ [.slice (some ⟨q1, 0, none⟩) r1 t1]) rfl (HP.out.keptNil ((Kept.refl [] wc).alloc _)).rc ⟨wc.heap.size, 0, none⟩ 1 1 [.slice (some ⟨q2, 0, none⟩) r2 t2] rfl rfl (news1 wc _ 25) (by simp [Value.oneCell']) (by omega) (by unfold maxLen; omega) (by omega) (by simp; omega) (wc.heap.size + 1) (by simp) ?_); intro g cap w1 hown1 hgrow hat hlt1; have hm1 := (hgrow.block wb (by simp; omega) (Ne.symm om)).trans (block_alloc_lt hb1 _); have s4 := cell_of hm1 2; have sf := frozen_of hm1 2)
                  obtain ⟨hP, hW⟩ := HP.out.stepC hown1 hgrow hat
                  go_end0
                  replace GG : Hid _ := fun (k : Nat) (x : Value) hk => hW.good _ _ (GG.out k x hk)
                  replace GH : Hid _ := fun (k : Nat) (y : Value) hk => hW.good _ _ (GH.out k y hk)
                  replace GL := hW.good _ _ GL
                  replace G1 := hW.good _ _ G1
                  replace G2 := hW.good _ _ G2
                  replace G3 := hW.good _ _ G3
                  have K9 := KK.out.drop hW.kept (F := b :: wb :: (ls.ownBlock.toList ++ l3.ownBlock.toList)) (fun x hx hlt => by simp at hx ⊢; right; rcases hx with hx | hx; exact .inl hx; rcases W3.out x hx with h | h; exact .inr (.inr h); omega)
                  refine ⟨rfl, ⟨ls', _, _, hP.b, ⟨hP.ra, hP.rc, hP.ap, fun k x hk => ?_, fun k y hk => ?_⟩, K9, fun k y hk => ?_⟩⟩
                  · simp only [List.getElem?_append] at hk
                    split at hk
                    · exact GG.out k x hk
                    · have hlen : xs.length = L := by have := hP.ra.1; simp at this; omega
                      by_cases hkL : k = L
                      · subst hkL
                        simp [hlen] at hk
                        subst hk
                        exact GL
                      · have : ∃ d, k - xs.length = d + 1 := ⟨k - xs.length - 1, by omega⟩
                        obtain ⟨d, hd⟩ := this
                        rw [hd] at hk
                        simp at hk
                  · have hlen : ys.length = 3 * L := by have := hP.rc.1; simp at this; omega
                    simp only [List.append_assoc, List.cons_append, List.nil_append, List.getElem?_append] at hk
                    split at hk
                    · exact GH.out k y hk
                    · have hk3 : k = 3 * L ∨ k = 3 * L + 1 ∨ k = 3 * L + 2 ∨ 3 * L + 3 ≤ k := by omega
                      rcases hk3 with rfl | rfl | rfl | hk3
                      · rw [hlen, Nat.sub_self] at hk
                        simp at hk
                        subst hk
                        rw [show 3 * L / 3 = L by omega]
                        exact G1
                      · rw [hlen, show 3 * L + 1 - 3 * L = 1 by omega] at hk
                        simp at hk
                        subst hk
                        rw [show (3 * L + 1) / 3 = L by omega]
                        exact G2
                      · rw [hlen, show 3 * L + 2 - 3 * L = 2 by omega] at hk
                        simp at hk
                        subst hk
                        rw [show (3 * L + 2) / 3 = L by omega]
                        exact G3
                      · obtain ⟨d, hd⟩ : ∃ d, k - ys.length = d + 3 := ⟨k - ys.length - 3, by omega⟩
                        rw [hd] at hk
                        simp at hk
                  · have hm := List.mem_of_getElem? hk
                    simp only [List.mem_append, List.mem_singleton] at hm
                    rcases hm with ((hm | rfl) | rfl) | rfl
                    · obtain ⟨k', hk'⟩ := List.getElem?_of_mem hm
                      exact .inl ⟨k', hk'⟩
                    · exact .inr fun g hg => by have h1 := O1.out; rw [hg] at h1; have h2 := Z1.out; simp only [Option.some.injEq] at h1; omega
                    · exact .inr fun g hg => by have h1 := O2.out; rw [hg] at h1; have h2 := Z2.out; simp only [Option.some.injEq] at h1; omega
                    · exact .inr fun g hg => by have h1 := O3.out; rw [hg] at h1; have h2 := Z3.out; simp only [Option.some.injEq] at h1; omega
end Go.Proofs.YtmnkphenobfbfaaGreat
namespace Go.Proofs.YtmnkphenobfbfaaGreat
open Go.RowKit
theorem RefAt.mk0 {r tb n : Nat} {w : World} (h6 : n ≤ 6) (B : Nat) (h1 : w.heap[r]? = some (.cells (rCells ⟨r, tb, n⟩ false) 59 (0, 0))) (h2 : w.heap[tb]? = some (.cells (zeros n) 90 (0, 0))) : RefAt r tb (.slice none 0 0) B (M.new n) w := by
  refine ⟨h6, ⟨_, h1, ⟨rfl, rfl, ?_, rfl, rfl, ?_, rfl, rfl, rfl, rfl⟩⟩, ⟨zeros n, h2, by simp [zeros, M.new], fun i hi => ?_⟩, ⟨rfl, .inl ⟨rfl, rfl⟩⟩⟩
  · intro k hk
    match k, hk with
    | 0, _ | 1, _ | 2, _ | 3, _ | 4, _ | 5, _ | 6, _ | 7, _ => rfl
  · intro k hk
    match k, hk with
    | 0, _ | 1, _ | 2, _ | 3, _ | 4, _ | 5, _ | 6, _ | 7, _ => rfl
  · have hi' : i < n := hi
    refine ⟨?_, ?_, ?_, ?_, ?_, ?_, ?_, ?_, ?_⟩
    all_goals
      simp only [zeros]
      rw [Array.getElem?_replicate, if_pos (by omega)]
      rfl
set_option maxRecDepth 100000 in
set_option maxHeartbeats 4000000 in
theorem rnew_gen (n : Nat) (w : World) (h1 : 1 ≤ n) (h6 : n ≤ 6) : Calls Tryz.prog 12 #[.int .i64 n] w fun e w' => ∃ q : RM, e = .returned (.tuple #[.pointer (some ⟨q.r, 0, none⟩), .int .i64 0]) ∧
    q.n = n ∧ (∀ B, RefAt q.r q.tb (.slice none 0 0) B (M.new n) w') ∧ w.heap.size ≤ q.tb ∧ w.heap.size ≤ q.r ∧ Kept [] w w' := by
  have h1' : ¬ (n : Int) < 1 := by omega
  have h6' : ¬ 6 < (n : Int) := by omega
  have hmk := mk_threads n h6
  go_enter Tryz.func12, Tryz.ntmps12
  go_wp2_with fail
  go_region_with (first | (go_at_call 25; refine (rnone _).mono ?_; rintro e w' ⟨rfl, rfl⟩; simp only [negTbl]))
  all_goals go_wp2
  all_goals go_ret2
  all_goals (have f4 := four w)
  · exact ⟨⟨_, _, n⟩, rfl, rfl, fun B => RefAt.mk0 h6 B (f4 _ _ _ _).2.2.2 (f4 _ _ _ _).2.2.1, by simp only []; omega, by simp only []; omega, (((((Kept.refl [] w).alloc _).alloc _).alloc _).alloc _).drew⟩
  · exact ⟨⟨_, _, n⟩, rfl, rfl, fun B => RefAt.mk0 h6 B (f4 _ _ _ _).2.2.2 (f4 _ _ _ _).2.1, by simp only []; omega, by simp only []; omega, (((((Kept.refl [] w).alloc _).alloc _).alloc _).alloc _).drew⟩
  · exact ⟨⟨_, _, n⟩, rfl, rfl, fun B => RefAt.mk0 h6 B (f4 _ _ _ _).2.2.2 (f4 _ _ _ _).1, Nat.le_refl _, by simp only []; omega, (((((Kept.refl [] w).alloc _).alloc _).alloc _).alloc _).drew⟩
set_option maxHeartbeats 800000 in
theorem open_gen (n : Nat) (w : World) (h1 : 1 ≤ n) (h6 : n ≤ 6) : Calls Tryz.prog 7 #[.int .i64 n] w fun e w' => ∃ (b : Nat) (p : PM) (r tb : Nat), e = .returned (.tuple #[.pointer (some ⟨b, 0, none⟩), .bool true]) ∧
    (∀ B, B ≤ w'.heap.size → Pair b p (fun _ => 0) r tb (.slice none 0 0) B (M.new n) w') ∧ Kept [] w w' ∧ w.heap.size ≤ b ∧ (∀ x, x ∈ fpm p (fun _ => 0) (M.new n) ++ fr r tb (.slice none 0 0) → w.heap.size ≤ x) := by
  go_enter Tryz.func7, Tryz.ntmps7
  go_wp2_with fail
  refine (new_gen n w h1 h6).mono ?_
  rintro e w1 ⟨p, rfl, hl, hp, hz, hzc, hzs, hnew, k1⟩
  go_wp2_with fail
  refine (rnew_gen n w1 h1 h6).mono ?_
  rintro e w2 ⟨q, rfl, hqn, hq, hz1, hz2, k2⟩
  have HP : Hid _ := (GAt.ofNew hl hp (fun _ => 0)).keptNil k2
  have HQ : Hid _ := hq
  have hsz := (k1.trans k2).size
  have HK : Hid (Kept [] w w2) := k1.trans k2
  have HF : Hid (∀ x, x ∈ fpm p (fun _ => 0) (M.new n) ++ fr q.r q.tb (.slice none 0 0) → w.heap.size ≤ x) := by
    intro x hx
    have := k1.size
    simp only [fpm, fp, fr, M.new, Value.ownBlock, Option.toList, List.range_zero, List.map_nil, List.append_nil, List.mem_append, List.mem_cons, List.not_mem_nil, or_false] at hx
    rcases hx with (rfl | rfl | rfl | hx) | rfl | rfl
    · exact hz
    · exact hzc
    · exact hzs
    · exact hnew x hx
    · omega
    · omega
  clear hp hq k1 k2 hnew hz hzc hzs
  go_wp2
  go_ret2
  refine ⟨_, p, q.r, q.tb, rfl, fun B hB => ⟨block_alloc_new _ _, HP.out.alloc _, (HQ.out B).alloc _, inv_new n, hB⟩, HK.out.alloc _, hsz, HF.out⟩
end Go.Proofs.YtmnkphenobfbfaaGreat
