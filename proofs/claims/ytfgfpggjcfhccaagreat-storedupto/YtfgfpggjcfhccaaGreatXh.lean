import Derived.Test.YtfgfpggjcfhccaaGreatXg
import Derived.Test.YtfgfpggjcfhccaaGreatXe
import Derived.Test.YtfgfpggjcfhccaaGreatXd
namespace Go.Proofs.YtfgfpggjcfhccaaGreat
open Go.RowKit
theorem Good.keptF {F : List Nat} {w w' : World} {x : Value} {m : Int} (h : Good w x m) (k : Kept F w w') (hF : ∀ g, x.ownBlock = some g → g ∉ F) : Good w' x m := by
  obtain ⟨g, n, cap, cs, h1, h2, h3, h4⟩ := h.good
  exact ⟨g, n, cap, cs, h1, h2, k.at h3 (hF g (by rw [h1]; rfl)), h4⟩
theorem set3_take {l : List Value} {a : Nat} {x : List Value} (h : l.take a = x) (hl : a + 3 ≤ l.length) (u v z : Value) : (((l.set a u).set (a + 1) v).set (a + 2) z).take (a + 3) = x ++ [u, v, z] := by
  have hx : x.length = a := by rw [← h, List.length_take]; omega
  apply List.ext_getElem?
  intro i
  by_cases h1 : i < a
  · rw [List.getElem?_take, if_pos (by omega), List.getElem?_set_ne (by omega), List.getElem?_set_ne (by omega), List.getElem?_set_ne (by omega), List.getElem?_append_left (by omega), ← h, List.getElem?_take, if_pos h1]
  · rw [List.getElem?_append_right (by omega), hx]
    by_cases h2 : i = a
    · subst h2
      rw [List.getElem?_take, if_pos (by omega), List.getElem?_set_ne (by omega), List.getElem?_set_ne (by omega), List.getElem?_set_self (by omega), Nat.sub_self]
      rfl
    · by_cases h3 : i = a + 1
      · subst h3
        rw [List.getElem?_take, if_pos (by omega), List.getElem?_set_ne (by omega), List.getElem?_set_self (by simp; omega), Nat.add_sub_cancel_left]
        rfl
      · by_cases h4 : i = a + 2
        · subst h4
          rw [List.getElem?_take, if_pos (by omega), List.getElem?_set_self (by simp; omega), Nat.add_sub_cancel_left]
          rfl
        · rw [List.getElem?_take, if_neg (by omega), List.getElem?_eq_none (by simp; omega)]
/-- A list that is being written full. -/
structure Filling (b n : Nat) (m : Int) (w : World) (k : Nat) (W : World) : Prop where
  blk : ∃ cur : Array Value, W.heap[b]? = some (.cells cur 84 (0, 0)) ∧ cur.size = n * 3 ∧ cur.toList.take (k * 3) = marks m k
  box : W.heap[w.heap.size]? = some (.cells #[.int .i64 m, .int .i64 0, .int .i64 0] 84 (0, 0))
  kept : Kept [b] w W
theorem Filling.next {b n : Nat} {m : Int} {w : World} {k : Nat} {W : World} (h : Filling b n m w k W) (hk : k < n) (hb : b < w.heap.size) :
    Filling b n m w (k + 1) (((W.setCell ⟨b, k * 3, none⟩ (.int .i64 m)).setCell ⟨b, k * 3 + 1, none⟩ (.int .i64 0)).setCell ⟨b, k * 3 + 2, none⟩ (.int .i64 0)) := by
  obtain ⟨cur, h1, h2, h3⟩ := h.blk
  refine ⟨⟨_, block_set_same (block_set_same (block_set_same h1 _ _) _ _) _ _, by simpa using h2, ?_⟩, block_set_ne (block_set_ne (block_set_ne h.box (by omega) _ _) (by omega) _ _) (by omega) _ _, ((h.kept.setCell (.inl (by simp)) _).setCell (.inl (by simp)) _).setCell (.inl (by simp)) _⟩
  have := set3_take h3 (by simp [h2]; omega) (.int .i64 m) (.int .i64 0) (.int .i64 0)
  rw [show (k + 1) * 3 = k * 3 + 3 by omega]
  simp only [Array.toList_setIfInBounds]
  rw [this, ← marks_add m k 1]
  rfl
theorem good_own {w : World} {base : Nat} {v : Value} {n : Nat} {m : Int} (h : w.ownsRow base 84 3 v n (marks m n)) (h0 : 0 < n) (hn : n ≤ 1000) : Good w v m ∧ ∃ g, v.ownBlock = some g ∧ base ≤ g := by
  rcases h.2 with ⟨_, e⟩ | ⟨g, cap, cur, rfl, e2, e3, e4, e5, e6, e7⟩
  · omega
  · exact ⟨⟨g, n, cap, cur, rfl, hn, e3, e7⟩, g, rfl, e2⟩
/-- Behind the call. -/
structure TookN (wb B L b n : Nat) (ps ls l3 : Value) (xs ys : List Value) (w w' : World) : Prop where
  out : ∃ ls' l3' ys', w'.heap[wb]? = some (.cells #[ps, ls', l3'] 64 (0, 0)) ∧ LAt B ls' l3' (L + 1) (xs ++ [.slice (some ⟨b, 0, none⟩) n n]) ys' w' ∧ Kept (b :: wb :: (ls.ownBlock.toList ++ l3.ownBlock.toList)) w w' ∧
    (∀ (k : Nat) (y : Value), ys'[k]? = some y → (∃ k' : Nat, ys[k']? = some y) ∨ ∀ g, y.ownBlock = some g → w.heap.size ≤ g)
set_option maxRecDepth 100000 in
set_option maxHeartbeats 1600000 in
theorem takes_gen (wb B L b n : Nat) (hn : n ≤ 8) (ps ls l3 : Value) (xs ys : List Value) (w : World) (hb : w.heap[wb]? = some (.cells #[ps, ls, l3] 64 (0, 0))) (h : LAt B ls l3 L xs ys w) (hL : L ≤ 4000000) (hB : B ≤ w.heap.size)
    (X : Array Value) (hX : X.size = n * 3) (hl : w.heap[b]? = some (.cells X 84 (0, 0))) (hxs : ∀ (k : Nat) (x : Value), xs[k]? = some x → x.ownBlock ≠ some b) (hys : ∀ (k : Nat) (y : Value), ys[k]? = some y → y.ownBlock ≠ some b) :
    Calls Tryz.prog 40 #[.pointer (some ⟨wb, 0, none⟩), .slice (some ⟨b, 0, none⟩) n n] w fun e w' => e = .returned (.tuple #[]) ∧ TookN wb B L b n ps ls l3 xs ys w w' := by
  obtain ⟨i0, hi0, hz0, hz1, hz2⟩ := infoE84
  obtain ⟨i1, hi1, hy0, hy1, hy2⟩ := info_parts info25
  have d1 : w.cell? ⟨wb, 1, none⟩ = some ls := cell_of hb 1
  have zb := lt_of_block hb
  have zl := lt_of_block hl
  have HH : Hid _ := h
  have HXS : Hid _ := hxs
  have HYS : Hid _ := hys
  have shape : ∃ a1 n1 c1, ls = .slice a1 L c1 ∧ n1 = L := by
    rcases h.row.2 with ⟨rfl, rfl⟩ | ⟨g, cap, cur, rfl, _⟩
    · exact ⟨_, _, _, rfl, rfl⟩
    · exact ⟨_, _, _, rfl, rfl⟩
  obtain ⟨a1, _, c1, hls, _⟩ := shape
  have HS : Hid _ := hls
  rw [hls] at d1
  have bL : (L : Int) ≤ 4000000 := by omega
  have hne : b ≠ wb := ne_of_blocks hl hb (by simp)
  have hF0 : Filling b n (-1 - L) w 0 (w.alloc (.cells #[.int .i64 (-1 - L), .int .i64 0, .int .i64 0] 84)) := ⟨⟨X, block_alloc_lt hl _, hX, by simp [marks]⟩, block_alloc_new _ _, (Kept.refl _ w).alloc _⟩
  have HB : Hid _ := hb
  have HLS : Hid (ls.ownBlock ≠ some b ∧ l3.ownBlock ≠ some b) := ⟨fun e => by obtain ⟨cs, q, _⟩ := own_lt h.row e; exact absurd (q.symm.trans hl) (by simp), fun e => by obtain ⟨cs, q, _⟩ := own_lt h.row3 e; exact absurd (q.symm.trans hl) (by simp)⟩
  clear h hls hxs hys
  go_enter Tryz.func40, Tryz.ntmps40
  go_wp2
  clear d1 hb hl
  go_loopw [5] (fun x W => ∃ k : Nat, k ≤ n ∧ x = .int .i64 k ∧ Filling b n (-1 - L) w k W) (fun x _ => n - (intOf x).toNat)
  case atStart => exact ⟨0, by omega, rfl, hF0⟩
  case round =>
    obtain ⟨k, hk, rfl, hR⟩ := hrel
    clear hF0
    have cM : ∀ o, wr.cell? ⟨w.heap.size, o, none⟩ = #[.int .i64 (-1 - L), .int .i64 0, .int .i64 0][o]? := cell_of hR.box
    have zM := lt_of_block hR.box
    obtain ⟨cur, hcur, hcs, hct⟩ := hR.blk
    by_cases hlt : k < n
    · have q0 : wr.cell? ⟨b, k * 3, none⟩ = some (cur[k * 3]'(by omega)) := by rw [cell_of hcur]; exact Array.getElem?_eq_getElem _
      have q1 : wr.cell? ⟨b, k * 3 + 1, none⟩ = some (cur[k * 3 + 1]'(by omega)) := by rw [cell_of hcur]; exact Array.getElem?_eq_getElem _
      have q2 : wr.cell? ⟨b, k * 3 + 2, none⟩ = some (cur[k * 3 + 2]'(by omega)) := by rw [cell_of hcur]; exact Array.getElem?_eq_getElem _
      have qf : ∀ o, wr.frozen? ⟨b, o, none⟩ = false := frozen_of hcur
      have hlt' : (k : Int) < (n : Int) := by omega
      have hkt : ((k : Int)).toNat = k := by simp
      have HR : Hid _ := hR.next hlt zl
      clear hR hcur hct
      generalize cur[k * 3]'(by omega) = e0 at *
      generalize cur[k * 3 + 1]'(by omega) = e1 at *
      generalize cur[k * 3 + 2]'(by omega) = e2 at *
      go_wp2
      go_roundw
      case rel => exact ⟨k + 1, by omega, by go_num, HR.out⟩
      case measure => simp [intOf]; omega
    · skip
      have hkn : n = k := by omega
      subst hkn
      have hbk : wr.heap[b]? = some (.cells (marks (-1 - L) n).toArray 84 (0, 0)) := by
        obtain ⟨c2, a1, a2, a3⟩ := hR.blk
        have e2 : marks (-1 - L) n = c2.toList := by rw [← a3]; exact List.take_of_length_le (by simp [a2])
        rw [a1, e2]
      have HBK : Hid _ := hbk
      clear hbk
      have hM := hR.box
      have K0 : Kept [b] w wr := hR.kept
      clear hR hcur hct
      go_upto_region 5 with (fail)
      go_cut [6] (fun x w' => Good w' x (-1 - L) ∧ (∃ g, x.ownBlock = some g ∧ wr.heap.size ≤ g) ∧ Kept [] wr w')
      case first =>
        go_wp2_with (at_builtin; go_must (refine wpList_append_grows _ rfl _ _ 25 rfl 84 i0 _ 3 24 Tryz.underlying25 hi0 hz0 hz1 hz2 rfl (by omega) (some ⟨b, 0, none⟩) n n (marks (-1 - L) n) rfl (by simp) (marks_length _ _) (fun b' e => by cases e; exact World.news_of_block (cs := (marks (-1 - L) n).toArray) (t := 84) (fr := (0, 0)) (block_alloc_lt HBK.out _)) ⟨wr.heap.size, 0, none⟩ 1 1 (marks (-1 - L) 1) rfl rfl (World.news_of_block (cs := #[.int .i64 (-1 - L), .int .i64 0, .int .i64 0]) (t := 84) (fr := (0, 0)) (block_alloc_new wr _)) (by simp [marks, Value.oneCell']) (by omega) (by unfold maxLen; omega) (by omega) ?_); intro v4 w4 own4 gr4)
        rw [marks_add] at own4
        have hg4 := good_own own4 (by omega) (by omega)
        have kg4 : Hid (Kept [] wr w4) := ((Kept.refl [] wr).alloc _).trans (Kept.ofGrown gr4)
        have HG4 : Hid _ := hg4
        clear own4 gr4 hg4
        go_wp2
        go_meet
        obtain ⟨G, g, e1, e2⟩ := HG4.out
        exact ⟨G, ⟨g, e1, by simp only [World.size_alloc] at e2; omega⟩, kg4.out⟩
      case rest =>
        obtain ⟨G1, ⟨g1, o1, z1⟩, k1⟩ := hcut
        have Z1 : Hid (w.heap.size ≤ g1) := Nat.le_trans K0.size z1
        replace hM := k1.at hM (by simp)
        replace K0 := K0.trans (k1.mono (by simp))
        replace HBK : Hid _ := k1.at HBK.out (by simp)
        clear cM zM k1
        have cM : ∀ o, wc.cell? ⟨w.heap.size, o, none⟩ = #[.int .i64 (-1 - L), .int .i64 0, .int .i64 0][o]? := cell_of hM
        have zM := lt_of_block hM
        have O1 : Hid _ := o1
        clear o1
        go_upto_region 6 with (fail)
        go_cut [7] (fun x w' => Good w' x (-1 - L) ∧ (∃ g, x.ownBlock = some g ∧ wc.heap.size ≤ g) ∧ Kept [] wc w')
        case first =>
          go_wp2_with (at_builtin; go_must (refine wpList_append_grows _ rfl _ _ 25 rfl 84 i0 _ 3 24 Tryz.underlying25 hi0 hz0 hz1 hz2 rfl (by omega) (some ⟨b, 0, none⟩) n n (marks (-1 - L) n) rfl (by simp) (marks_length _ _) (fun b' e => by cases e; exact World.news_of_block (cs := (marks (-1 - L) n).toArray) (t := 84) (fr := (0, 0)) (block_alloc_lt HBK.out _)) ⟨wc.heap.size, 0, none⟩ 2 2 (marks (-1 - L) 2) rfl rfl (World.news_of_block (cs := #[.int .i64 (-1 - L), .int .i64 0, .int .i64 0, .int .i64 (-1 - L), .int .i64 0, .int .i64 0]) (t := 84) (fr := (0, 0)) (block_alloc_new wc _)) (by simp [marks, Value.oneCell']) (by omega) (by unfold maxLen; omega) (by omega) ?_); intro v4 w4 own4 gr4)
          rw [marks_add] at own4
          have hg4 := good_own own4 (by omega) (by omega)
          have kg4 : Hid (Kept [] wc w4) := ((Kept.refl [] wc).alloc _).trans (Kept.ofGrown gr4)
          have HG4 : Hid _ := hg4
          clear own4 gr4 hg4
          go_wp2
          go_meet
          obtain ⟨G, g, e1, e2⟩ := HG4.out
          exact ⟨G, ⟨g, e1, by simp only [World.size_alloc] at e2; omega⟩, kg4.out⟩
        case rest =>
          obtain ⟨G2, ⟨g2, o2, z2⟩, k1⟩ := hcut
          have Z2 : Hid (w.heap.size ≤ g2) := Nat.le_trans K0.size z2
          replace hM := k1.at hM (by simp)
          replace K0 := K0.trans (k1.mono (by simp))
          replace G1 := G1.kept k1 (by simp)
          replace HBK : Hid _ := k1.at HBK.out (by simp)
          clear cM zM k1
          have cM : ∀ o, wc.cell? ⟨w.heap.size, o, none⟩ = #[.int .i64 (-1 - L), .int .i64 0, .int .i64 0][o]? := cell_of hM
          have zM := lt_of_block hM
          have O2 : Hid _ := o2
          clear o2
          go_upto_region 7 with (fail)
          go_cut [8] (fun x w' => Good w' x (-1 - L) ∧ (∃ g, x.ownBlock = some g ∧ wc.heap.size ≤ g) ∧ Kept [] wc w')
          case first =>
            go_wp2_with (at_builtin; go_must (refine wpList_append_grows _ rfl _ _ 25 rfl 84 i0 _ 3 24 Tryz.underlying25 hi0 hz0 hz1 hz2 rfl (by omega) (some ⟨b, 0, none⟩) n n (marks (-1 - L) n) rfl (by simp) (marks_length _ _) (fun b' e => by cases e; exact World.news_of_block (cs := (marks (-1 - L) n).toArray) (t := 84) (fr := (0, 0)) (block_alloc_lt HBK.out _)) ⟨wc.heap.size, 0, none⟩ 3 3 (marks (-1 - L) 3) rfl rfl (World.news_of_block (cs := #[.int .i64 (-1 - L), .int .i64 0, .int .i64 0, .int .i64 (-1 - L), .int .i64 0, .int .i64 0, .int .i64 (-1 - L), .int .i64 0, .int .i64 0]) (t := 84) (fr := (0, 0)) (block_alloc_new wc _)) (by simp [marks, Value.oneCell']) (by omega) (by unfold maxLen; omega) (by omega) ?_); intro v4 w4 own4 gr4)
            rw [marks_add] at own4
            have hg4 := good_own own4 (by omega) (by omega)
            have kg4 : Hid (Kept [] wc w4) := ((Kept.refl [] wc).alloc _).trans (Kept.ofGrown gr4)
            have HG4 : Hid _ := hg4
            clear own4 gr4 hg4
            go_wp2
            go_meet
            obtain ⟨G, g, e1, e2⟩ := HG4.out
            exact ⟨G, ⟨g, e1, by simp only [World.size_alloc] at e2; omega⟩, kg4.out⟩
          case rest =>
            obtain ⟨G3, ⟨g3, o3, z3⟩, k1⟩ := hcut
            have Z3 : Hid (w.heap.size ≤ g3) := Nat.le_trans K0.size z3
            replace hM := k1.at hM (by simp)
            replace K0 := K0.trans (k1.mono (by simp))
            replace G1 := G1.kept k1 (by simp)
            replace G2 := G2.kept k1 (by simp)
            replace HBK : Hid _ := k1.at HBK.out (by simp)
            clear cM zM k1
            have O3 : Hid _ := o3
            clear o3
            have hP : Ph wb B ps ls l3 L (3 * L) xs ys wc := ⟨K0.at HB.out (by simpa using Ne.symm hne), ownsRow.keptF HH.out.row K0 (fun g hg hm => by simp only [List.mem_singleton] at hm; subst hm; exact HLS.out.1 hg), ownsRow.keptF HH.out.row3 K0 (fun g hg hm => by simp only [List.mem_singleton] at hm; subst hm; exact HLS.out.2 hg), HH.out.apart⟩
            have GG : Hid (∀ (k : Nat) (x : Value), xs[k]? = some x → Good wc x (-1 - k)) := fun k x hk => (HH.out.good k x hk).keptF K0 (fun g hg hm => by simp only [List.mem_singleton] at hm; subst hm; exact HXS.out k x hk hg)
            have GH : Hid (∀ (k : Nat) (y : Value), ys[k]? = some y → Good wc y (-1 - (k / 3 : Nat))) := fun k y hk => (HH.out.good3 k y hk).keptF K0 (fun g hg hm => by simp only [List.mem_singleton] at hm; subst hm; exact HYS.out k y hk hg)
            have GL : Good wc (.slice (some ⟨b, 0, none⟩) n n) (-1 - L) := ⟨b, n, n, (marks (-1 - L) n).toArray, rfl, by omega, HBK.out, List.take_of_length_le (Nat.le_of_eq (marks_length _ _))⟩
            have hsz := K0.size
            have KK : Hid (Kept (b :: wb :: (ls.ownBlock.toList ++ l3.ownBlock.toList)) w wc) := K0.mono (by simp)
            clear K0 hM HH HB
            have hb1 := hP.b
            have d1 : wc.cell? ⟨wb, 1, none⟩ = some ls := cell_of hb1 1
            have zb1 := lt_of_block hb1
            have om := rowBlock hb1 hP.ra
            have HP : Hid _ := hP
            have kB := hsz
            clear hP
            go_upto_region 8 with (fail)
            go_cut [] (fun w' => ∃ ls', Ph wb B ps ls' l3 (L + 1) (3 * L) (xs ++ [.slice (some ⟨b, 0, none⟩) n n]) ys w' ∧ Went wb ls ls' wc w')
            case first =>
              go_wp2_with (at_builtin; go_must (refine wpList_append_lies _ rfl _ _ _ rfl B 25 i1 _ 1 24 Tryz.underlying62 hi1 hy0 hy1 hy2 rfl (by omega) ls L xs rfl (HP.out.keptNil ((Kept.refl [] wc).alloc _)).ra ⟨wc.heap.size, 0, none⟩ 1 1 [.slice (some ⟨b, 0, none⟩) n n] rfl rfl (news1 wc _ 25) (by simp [Value.oneCell']) (by omega) (by unfold maxLen; omega) (by omega) (by simp; omega) (wc.heap.size + 1) (by simp) ?_); intro g cap w1 hown1 hgrow hat hlt1; have hm1 := (hgrow.block wb (by simp; omega) (Ne.symm om)).trans (block_alloc_lt hb1 _); have s4 := cell_of hm1 1; have sf := frozen_of hm1 1)
              go_meet
              exact ⟨_, HP.out.stepA hown1 hgrow hat⟩
            case rest =>
              obtain ⟨ls', hP, hW⟩ := hcut
              replace GG : Hid _ := fun (k : Nat) (x : Value) hk => hW.good _ _ (GG.out k x hk)
              replace GH : Hid _ := fun (k : Nat) (y : Value) hk => hW.good _ _ (GH.out k y hk)
              replace GL := hW.good _ _ GL
              replace G1 := hW.good _ _ G1
              replace G2 := hW.good _ _ G2
              replace G3 := hW.good _ _ G3
              have W1 : Hid _ := hW.own
              replace KK : Hid (Kept (b :: wb :: (ls.ownBlock.toList ++ l3.ownBlock.toList)) w wc) := KK.out.drop hW.kept (fun x hx hlt => by simp at hx ⊢; right; rcases hx with hx | hx; exact .inl hx; exact .inr (.inl hx))
              replace hsz := Nat.le_trans hsz hW.kept.size
              clear W1 hW HP d1 om hb1 zb1
              have hb1 := hP.b
              have d1 : wc.cell? ⟨wb, 2, none⟩ = some l3 := cell_of hb1 2
              have zb1 := lt_of_block hb1
              have om := rowBlock hb1 hP.rc
              obtain ⟨q0, r0, t0, v0, rfl, _⟩ := G1.good
              have HP : Hid _ := hP
              clear hP
              go_upto_region 9 with (fail)
              go_cut [] (fun w' => ∃ c', Ph wb B ps ls' c' (L + 1) (3 * L + 1) (xs ++ [.slice (some ⟨b, 0, none⟩) n n]) (ys ++ [.slice (some ⟨q0, 0, none⟩) r0 t0]) w' ∧ Went wb l3 c' wc w')
              case first =>
                go_wp2_with (at_builtin; go_must (refine wpList_append_lies _ rfl _ _ _ rfl B 25 i1 _ 1 24 Tryz.underlying62 hi1 hy0 hy1 hy2 rfl (by omega) l3 (3 * L) (ys) rfl (HP.out.keptNil ((Kept.refl [] wc).alloc _)).rc ⟨wc.heap.size, 0, none⟩ 1 1 [.slice (some ⟨q0, 0, none⟩) r0 t0] rfl rfl (news1 wc _ 25) (by simp [Value.oneCell']) (by omega) (by unfold maxLen; omega) (by omega) (by simp; omega) (wc.heap.size + 1) (by simp) ?_); intro g cap w1 hown1 hgrow hat hlt1; have hm1 := (hgrow.block wb (by simp; omega) (Ne.symm om)).trans (block_alloc_lt hb1 _); have s4 := cell_of hm1 2; have sf := frozen_of hm1 2)
                go_meet
                exact ⟨_, HP.out.stepC hown1 hgrow hat⟩
              case rest =>
                obtain ⟨m1, hP, hW⟩ := hcut
                replace GG : Hid _ := fun (k : Nat) (x : Value) hk => hW.good _ _ (GG.out k x hk)
                replace GH : Hid _ := fun (k : Nat) (y : Value) hk => hW.good _ _ (GH.out k y hk)
                replace GL := hW.good _ _ GL
                replace G1 := hW.good _ _ G1
                replace G2 := hW.good _ _ G2
                replace G3 := hW.good _ _ G3
                replace KK : Hid (Kept (b :: wb :: (ls.ownBlock.toList ++ l3.ownBlock.toList)) w wc) := KK.out.drop hW.kept (fun x hx hlt => by simp at hx ⊢; right; rcases hx with hx | hx; exact .inl hx; exact .inr (.inr hx))
                have W2 : Hid (∀ g, m1.ownBlock = some g → l3.ownBlock = some g ∨ w.heap.size ≤ g) := fun g hg => by
                  rcases hW.own g hg with h | h
                  · exact .inl h
                  · exact .inr (by omega)
                replace hsz := Nat.le_trans hsz hW.kept.size
                clear hW HP d1 om hb1 zb1
                have hb1 := hP.b
                have d1 : wc.cell? ⟨wb, 2, none⟩ = some m1 := cell_of hb1 2
                have zb1 := lt_of_block hb1
                have om := rowBlock hb1 hP.rc
                obtain ⟨q1, r1, t1, v1, rfl, _⟩ := G2.good
                have HP : Hid _ := hP
                clear hP
                go_upto_region 10 with (fail)
                go_cut [] (fun w' => ∃ c', Ph wb B ps ls' c' (L + 1) (3 * L + 1 + 1) (xs ++ [.slice (some ⟨b, 0, none⟩) n n]) (ys ++ [.slice (some ⟨q0, 0, none⟩) r0 t0] ++ [.slice (some ⟨q1, 0, none⟩) r1 t1]) w' ∧ Went wb m1 c' wc w')
                case first =>
                  go_wp2_with (at_builtin; go_must (refine wpList_append_lies _ rfl _ _ _ rfl B 25 i1 _ 1 24 Tryz.underlying62 hi1 hy0 hy1 hy2 rfl (by omega) m1 (3 * L + 1) (ys ++ [.slice (some ⟨q0, 0, none⟩) r0 t0]) rfl (HP.out.keptNil ((Kept.refl [] wc).alloc _)).rc ⟨wc.heap.size, 0, none⟩ 1 1 [.slice (some ⟨q1, 0, none⟩) r1 t1] rfl rfl (news1 wc _ 25) (by simp [Value.oneCell']) (by omega) (by unfold maxLen; omega) (by omega) (by simp; omega) (wc.heap.size + 1) (by simp) ?_); intro g cap w1 hown1 hgrow hat hlt1; have hm1 := (hgrow.block wb (by simp; omega) (Ne.symm om)).trans (block_alloc_lt hb1 _); have s4 := cell_of hm1 2; have sf := frozen_of hm1 2)
                  go_meet
                  exact ⟨_, HP.out.stepC hown1 hgrow hat⟩
                case rest =>
                  obtain ⟨m2, hP, hW⟩ := hcut
                  replace GG : Hid _ := fun (k : Nat) (x : Value) hk => hW.good _ _ (GG.out k x hk)
                  replace GH : Hid _ := fun (k : Nat) (y : Value) hk => hW.good _ _ (GH.out k y hk)
                  replace GL := hW.good _ _ GL
                  replace G1 := hW.good _ _ G1
                  replace G2 := hW.good _ _ G2
                  replace G3 := hW.good _ _ G3
                  replace KK : Hid (Kept (b :: wb :: (ls.ownBlock.toList ++ l3.ownBlock.toList)) w wc) := KK.out.drop hW.kept (fun x hx hlt => by simp at hx ⊢; right; rcases hx with hx | hx; exact .inl hx; rcases W2.out x hx with h | h; exact .inr (.inr h); omega)
                  have W3 : Hid (∀ g, m2.ownBlock = some g → l3.ownBlock = some g ∨ w.heap.size ≤ g) := fun g hg => by
                    rcases hW.own g hg with h | h
                    · exact W2.out g h
                    · exact .inr (by omega)
                  replace hsz := Nat.le_trans hsz hW.kept.size
                  clear hW HP d1 om hb1 zb1 W2
                  have hb1 := hP.b
                  have d1 : wc.cell? ⟨wb, 2, none⟩ = some m2 := cell_of hb1 2
                  have zb1 := lt_of_block hb1
                  have om := rowBlock hb1 hP.rc
                  obtain ⟨q2, r2, t2, v2, rfl, _⟩ := G3.good
                  have HP : Hid _ := hP
                  clear hP
                  go_upto_region 11 with (fail)
                  go_wp2_with (at_builtin; go_must (refine wpList_append_lies _ rfl _ _ _ rfl B 25 i1 _ 1 24 Tryz.underlying62 hi1 hy0 hy1 hy2 rfl (by omega) m2 (3 * L + 1 + 1) (ys ++ [.slice (some ⟨q0, 0, none⟩) r0 t0] ++ [.slice (some ⟨q1, 0, none⟩) r1 t1]) rfl (HP.out.keptNil ((Kept.refl [] wc).alloc _)).rc ⟨wc.heap.size, 0, none⟩ 1 1 [.slice (some ⟨q2, 0, none⟩) r2 t2] rfl rfl (news1 wc _ 25) (by simp [Value.oneCell']) (by omega) (by unfold maxLen; omega) (by omega) (by simp; omega) (wc.heap.size + 1) (by simp) ?_); intro g cap w1 hown1 hgrow hat hlt1; have hm1 := (hgrow.block wb (by simp; omega) (Ne.symm om)).trans (block_alloc_lt hb1 _); have s4 := cell_of hm1 2; have sf := frozen_of hm1 2)
                  obtain ⟨hP, hW⟩ := HP.out.stepC hown1 hgrow hat
                  go_end0
                  replace GG : Hid _ := fun (k : Nat) (x : Value) hk => hW.good _ _ (GG.out k x hk)
                  replace GH : Hid _ := fun (k : Nat) (y : Value) hk => hW.good _ _ (GH.out k y hk)
                  replace GL := hW.good _ _ GL
                  replace G1 := hW.good _ _ G1
                  replace G2 := hW.good _ _ G2
                  replace G3 := hW.good _ _ G3
                  have K9 := KK.out.drop hW.kept (F := b :: wb :: (ls.ownBlock.toList ++ l3.ownBlock.toList)) (fun x hx hlt => by simp at hx ⊢; right; rcases hx with hx | hx; exact .inl hx; rcases W3.out x hx with h | h; exact .inr (.inr h); omega)
                  refine ⟨rfl, ⟨ls', _, _, hP.b, ⟨hP.ra, hP.rc, hP.ap, fun k x hk => ?_, fun k y hk => ?_⟩, K9, fun k y hk => ?_⟩⟩
                  · simp only [List.getElem?_append] at hk
                    split at hk
                    · exact GG.out k x hk
                    · have hlen : xs.length = L := by have := hP.ra.1; simp at this; omega
                      by_cases hkL : k = L
                      · subst hkL
                        simp [hlen] at hk
                        subst hk
                        exact GL
                      · have : ∃ d, k - xs.length = d + 1 := ⟨k - xs.length - 1, by omega⟩
                        obtain ⟨d, hd⟩ := this
                        rw [hd] at hk
                        simp at hk
                  · have hlen : ys.length = 3 * L := by have := hP.rc.1; simp at this; omega
                    simp only [List.append_assoc, List.cons_append, List.nil_append, List.getElem?_append] at hk
                    split at hk
                    · exact GH.out k y hk
                    · have hk3 : k = 3 * L ∨ k = 3 * L + 1 ∨ k = 3 * L + 2 ∨ 3 * L + 3 ≤ k := by omega
                      rcases hk3 with rfl | rfl | rfl | hk3
                      · rw [hlen, Nat.sub_self] at hk
                        simp at hk
                        subst hk
                        rw [show 3 * L / 3 = L by omega]
                        exact G1
                      · rw [hlen, show 3 * L + 1 - 3 * L = 1 by omega] at hk
                        simp at hk
                        subst hk
                        rw [show (3 * L + 1) / 3 = L by omega]
                        exact G2
                      · rw [hlen, show 3 * L + 2 - 3 * L = 2 by omega] at hk
                        simp at hk
                        subst hk
                        rw [show (3 * L + 2) / 3 = L by omega]
                        exact G3
                      · obtain ⟨d, hd⟩ : ∃ d, k - ys.length = d + 3 := ⟨k - ys.length - 3, by omega⟩
                        rw [hd] at hk
                        simp at hk
                  · have hm := List.mem_of_getElem? hk
                    simp only [List.mem_append, List.mem_singleton] at hm
                    rcases hm with ((hm | rfl) | rfl) | rfl
                    · obtain ⟨k', hk'⟩ := List.getElem?_of_mem hm
                      exact .inl ⟨k', hk'⟩
                    · exact .inr fun g hg => by have h1 := O1.out; rw [hg] at h1; have h2 := Z1.out; simp only [Option.some.injEq] at h1; omega
                    · exact .inr fun g hg => by have h1 := O2.out; rw [hg] at h1; have h2 := Z2.out; simp only [Option.some.injEq] at h1; omega
                    · exact .inr fun g hg => by have h1 := O3.out; rw [hg] at h1; have h2 := Z3.out; simp only [Option.some.injEq] at h1; omega
end Go.Proofs.YtfgfpggjcfhccaaGreat
namespace Go.Proofs.YtfgfpggjcfhccaaGreat
open Go.RowKit
/-- A map as at the beginning. -/
def M.new (n : Nat) : M := ⟨0, fun _ => ⟨0, 0⟩, fun _ => -1, false, false, fun _ => -1, 0, -1, false, n, fun _ => ⟨0, 0, 0, 0, 0, 0, 0, 0, 0⟩⟩
theorem inv_new (n : Nat) : (M.new n).Inv := by
  refine ⟨⟨Int.le_refl _, by show (-1 : Int) < (n : Int); omega⟩, fun i _ => ⟨fun hh => absurd hh (not_locked0 _), fun hh => ?_⟩, fun _ _ => .inl rfl, fun _ _ => ⟨Int.le_refl _, by show (-1 : Int) < ((0 : Nat) : Int); omega⟩, fun _ _ => ⟨Int.le_refl _, by show (-1 : Int) < ((0 : Nat) : Int); omega⟩, fun j hj => absurd hj (Nat.not_lt_zero _), ⟨Int.le_refl _, .inl (by show (0 : Int) ≤ 7; omega)⟩⟩
  have : (-1 : Int) = (i : Int) := hh
  omega
theorem GAt.ofNew {p : PM} {w : World} {n : Nat} (hl : p.ts.length = n) (h : PAt p 0 w false (fun _ => none)) (en : Nat → Nat) : GAt p en 0 (M.new n) w := by
  refine ⟨hl, by rw [← hl]; exact h.len, h.cap, h.m, h.c, h.s, h.tb, fun i t ht => ⟨0, fun _ => rfl, h.ts i t ht⟩, fun j hj => absurd hj (Nat.not_lt_zero _), fun j _ hj => absurd hj (Nat.not_lt_zero _)⟩
theorem RefAt.mk0 {r tb n : Nat} {w : World} (h6 : n ≤ 6) (B : Nat) (h1 : w.heap[r]? = some (.cells (rCells ⟨r, tb, n⟩ false) 59 (0, 0))) (h2 : w.heap[tb]? = some (.cells (zeros n) 90 (0, 0))) : RefAt r tb (.slice none 0 0) B (M.new n) w := by
  refine ⟨h6, ⟨_, h1, ⟨rfl, rfl, ?_, rfl, rfl, ?_, rfl, rfl, rfl, rfl⟩⟩, ⟨zeros n, h2, by simp [zeros, M.new], fun i hi => ?_⟩, ⟨rfl, .inl ⟨rfl, rfl⟩⟩⟩
  · intro k hk
    match k, hk with
    | 0, _ | 1, _ | 2, _ | 3, _ | 4, _ | 5, _ | 6, _ | 7, _ => rfl
  · intro k hk
    match k, hk with
    | 0, _ | 1, _ | 2, _ | 3, _ | 4, _ | 5, _ | 6, _ | 7, _ => rfl
  · have hi' : i < n := hi
    refine ⟨?_, ?_, ?_, ?_, ?_, ?_, ?_, ?_, ?_⟩
    all_goals
      simp only [zeros]
      rw [Array.getElem?_replicate, if_pos (by omega)]
      rfl
set_option maxRecDepth 100000 in
set_option maxHeartbeats 4000000 in
theorem rnew_gen (n : Nat) (w : World) (h1 : 1 ≤ n) (h6 : n ≤ 6) : Calls Tryz.prog 11 #[.int .i64 n] w fun e w' => ∃ q : RM, e = .returned (.tuple #[.pointer (some ⟨q.r, 0, none⟩), .int .i64 0]) ∧
    q.n = n ∧ (∀ B, RefAt q.r q.tb (.slice none 0 0) B (M.new n) w') ∧ w.heap.size ≤ q.tb ∧ w.heap.size ≤ q.r ∧ Kept [] w w' := by
  have h1' : ¬ (n : Int) < 1 := by omega
  have h6' : ¬ 6 < (n : Int) := by omega
  have hmk := mk_threads n h6
  go_enter Tryz.func11, Tryz.ntmps11
  go_wp2_with fail
  go_region_with (first | (go_at_call 24; refine (rnone _).mono ?_; rintro e w' ⟨rfl, rfl⟩; simp only [negTbl]))
  all_goals go_wp2
  all_goals go_ret2
  all_goals (have f4 := four w)
  · exact ⟨⟨_, _, n⟩, rfl, rfl, fun B => RefAt.mk0 h6 B (f4 _ _ _ _).2.2.2 (f4 _ _ _ _).2.2.1, by simp only []; omega, by simp only []; omega, (((((Kept.refl [] w).alloc _).alloc _).alloc _).alloc _).drew⟩
  · exact ⟨⟨_, _, n⟩, rfl, rfl, fun B => RefAt.mk0 h6 B (f4 _ _ _ _).2.2.2 (f4 _ _ _ _).2.1, by simp only []; omega, by simp only []; omega, (((((Kept.refl [] w).alloc _).alloc _).alloc _).alloc _).drew⟩
  · exact ⟨⟨_, _, n⟩, rfl, rfl, fun B => RefAt.mk0 h6 B (f4 _ _ _ _).2.2.2 (f4 _ _ _ _).1, Nat.le_refl _, by simp only []; omega, (((((Kept.refl [] w).alloc _).alloc _).alloc _).alloc _).drew⟩
set_option maxRecDepth 100000 in
set_option maxHeartbeats 4000000 in
theorem new_gen (n : Nat) (w : World) (h1 : 1 ≤ n) (h6 : n ≤ 6) : Calls Tryz.prog 10 #[.int .i64 n] w fun e w' => ∃ p : PM, e = .returned (.tuple #[.pointer (some ⟨p.m, 0, none⟩), .int .i64 0]) ∧
    p.ts.length = n ∧ PAt p 0 w' false (fun _ => none) ∧ w.heap.size ≤ p.m ∧ w.heap.size ≤ p.c ∧ w.heap.size ≤ p.s ∧ (∀ t, t ∈ p.ts → w.heap.size ≤ t) ∧ Kept [] w w' := by
  have hmc := mkchan
  have h1' : ¬ (n : Int) < 1 := by omega
  have h6' : ¬ 6 < (n : Int) := by omega
  go_enter Tryz.func10, Tryz.ntmps10
  go_wp2_with fail
  go_cut [4] (fun x w' => ∃ m c s, x = .pointer (some ⟨m, 0, none⟩) ∧ Making ⟨m, c, s, 0, 0, []⟩ 0 (.slice none 0 0) w w' ∧ w.heap.size ≤ m ∧ w.heap.size ≤ c ∧ w.heap.size ≤ s)
  case first =>
    go_region_with (first | (go_at_call 22; refine (snew _).mono ?_; rintro e w' ⟨rfl, rfl⟩))
    all_goals go_wp2_with fail
    all_goals go_meet
    · have t3 := three w (.chan 0 #[] false 0 0 false) (.cells shCells 111) (.cells #[.int .i32 0, .int .u32 0, .chan (some w.heap.size), .pointer (some ⟨w.heap.size + 1, 0, none⟩), .slice none 0 0] 78)
      exact ⟨_, _, _, rfl, ⟨rfl, t3.2.2, t3.1, t3.2.1, ⟨rfl, .inl ⟨rfl, rfl⟩⟩, fun i t hi => by simp at hi, ((((Kept.refl [] w).alloc _).alloc _).alloc _).drew, by simp⟩, by omega, Nat.le_refl _, by omega⟩
    · have t3 := three w (.cells shCells 111) (.chan 0 #[] false 0 0 false) (.cells #[.int .i32 0, .int .u32 0, .chan (some (w.heap.size + 1)), .pointer (some ⟨w.heap.size, 0, none⟩), .slice none 0 0] 78)
      exact ⟨_, _, _, rfl, ⟨rfl, t3.2.2, t3.2.1, t3.1, ⟨rfl, .inl ⟨rfl, rfl⟩⟩, fun i t hi => by simp at hi, ((((Kept.refl [] w).alloc _).alloc _).alloc _).drew, by simp⟩, by omega, by omega, Nat.le_refl _⟩
  case rest =>
    obtain ⟨m, c, s, rfl, hM, hz, hzc, hzs⟩ := hcut
    clear hmc
    go_wp2_with fail
    go_loopw [17] (fun x W => ∃ (k : Nat) (sl : Value) (ts : List Nat), k ≤ n ∧ x = .int .i64 k ∧ Making ⟨m, c, s, 0, 0, ts⟩ k sl w W) (fun x _ => n - (intOf x).toNat)
    case atStart => exact ⟨0, _, [], by omega, rfl, hM⟩
    case round =>
      obtain ⟨k, sl, ts, hkn, rfl, hR⟩ := hrel
      clear hM
      obtain ⟨i0, hi0, hz0, hz1, hz2⟩ := info_parts info79
      by_cases hlt : k < n
      · have hlt' : (k : Int) < n := by omega
        have c3 : wr.cell? ⟨m, 3, none⟩ = some (.pointer (some ⟨s, 0, none⟩)) := cell_of hR.m 3
        have c4 : wr.cell? ⟨m, 4, none⟩ = some sl := cell_of hR.m 4
        have zm := lt_of_block hR.m
        have om := hR.own_ne hR.m (by simp)
        have HR : Hid _ := hR
        clear hR
        go_wp2_with fail
        go_region_law (first
          | (refine step_append_lies _ (by rfl) _ _ _ (by rfl) w.heap.size 79 i0 _ 1 8 Tryz.underlying76 hi0 hz0 hz1 hz2 rfl (by omega) sl k _ (by rfl) (((HR.out.row.alloc _).alloc _).drew)
              ⟨wr.heap.size + 1, 0, none⟩ 1 1 [.pointer (some ⟨wr.heap.size, 0, none⟩)] (by rfl) (by rfl) (World.news_of_block (cs := #[.pointer (some ⟨wr.heap.size, 0, none⟩)]) (t := 79) (fr := (0, 0)) (three2 wr _ _)) (by simp [Value.oneCell'])
              (by omega) (by unfold maxLen; omega) (by omega) (by simp; have := HR.out.kept.size; omega) (wr.heap.size + 2) (by simp) ?_; intro g cap w1 hown1 hgrow hat hlt1; have hm1 := (hgrow.block m (by simp; omega) (Ne.symm om)).trans (block_alloc_lt (block_alloc_lt HR.out.m _) _); have s4 := cell_of hm1 4; have sf := frozen_of hm1 4)
          | (go_simp; go_at_call 23; refine (tnew k s _).mono ?_; rintro e w' ⟨rfl, rfl⟩))
        all_goals
          have hS := HR.out.step hown1 hgrow hz
          clear s4 sf hm1 hown1 hgrow hat c3 c4
          go_wp2
          go_roundw
          case rel => exact ⟨k + 1, _, _, by omega, by go_num, hS⟩
          case measure => simp [intOf]; omega
      · go_wp2
        go_ret2
        have hkk : k = n := by omega
        subst hkk
        obtain ⟨tb, cap, hP⟩ := hR.done h1 h6
        exact ⟨⟨m, c, s, tb, cap, ts⟩, rfl, hR.len, hP, hz, hzc, hzs, hR.new, hR.kept⟩
set_option maxHeartbeats 800000 in
theorem open_gen (n : Nat) (w : World) (h1 : 1 ≤ n) (h6 : n ≤ 6) : Calls Tryz.prog 6 #[.int .i64 n] w fun e w' => ∃ (b : Nat) (p : PM) (r tb : Nat), e = .returned (.tuple #[.pointer (some ⟨b, 0, none⟩), .bool true]) ∧
    (∀ B, B ≤ w'.heap.size → Pair b p (fun _ => 0) r tb (.slice none 0 0) B (M.new n) w') ∧ Kept [] w w' ∧ w.heap.size ≤ b ∧ (∀ x, x ∈ fpm p (fun _ => 0) (M.new n) ++ fr r tb (.slice none 0 0) → w.heap.size ≤ x) := by
  go_enter Tryz.func6, Tryz.ntmps6
  go_wp2_with fail
  refine (new_gen n w h1 h6).mono ?_
  rintro e w1 ⟨p, rfl, hl, hp, hz, hzc, hzs, hnew, k1⟩
  go_wp2_with fail
  refine (rnew_gen n w1 h1 h6).mono ?_
  rintro e w2 ⟨q, rfl, hqn, hq, hz1, hz2, k2⟩
  have HP : Hid _ := (GAt.ofNew hl hp (fun _ => 0)).keptNil k2
  have HQ : Hid _ := hq
  have hsz := (k1.trans k2).size
  have HK : Hid (Kept [] w w2) := k1.trans k2
  have HF : Hid (∀ x, x ∈ fpm p (fun _ => 0) (M.new n) ++ fr q.r q.tb (.slice none 0 0) → w.heap.size ≤ x) := by
    intro x hx
    have := k1.size
    simp only [fpm, fp, fr, M.new, Value.ownBlock, Option.toList, List.range_zero, List.map_nil, List.append_nil, List.mem_append, List.mem_cons, List.not_mem_nil, or_false] at hx
    rcases hx with (rfl | rfl | rfl | hx) | rfl | rfl
    · exact hz
    · exact hzc
    · exact hzs
    · exact hnew x hx
    · omega
    · omega
  clear hp hq k1 k2 hnew hz hzc hzs
  go_wp2
  go_ret2
  refine ⟨_, p, q.r, q.tb, rfl, fun B hB => ⟨block_alloc_new _ _, HP.out.alloc _, (HQ.out B).alloc _, inv_new n, hB⟩, HK.out.alloc _, hsz, HF.out⟩
end Go.Proofs.YtfgfpggjcfhccaaGreat
namespace Go.Proofs.YtfgfpggjcfhccaaGreat
open Go.RowKit
/-- What a step of thread i leaves of the threads, and of the number of entries. -/
structure StepOf (m : M) (i : Nat) (m' : M) : Prop where
  nth : m'.nth = m.nth
  cl : m'.cl = m.cl
  ths : ∀ j, j ≠ i → m'.ths j = m.ths j
  kind : (m'.ths i).kind = (m.ths i).kind
  nc : m.nc ≤ m'.nc ∧ m'.nc ≤ m.nc + 1
theorem so_ite {m : M} {i : Nat} {c : Prop} [Decidable c] {A B : Out} (ha : StepOf m i A.m) (hb : StepOf m i B.m) : StepOf m i (if c then A else B).m := by
  by_cases h : c
  · rw [if_pos h]; exact ha
  · rw [if_neg h]; exact hb
theorem so_thr {m X : M} {i : Nat} (h : StepOf m i X) (t : Thr) (ht : t.kind = (X.ths i).kind) : StepOf m i (X.thr i t) :=
  ⟨h.nth, h.cl, fun j hj => (put_other _ _ hj).trans (h.ths j hj), by rw [thr_ths, ht]; exact h.kind, h.nc⟩
theorem so_goes {m X : M} {i : Nat} (h : StepOf m i X) (a : Int) : StepOf m i (X.goes i a).m := so_thr h { X.ths i with at_ := a } rfl
theorem so_ends {m X : M} {i : Nat} (h : StepOf m i X) (f : Bool) (v : Int) : StepOf m i (X.ends i f v).m := so_thr h { X.ths i with at_ := 0 } rfl
theorem so_refl (m : M) (i : Nat) : StepOf m i m := ⟨rfl, rfl, fun _ _ => rfl, rfl, Nat.le_refl _, Nat.le_succ _⟩
theorem so_with (m : M) (i : Nat) (cells : Nat → Cel) (read : Nat → Int) (am hd : Bool) (dirty : Nat → Int) (mis hol : Int) : StepOf m i ⟨m.nc, cells, read, am, hd, dirty, mis, hol, m.cl, m.nth, m.ths⟩ :=
  ⟨rfl, rfl, fun _ _ => rfl, rfl, Nat.le_refl _, Nat.le_succ _⟩
theorem so_sets (m : M) (i : Nat) (e : Int) : StepOf m i (m.sets i e) := by unfold M.sets; exact so_thr (so_refl m i) _ rfl
theorem so_sees (m : M) (i : Nat) (x y : Int) : StepOf m i (m.sees i x y) := by unfold M.sees; exact so_thr (so_refl m i) _ rfl
theorem so_next {m X : M} {i : Nat} (h : StepOf m i X) (n : Int) : StepOf m i (X.thr i { X.ths i with next := n }) := so_thr h { X.ths i with next := n } rfl
theorem so_scan {m X : M} {i : Nat} (h : StepOf m i X) (k : Nat) : StepOf m i (X.scan i k).m := by
  unfold M.scan
  exact so_ite (so_goes (so_next h _) _) (so_goes (so_next h _) _)
theorem so_first (m : M) (i : Nat) (e : Int) : StepOf m i (m.first i e).m :=
  so_ite (so_goes (so_sets m i _) _) (so_ite (so_goes (so_sets m i _) _) (so_ends (so_sets m i _) _ _))
theorem so_third (m : M) (i : Nat) (e : Int) : StepOf m i (m.third i e).m :=
  so_ite (so_goes (so_sets m i _) _) (so_ite (so_goes (so_sets m i _) _) (so_goes (so_sets m i _) _))
theorem so_frees (m : M) (i : Nat) (e : Int) : StepOf m i (m.frees i e).m :=
  so_ite (so_ends (so_with m i _ _ _ _ _ _ _) _ _) (so_goes (so_with m i _ _ _ _ _ _ _) _)
theorem so_missed (m : M) (i : Nat) (a e : Int) : StepOf m i (m.missed i a e).m :=
  so_ite (so_goes (so_with m i _ _ _ _ _ _ _) _) (so_ite (so_goes (so_with m i _ _ _ _ _ _ _) _) (so_ite (so_goes (so_with m i _ _ _ _ _ _ _) _) (so_ite (so_goes (so_with m i _ _ _ _ _ _ _) _) (so_goes (so_with m i _ _ _ _ _ _ _) _))))
theorem so_load (m : M) (i : Nat) : StepOf m i (m.load i).m := by
  unfold M.load
  exact so_ite (so_first m i _) (so_ite (so_third m i _) (so_ite (so_goes (so_sets m i _) _) (so_ite (so_missed m i _ _) (so_ite (so_frees m i _) (so_ends (so_refl m i) _ _)))))
theorem so_copied (m : M) (i : Nat) : StepOf m i (m.copied i) := by
  unfold M.copied
  by_cases h0 : (m.cells (m.read (m.nxt i)).toNat).st = 0
  · rw [if_pos h0]; exact so_with m i _ _ _ _ _ _ _
  · rw [if_neg h0]
    by_cases h1 : (m.cells (m.read (m.nxt i)).toNat).st = 1
    · rw [if_pos h1]; exact so_with m i _ _ _ _ _ _ _
    · rw [if_neg h1]; exact so_refl m i
theorem so_adds (m : M) (i : Nat) (x y : Int) (d : Nat → Int) : StepOf m i { m.adds x y with dirty := d } :=
  ⟨rfl, rfl, fun _ _ => rfl, rfl, Nat.le_succ _, Nat.le_refl _⟩
theorem so_store (m : M) (i : Nat) : StepOf m i (m.store i).m := by
  unfold M.store
  exact so_ite (so_goes (so_sets m i _) _) (so_ite (so_goes (so_sees m i _ _) _) (so_ite (so_ite (so_ends (so_with m i _ _ _ _ _ _ _) _ _) (so_goes (so_refl m i) _))
    (so_ite (so_goes (so_sets m i _) _) (so_ite (so_ite (so_goes (so_with m i _ _ _ _ _ _ _) _) (so_goes (so_refl m i) _)) (so_ite (so_goes (so_with m i _ _ _ _ _ _ _) _) (so_ite (so_goes (so_sets m i _) _)
    (so_ite (so_scan (so_with m i _ _ _ _ _ _ _) _) (so_ite (so_scan (so_copied m i) _) (so_ite (so_goes (so_with m i _ _ _ _ _ _ _) _) (so_ite (so_goes (so_adds m i _ _ _) _) (so_ite (so_goes (so_with m i _ _ _ _ _ _ _) _) (so_ends (so_with m i _ _ _ _ _ _ _) _ _))))))))))))
/-- Threads are at Loads and Stores alone. -/
def M.LS (m : M) : Prop := ∀ j, j < m.nth → ¬ (m.ths j).at_ = 0 → (m.ths j).kind = 0 ∨ (m.ths j).kind = 1
theorem StepOf.ls {m m' : M} {i : Nat} (h : StepOf m i m') (hL : m.LS) (hi : (m.ths i).kind = 0 ∨ (m.ths i).kind = 1) : m'.LS := by
  intro j hj ha
  by_cases e : j = i
  · subst e; rw [h.kind]; exact hi
  · rw [h.ths j e] at ha ⊢
    exact hL j (by rw [← h.nth]; exact hj) ha
theorem step_ls {m : M} (hL : m.LS) (n : Int) : (m.step n).o.m.LS ∧ (m.step n).o.m.nc ≤ m.nc + 1 := by
  unfold M.step
  by_cases hc : m.cl = true
  · rw [if_pos hc]; exact ⟨hL, Nat.le_succ _⟩
  rw [if_neg hc]
  by_cases hi : n < 0 ∨ (m.nth : Int) ≤ n
  · rw [if_pos hi]; exact ⟨hL, Nat.le_succ _⟩
  rw [if_neg hi]
  by_cases ha : (m.ths n.toNat).at_ = 0
  · rw [if_pos ha]; exact ⟨hL, Nat.le_succ _⟩
  rw [if_neg ha]
  have hk := hL n.toNat (by omega) ha
  cases hd : m.does n.toNat with
  | none => exact ⟨hL, Nat.le_succ _⟩
  | some o =>
    have hs : StepOf m n.toNat o.m := by
      unfold M.does at hd
      by_cases e : (m.ths n.toNat).at_ = m.lockAt n.toNat
      · rw [if_pos e] at hd
        by_cases hf : 0 ≤ m.hol
        · rw [if_pos hf] at hd; cases hd
        · rw [if_neg hf, Option.some.injEq] at hd
          rw [← hd]
          exact so_goes (so_with m _ _ _ _ _ _ _ _) _
      · rw [if_neg e] at hd
        rcases hk with hk | hk
        · rw [if_pos hk, Option.some.injEq] at hd
          rw [← hd]; exact so_load m _
        · rw [if_neg (by omega), if_pos hk, Option.some.injEq] at hd
          rw [← hd]; exact so_store m _
    exact ⟨hs.ls hL hk, hs.nc.2⟩
theorem begin_ls {m : M} (hL : m.LS) (n kind key val old : Int) (hk : kind ≤ 1) : (m.begin n kind key val old).2.LS ∧ (m.begin n kind key val old).2.nc = m.nc := by
  unfold M.begin
  by_cases hc : m.cl = true
  · rw [if_pos hc]; exact ⟨hL, rfl⟩
  rw [if_neg hc]
  by_cases hi : n < 0 ∨ (m.nth : Int) ≤ n ∨ ¬ OpOk kind key val old
  · rw [if_pos hi]; exact ⟨hL, rfl⟩
  rw [if_neg hi]
  by_cases ha : 0 < (m.ths n.toNat).at_
  · rw [if_pos ha]; exact ⟨hL, rfl⟩
  rw [if_neg ha]
  refine ⟨fun j hj hat => ?_, rfl⟩
  have hop : OpOk kind key val old := Decidable.byContradiction fun hh => hi (.inr (.inr hh))
  unfold OpOk at hop
  by_cases e : j = n.toNat
  · subst e
    have q : (m.thr n.toNat ⟨kind, key, val, old, 1, -1, 0, 0, 0⟩).ths n.toNat = ⟨kind, key, val, old, 1, -1, 0, 0, 0⟩ := put_same _ _ _
    have hkk : kind = 0 ∨ kind = 1 := by omega
    simpa only [q] using hkk
  · have q : (m.thr n.toNat ⟨kind, key, val, old, 1, -1, 0, 0, 0⟩).ths j = m.ths j := put_other _ _ e
    rw [q] at hat ⊢
    exact hL j hj hat

/-- The lists are none of the blocks from B on. -/
theorem Good.lt {w : World} {x : Value} {m : Int} (h : Good w x m) {g : Nat} (hg : x.ownBlock = some g) : g < w.heap.size := by
  obtain ⟨g', n, cap, cs, rfl, _, h3, _⟩ := h.good
  simp only [Value.ownBlock, Option.some.injEq] at hg
  subst hg
  exact lt_of_block h3
theorem Pair.keptNil {b : Nat} {p : PM} {en : Nat → Nat} {r tb : Nat} {sl : Value} {B : Nat} {m : M} {w w' : World} (h : Pair b p en r tb sl B m w) (k : Kept [] w w') : Pair b p en r tb sl B m w' :=
  ⟨k.at h.b (by simp), h.g.keptNil k, h.q.keptNil k, h.inv, Nat.le_trans h.base k.size⟩
/-- What a pair is made of. -/
theorem Pair.has {b : Nat} {p : PM} {en : Nat → Nat} {r tb : Nat} {sl : Value} {B : Nat} {m : M} {w : World} (h : Pair b p en r tb sl B m w) : Maps (fpm p en m ++ fr r tb sl) w := by
  intro y hy cs
  rcases List.mem_append.1 hy with hy | hy
  · rcases h.g.fpm_has hy with ⟨_, e⟩ | ⟨_, e⟩ | ⟨_, e⟩ | ⟨_, e⟩ | ⟨_, e⟩ <;> rw [e] <;> simp
  · rcases h.q.fr_has hy with ⟨_, e⟩ | ⟨_, e⟩ | ⟨_, e⟩ <;> rw [e] <;> simp
/-- Blocks of no map turn: lists, and the World's own. -/
theorem Pair.keptF {b : Nat} {p : PM} {en : Nat → Nat} {r tb : Nat} {sl : Value} {B : Nat} {m : M} {w w' : World} {F : List Nat} (h : Pair b p en r tb sl B m w) (k : Kept F w w') (hF : ∀ y, y ∈ F → ∃ cs T, w.heap[y]? = some (.cells cs T (0, 0)) ∧ (T = 84 ∨ T = 64 ∨ T = 25)) : Pair b p en r tb sl B m w' := by
  have off : ∀ (x : Nat) (o : Obj), w.heap[x]? = some o → (∀ cs, o ≠ .cells cs 84 (0, 0)) → (∀ cs, o ≠ .cells cs 64 (0, 0)) → (∀ cs, o ≠ .cells cs 25 (0, 0)) → x ∉ F := by
    intro x o hx h1 h2 h3 hm
    obtain ⟨cs, T, e, hT⟩ := hF x hm
    have := Option.some.inj (hx.symm.trans e)
    rcases hT with rfl | rfl | rfl
    · exact h1 cs this
    · exact h2 cs this
    · exact h3 cs this
  obtain ⟨cs', g1, _⟩ := h.g.tb
  obtain ⟨rc, hr, _⟩ := h.q.own
  obtain ⟨tc, ht, _⟩ := h.q.ths
  refine ⟨k.at h.b (off _ _ h.b (by simp) (by simp) (by simp)), h.g.kept k (off _ _ h.g.mp (by simp) (by simp) (by simp)) (off _ _ h.g.c (by simp) (by simp) (by simp)) (off _ _ h.g.s (by simp) (by simp) (by simp)) (off _ _ g1 (by simp) (by simp) (by simp)) (fun i t hi => ?_) (fun j hj => off _ _ (h.g.es j hj) (by simp) (by simp) (by simp)), h.q.kept k (off _ _ hr (by simp) (by simp) (by simp)) (off _ _ ht (by simp) (by simp) (by simp)) (fun g hg => ?_), h.inv, Nat.le_trans h.base k.size⟩
  · obtain ⟨_, _, c⟩ := h.g.ts i t hi
    exact off _ _ c (by simp) (by simp) (by simp)
  · rcases h.q.fr_has (x := g) (by simp [fr, hg]) with ⟨_, e⟩ | ⟨_, e⟩ | ⟨_, e⟩ <;> exact off _ _ e (by simp) (by simp) (by simp)
/-- A World with one map and L lists, begun at w0. -/
structure VAt (wb b : Nat) (p : PM) (r tb : Nat) (m : M) (L : Nat) (w0 w : World) : Prop where
  pair : ∃ en sl, Pair b p en r tb sl w0.heap.size m w ∧ ∀ x, x ∈ fpm p en m ++ fr r tb sl → w0.heap.size ≤ x
  ls : m.LS
  at_ : ∃ pb cap ls l3 xs ys pcs, w.heap[wb]? = some (.cells #[.slice (some ⟨pb, 0, none⟩) 1 cap, ls, l3] 64 (0, 0)) ∧ w.heap[pb]? = some (.cells pcs 22 (0, 0)) ∧ pcs[0]? = some (.pointer (some ⟨b, 0, none⟩)) ∧ LAt w0.heap.size ls l3 L xs ys w
  wbz : w0.heap.size ≤ wb
  kept : Kept [] w0 w
theorem VAt.keptNil {wb b : Nat} {p : PM} {r tb : Nat} {m : M} {L : Nat} {w0 w w' : World} (h : VAt wb b p r tb m L w0 w) (k : Kept [] w w') : VAt wb b p r tb m L w0 w' := by
  obtain ⟨pb, cap, ls, l3, xs, ys, pcs, h1, h2, h3, h4⟩ := h.at_
  obtain ⟨en, sl, hp, hf⟩ := h.pair
  exact ⟨⟨en, sl, hp.keptNil k, hf⟩, h.ls, ⟨pb, cap, ls, l3, xs, ys, pcs, k.at h1 (by simp), k.at h2 (by simp), h3, h4.keptNil k⟩, h.wbz, h.kept.trans k⟩
theorem VAt.after {wb b : Nat} {p : PM} {r tb : Nat} {m m' : M} {L : Nat} {w0 w w' : World} (h : VAt wb b p r tb m L w0 w) {en en' : Nat → Nat} {sl sl' : Value} (hp : Pair b p en r tb sl w0.heap.size m w) (hf : ∀ x, x ∈ fpm p en m ++ fr r tb sl → w0.heap.size ≤ x)
    (k : Kept (fpm p en m ++ fr r tb sl) w w') (hp' : Pair b p en' r tb sl' w0.heap.size m' w') (hf' : ∀ x, x ∈ fpm p en' m' ++ fr r tb sl' → w0.heap.size ≤ x) (hls : m'.LS) : VAt wb b p r tb m' L w0 w' := by
  obtain ⟨pb, cap, ls, l3, xs, ys, pcs, e1, e2, e3, e4⟩ := h.at_
  have hm := hp.has
  refine ⟨⟨en', sl', hp', hf'⟩, hls, ⟨pb, cap, ls, l3, xs, ys, pcs, k.at e1 (fun hy => (hm _ hy _).1 e1), k.at e2 (fun hy => (hm _ hy _).2.1 e2), e3, e4.kept k (fun y hy cs => ⟨(hm y hy cs).2.2.1, (hm y hy cs).2.2.2⟩)⟩, h.wbz, h.kept.drop k (fun x hx hlt => ?_)⟩
  have := hf x hx
  omega
theorem fresh_of {p : PM} {en en' : Nat → Nat} {m m' : M} {r tb : Nat} {sl sl' : Value} {w0 w : World} (hw : w0.heap.size ≤ w.heap.size) (hf : ∀ x, x ∈ fpm p en m ++ fr r tb sl → w0.heap.size ≤ x)
    (h1 : ∀ j, j < m.nc → en' j = en j) (h2 : ∀ j, m.nc ≤ j → j < m'.nc → w.heap.size ≤ en' j) (h3 : ∀ g, sl'.ownBlock = some g → sl.ownBlock = some g ∨ w.heap.size ≤ g) : ∀ x, x ∈ fpm p en' m' ++ fr r tb sl' → w0.heap.size ≤ x := by
  intro x hx
  simp only [fpm, fp, fr, List.mem_append, List.mem_cons, List.mem_map, List.mem_range] at hx
  rcases hx with (rfl | rfl | rfl | hx | ⟨j, hj, rfl⟩) | rfl | rfl | hx
  · exact hf _ (by simp [fpm])
  · exact hf _ (by simp [fpm])
  · exact hf _ (by simp [fpm, fp])
  · exact hf _ (by simp [fpm, fp, hx])
  · by_cases hjn : j < m.nc
    · rw [h1 j hjn]
      exact hf _ (List.mem_append_left _ (List.mem_cons_of_mem _ (List.mem_cons_of_mem _ (mem_fp_e p en hjn))))
    · have := h2 j (by omega) hj; omega
  · exact hf _ (by simp [fr])
  · exact hf _ (by simp [fr])
  · rcases h3 x (by simpa using hx) with q | q
    · exact hf _ (by simp [fr, q])
    · omega
end Go.Proofs.YtfgfpggjcfhccaaGreat
namespace Go.Proofs.YtfgfpggjcfhccaaGreat
open Go.RowKit
theorem flat_len (l : List (Int × Int × Int)) : (flat l).length = l.length * 3 := by
  induction l with
  | nil => rfl
  | cons t l ih => simp only [flat, List.length_cons, ih]; omega
theorem rowI_size (f : Nat → Int) (X : Nat → Int × Int) : (rowI f X 8).toArray.size = cnt f 8 * 3 := by
  rw [List.size_toArray, rowI_flat, flat_len, tri_len]
theorem rows25_took {wb B L b : Nat} {cells : Array Value} {ls l3 : Value} {xs ys : List Value} {w : World} {X : Array Value} (hb : w.heap[wb]? = some (.cells cells 64 (0, 0))) (h : LAt B ls l3 L xs ys w) (hl : w.heap[b]? = some (.cells X 84 (0, 0))) :
    ∀ y, y ∈ b :: wb :: (ls.ownBlock.toList ++ l3.ownBlock.toList) → ∃ cs T, w.heap[y]? = some (.cells cs T (0, 0)) ∧ (T = 84 ∨ T = 64 ∨ T = 25) := by
  intro y hy
  rcases List.mem_cons.1 hy with rfl | hy
  · exact ⟨_, _, hl, .inl rfl⟩
  · obtain ⟨cs, q | q⟩ := rows25_of hb h y hy
    · exact ⟨cs, _, q, .inr (.inl rfl)⟩
    · exact ⟨cs, _, q, .inr (.inr rfl)⟩
structure LookedV (wb b pb cap L : Nat) (p : PM) (r tb : Nat) (m : M) (w0 w' : World) : Prop where
  out : VAt wb b p r tb m (L + 2) w0 w'
set_option maxRecDepth 100000 in
set_option maxHeartbeats 1600000 in
theorem vstep_look (wb b : Nat) (p : PM) (r tb : Nat) (m : M) (L : Nat) (mp i y0 y1 y2 y3 : Int) (w0 w : World) (h : VAt wb b p r tb m L w0 w) (hL : L + 1 ≤ 4000000) :
    Calls Tryz.prog 20 #[.pointer (some ⟨wb, 0, none⟩), .agg #[Value.int .i64 4, .int .i64 mp, .int .i64 i, .int .i64 y0, .int .i64 y1, .int .i64 y2, .int .i64 y3]] w fun e w' => e = .returned (.bool true) ∧ LookedV wb b 0 0 L p r tb m w0 w' := by
  obtain ⟨pb, cap, ls, l3, xs, ys, pcs, hb, hpb, hpc, hl⟩ := h.at_
  obtain ⟨en, sl, hT, hfr⟩ := h.pair
  have hls := h.ls
  have hwbz := h.wbz
  have hB := h.kept.size
  have HK0 : Hid _ := h.kept
  have zb := lt_of_block hb
  have d0 : w.cell? ⟨wb, 0, none⟩ = some (.slice (some ⟨pb, 0, none⟩) 1 cap) := cell_of hb 0
  have ho := block_alloc_new w (.cells #[Value.int .i64 4, .int .i64 mp, .int .i64 i, .int .i64 y0, .int .i64 y1, .int .i64 y2, .int .i64 y3] 34)
  have hK : Kept [] w (w.alloc (.cells #[Value.int .i64 4, .int .i64 mp, .int .i64 i, .int .i64 y0, .int .i64 y1, .int .i64 y2, .int .i64 y3] 34)) := (Kept.refl _ w).alloc _
  have HL : Hid _ := hl
  have HT : Hid _ := hT
  have HFR : Hid _ := hfr
  have HLS : Hid _ := hls
  clear hl hT hfr hls h
  go_enter Tryz.func20, Tryz.ntmps20
  go_wp2_with fail
  have g0 := cell_of (hK.at hb (by simp)) 0
  have gp := (cell_of (hK.at hpb (by simp)) 0).trans hpc
  generalize (w.alloc (.cells #[Value.int .i64 4, .int .i64 mp, .int .i64 i, .int .i64 y0, .int .i64 y1, .int .i64 y2, .int .i64 y3] 34)) = W0 at *
  have d2 : ∀ x, W0.cell? ⟨w.heap.size, x, none⟩ = #[Value.int .i64 4, .int .i64 mp, .int .i64 i, .int .i64 y0, .int .i64 y1, .int .i64 y2, .int .i64 y3][x]? := cell_of ho
  go_region_held3 (fun w' => w'.cell? ⟨wb, 0, none⟩ = some (.slice (some ⟨pb, 0, none⟩) 1 cap) ∧ w'.cell? ⟨pb, 0, none⟩ = some (.pointer (some ⟨b, 0, none⟩)) ∧ (∀ x, w'.cell? ⟨w.heap.size, x, none⟩ = #[Value.int .i64 4, .int .i64 mp, .int .i64 i, .int .i64 y0, .int .i64 y1, .int .i64 y2, .int .i64 y3][x]?))
    (first | exact ⟨g0, gp, d2⟩)
    (first | (go_at_call 39; refine (pick_one mp _).mono ?_; rintro e w1 ⟨rfl, rfl⟩))
  go_wp2_with fail
  refine (pair_seen (HT.out.keptNil hK.drew)).mono ?_
  rintro e w2 ⟨b1, b2, rfl, hb1, hb2, hz1, hz2, hz3, hT2, k2⟩
  clear g0 gp d2 d0
  have K2 : Kept (fpm p en m) w w2 := (hK.drew.mono (by simp)).trans k2
  have hmp := HT.out.has
  have nm : ∀ (x : Nat) (o : Obj), w.heap[x]? = some o → (∀ y, y ∈ fpm p en m → w.heap[y]? ≠ some o) → x ∉ fpm p en m := fun x o hx h1 hm => h1 x hm hx
  have hbW := K2.at hb (nm _ _ hb (fun y hy => (hmp y (List.mem_append_left _ hy) _).1))
  have hpW := K2.at hpb (nm _ _ hpb (fun y hy => (hmp y (List.mem_append_left _ hy) _).2.1))
  have lW : LAt w0.heap.size ls l3 L xs ys w2 := HL.out.kept K2 (fun y hy cs => ⟨(hmp y (List.mem_append_left _ hy) cs).2.2.1, (hmp y (List.mem_append_left _ hy) cs).2.2.2⟩)
  have zw : w.heap.size ≤ b1 := Nat.le_trans hK.drew.size hz1
  have zw2 : w.heap.size ≤ b2 := Nat.le_trans hK.drew.size hz2
  have hx1 : ∀ (k : Nat) (x : Value), xs[k]? = some x → ∀ g, x.ownBlock = some g → g < w.heap.size := fun k x hk g hg => (HL.out.good k x hk).lt hg
  have hx2 : ∀ (k : Nat) (y : Value), ys[k]? = some y → ∀ g, y.ownBlock = some g → g < w.heap.size := fun k y hk g hg => (HL.out.good3 k y hk).lt hg
  have hv := block_alloc_new w2 (.cells #[Value.slice (some ⟨b1, 0, none⟩) (cnt m.read 8) (cnt m.read 8), .bool m.am, .bool m.hd, .slice (some ⟨b2, 0, none⟩) (cnt m.dirty 8) (cnt m.dirty 8), .int .i64 m.mis, .int .i64 m.hol] 27)
  have a1 := block_alloc_lt hb1 (.cells #[Value.slice (some ⟨b1, 0, none⟩) (cnt m.read 8) (cnt m.read 8), .bool m.am, .bool m.hd, .slice (some ⟨b2, 0, none⟩) (cnt m.dirty 8) (cnt m.dirty 8), .int .i64 m.mis, .int .i64 m.hol] 27)
  have a2 := block_alloc_lt hb2 (.cells #[Value.slice (some ⟨b1, 0, none⟩) (cnt m.read 8) (cnt m.read 8), .bool m.am, .bool m.hd, .slice (some ⟨b2, 0, none⟩) (cnt m.dirty 8) (cnt m.dirty 8), .int .i64 m.mis, .int .i64 m.hol] 27)
  have aW := block_alloc_lt hbW (.cells #[Value.slice (some ⟨b1, 0, none⟩) (cnt m.read 8) (cnt m.read 8), .bool m.am, .bool m.hd, .slice (some ⟨b2, 0, none⟩) (cnt m.dirty 8) (cnt m.dirty 8), .int .i64 m.mis, .int .i64 m.hol] 27)
  have aP := block_alloc_lt hpW (.cells #[Value.slice (some ⟨b1, 0, none⟩) (cnt m.read 8) (cnt m.read 8), .bool m.am, .bool m.hd, .slice (some ⟨b2, 0, none⟩) (cnt m.dirty 8) (cnt m.dirty 8), .int .i64 m.mis, .int .i64 m.hol] 27)
  have lV := lW.keptNil ((Kept.refl [] w2).alloc (.cells #[Value.slice (some ⟨b1, 0, none⟩) (cnt m.read 8) (cnt m.read 8), .bool m.am, .bool m.hd, .slice (some ⟨b2, 0, none⟩) (cnt m.dirty 8) (cnt m.dirty 8), .int .i64 m.mis, .int .i64 m.hol] 27))
  have tV := hT2.keptNil ((Kept.refl [] w2).alloc (.cells #[Value.slice (some ⟨b1, 0, none⟩) (cnt m.read 8) (cnt m.read 8), .bool m.am, .bool m.hd, .slice (some ⟨b2, 0, none⟩) (cnt m.dirty 8) (cnt m.dirty 8), .int .i64 m.mis, .int .i64 m.hol] 27))
  have KV := K2.alloc (.cells #[Value.slice (some ⟨b1, 0, none⟩) (cnt m.read 8) (cnt m.read 8), .bool m.am, .bool m.hd, .slice (some ⟨b2, 0, none⟩) (cnt m.dirty 8) (cnt m.dirty 8), .int .i64 m.mis, .int .i64 m.hol] 27)
  have zV := Nat.le_trans hB KV.size
  have HV : Hid _ := And.intro lV tV
  have HX1 : Hid _ := hx1
  have HX2 : Hid _ := hx2
  have HKV : Hid _ := KV
  clear lV tV lW hT2 hx1 hx2 hmp nm KV
  go_wp2_with fail
  generalize (w2.alloc (.cells #[Value.slice (some ⟨b1, 0, none⟩) (cnt m.read 8) (cnt m.read 8), .bool m.am, .bool m.hd, .slice (some ⟨b2, 0, none⟩) (cnt m.dirty 8) (cnt m.dirty 8), .int .i64 m.mis, .int .i64 m.hol] 27)) = W3 at *
  refine (takes_gen wb w0.heap.size L b1 (cnt m.read 8) (cnt_le _ _) _ ls l3 xs ys W3 aW HV.out.1 (by omega) zV _ (rowI_size _ _) a1 (fun k x hk hg => by have := HX1.out k x hk b1 hg; omega) (fun k y hk hg => by have := HX2.out k y hk b1 hg; omega)).mono ?_
  rintro e w4 ⟨rfl, T4⟩
  obtain ⟨ls4, l34, ys4, h4, l4, k4, y4⟩ := T4.out
  have r4 := rows25_took aW HV.out.1 a1
  have off4 : ∀ (x : Nat) (cs : Array Value) (T : TypeId), W3.heap[x]? = some (.cells cs T (0, 0)) → x ≠ b1 → T ≠ 64 → T ≠ 25 → x ∉ b1 :: wb :: (ls.ownBlock.toList ++ l3.ownBlock.toList) := by
    intro x cs T hx hne h1 h2 hm
    rcases List.mem_cons.1 hm with e | hm
    · exact hne e
    · obtain ⟨c', q | q⟩ := rows25_of aW HV.out.1 x hm
      · rw [hx] at q; simp only [Option.some.injEq, Obj.cells.injEq] at q; exact h1 q.2.1
      · rw [hx] at q; simp only [Option.some.injEq, Obj.cells.injEq] at q; exact h2 q.2.1
  have hvn : w2.heap.size ≠ b1 := by have := lt_of_block hb1; omega
  have hv4 := k4.at hv (off4 _ _ _ hv hvn (by decide) (by decide))
  have a24 := k4.at a2 (off4 _ _ _ a2 (Ne.symm hz3) (by decide) (by decide))
  have hpn : pb ≠ b1 := by have := lt_of_block hpb; omega
  have aP4 := k4.at aP (off4 _ _ _ aP hpn (by decide) (by decide))
  have t4 := HV.out.2.keptF k4 r4
  have c3 : ∀ o, w4.cell? ⟨w2.heap.size, o, none⟩ = #[Value.slice (some ⟨b1, 0, none⟩) (cnt m.read 8) (cnt m.read 8), .bool m.am, .bool m.hd, .slice (some ⟨b2, 0, none⟩) (cnt m.dirty 8) (cnt m.dirty 8), .int .i64 m.mis, .int .i64 m.hol][o]? := cell_of hv4
  have z4 := Nat.le_trans zV k4.size
  have z24 := lt_of_block a2
  have HW : Hid _ := And.intro l4 (And.intro t4 T4)
  have HY : Hid _ := y4
  clear l4 t4 T4 y4 off4
  go_wp2_with fail
  refine (takes_gen wb w0.heap.size (L + 1) b2 (cnt m.dirty 8) (cnt_le _ _) _ ls4 l34 _ ys4 w4 h4 HW.out.1 (by omega) z4 _ (rowI_size _ _) a24 (fun k x hk hg => by
      have hm := List.mem_of_getElem? hk
      simp only [List.mem_append, List.mem_singleton] at hm
      rcases hm with hm | rfl
      · obtain ⟨k', hk'⟩ := List.getElem?_of_mem hm
        have := HX1.out k' x hk' b2 hg; omega
      · simp only [Value.ownBlock, Option.some.injEq] at hg; exact hz3 hg) (fun k y hk hg => by
      rcases HY.out k y hk with ⟨k', hk'⟩ | q
      · have := HX2.out k' y hk' b2 hg; omega
      · have := q b2 hg; omega)).mono ?_
  rintro e w5 ⟨rfl, T5⟩
  obtain ⟨ls5, l35, ys5, h5, l5, k5, -⟩ := T5.out
  have r5 := rows25_took h4 HW.out.1 a24
  have aP5 : w5.heap[pb]? = some (.cells pcs 22 (0, 0)) := k5.at aP4 (fun hm => by
    obtain ⟨cs, T, q, hT⟩ := r5 pb hm
    rw [aP4] at q
    simp only [Option.some.injEq, Obj.cells.injEq] at q
    rcases hT with e | e | e <;> (rw [e] at q; simp at q))
  have t5 := HW.out.2.1.keptF k5 r5
  have HX : Hid (LookedV wb b 0 0 L p r tb m w0 w5) := by
    have K3 : Kept [] w0 W3 := HK0.out.drop HKV.out (fun x hx hlt => by have := HFR.out x (List.mem_append_left _ hx); omega)
    have own : ∀ (g : Nat) (sl : Value) (n : Nat) (zs : List Value) (u : World), u.ownsRow w0.heap.size 25 1 sl n zs → sl.ownBlock = some g → w0.heap.size ≤ g := fun g sl n zs u hu hg => by obtain ⟨cs, _, h⟩ := own_lt hu hg; exact h
    have K4 : Kept [] w0 w4 := K3.drop k4 (fun x hx hlt => by
      simp at hx
      rcases hx with rfl | rfl | hx | hx
      · omega
      · omega
      · have := own _ _ _ _ _ HV.out.1.row hx; omega
      · have := own _ _ _ _ _ HV.out.1.row3 hx; omega)
    have K5 : Kept [] w0 w5 := K4.drop k5 (fun x hx hlt => by
      simp at hx
      rcases hx with rfl | rfl | hx | hx
      · omega
      · omega
      · have := own _ _ _ _ _ HW.out.1.row hx; omega
      · have := own _ _ _ _ _ HW.out.1.row3 hx; omega)
    exact ⟨⟨en, sl, t5, HFR.out⟩, HLS.out, ⟨pb, cap, ls5, l35, _, ys5, pcs, h5, aP5, hpc, l5⟩, hwbz, K5⟩
  clear l5 t5 T5 c3
  go_wp2
  go_ret
  exact ⟨rfl, HX.out⟩
structure OpenedV (wb : Nat) (w w' : World) : Prop where
  out : ∃ b p r tb, VAt wb b p r tb (M.new 3) 0 w w'
set_option maxRecDepth 100000 in
set_option maxHeartbeats 3200000 in
theorem vstep_new (wb : Nat) (w0 w : World) (hb : w.heap[wb]? = some (.cells #[.slice none 0 0, .slice none 0 0, .slice none 0 0] 64 (0, 0))) (hw : Kept [] w0 w) (hz : w0.heap.size ≤ wb) :
    Calls Tryz.prog 20 #[.pointer (some ⟨wb, 0, none⟩), .agg #[.int .i64 1, .int .i64 0, .int .i64 3, .int .i64 0, .int .i64 0, .int .i64 0, .int .i64 0]] w fun e w' => e = .returned (.bool true) ∧ OpenedV wb w0 w' := by
  obtain ⟨i1, hi1, hy0, hy1, hy2⟩ := info_parts info22
  have zb := lt_of_block hb
  have hK : Kept [] w (w.alloc (.cells #[.int .i64 1, .int .i64 0, .int .i64 3, .int .i64 0, .int .i64 0, .int .i64 0, .int .i64 0] 34)) := (Kept.refl _ w).alloc _
  go_enter Tryz.func20, Tryz.ntmps20
  go_wp2_with fail
  generalize (w.alloc (.cells #[.int .i64 1, .int .i64 0, .int .i64 3, .int .i64 0, .int .i64 0, .int .i64 0, .int .i64 0] 34)) = W0 at *
  refine (open_gen 3 W0 (by omega) (by omega)).mono ?_
  rintro e w1 ⟨b, p, r, tb, rfl, hT, k1, hzb, hf⟩
  have K1 := hK.trans k1
  have hb1 := K1.at hb (by simp)
  have d0 : w1.cell? ⟨wb, 0, none⟩ = some (.slice none 0 0) := cell_of hb1 0
  have zb1 := lt_of_block hb1
  have kz := K1.size
  have hz1 := hw.size
  have zW := hK.size
  have row0 : (w1.alloc (.cells #[.pointer (some ⟨b, 0, none⟩)] 22)).ownsRow w0.heap.size 22 1 (.slice none 0 0) 0 [] := ⟨rfl, .inl ⟨rfl, rfl⟩⟩
  have HF : Hid _ := And.intro hT hf
  clear hT hf
  go_wp2_with (at_builtin; go_must (refine wpList_append_lies _ rfl _ _ _ rfl w0.heap.size 22 i1 _ 1 8 Tryz.underlying61 hi1 hy0 hy1 hy2 rfl (by omega) (.slice none 0 0) 0 [] rfl row0 ⟨w1.heap.size, 0, none⟩ 1 1 [.pointer (some ⟨b, 0, none⟩)] rfl rfl (news1 w1 _ 22) (by simp [Value.oneCell']) (by omega) (by unfold maxLen; omega) (by omega) (by simp; omega) (w1.heap.size + 1) (by simp) ?_); intro g cap w2 hown1 hgrow hat hlt1; have hm1 := (hgrow.block wb (by simp; omega) (by simp [Value.ownBlock])).trans (block_alloc_lt hb1 _); have s4 := cell_of hm1 0; have sf := frozen_of hm1 0)
  go_ret
  refine ⟨rfl, ⟨b, p, r, tb, ?_⟩⟩
  have k2 : Kept [] w1 w2 := by
    refine ⟨hgrow.os, hgrow.tape, hgrow.output, ?_, fun x hx _ => ?_⟩
    · have := hgrow.size; simp at this; omega
    · exact (hgrow.block x (by simp; omega) (by simp [Value.ownBlock])).trans (Below.heap_alloc _ _ _ hx)
  have hg : g = w1.heap.size + 1 := by
    rcases hat with h | h
    · simp [Value.ownBlock] at h
    · exact h
  obtain ⟨cur, hcur, hcur0⟩ : ∃ cur, w2.heap[g]? = some (.cells cur 22 (0, 0)) ∧ cur[0]? = some (.pointer (some ⟨b, 0, none⟩)) := by
    rcases hown1.2 with ⟨_, h0⟩ | ⟨g', cap', cur, e1, _, e3, _, _, _, e7⟩
    · omega
    · cases e1
      refine ⟨cur, e3, ?_⟩
      have := congrArg (fun l => l[0]?) e7
      simpa using this
  have T2 := (HF.out.1 w0.heap.size (by omega)).keptNil k2
  have k3 : Kept [wb] w2 (w2.setCell ⟨wb, 0, none⟩ (.slice (some ⟨g, 0, none⟩) 1 cap)) := (Kept.refl _ w2).setCell (.inl (by simp)) _
  have T3 := T2.keptF k3 (fun y hy => by simp at hy; subst hy; exact ⟨_, _, hm1, .inr (.inl rfl)⟩)
  refine ⟨⟨_, _, T3, fun x hx => ?_⟩, fun j _ ha => absurd rfl ha, ⟨g, cap, .slice none 0 0, .slice none 0 0, [], [], cur, ?_, block_set_ne hcur (ne_of_blocks hcur hm1 (by simp)) _ _, hcur0, ?_⟩, hz, ?_⟩
  · have := HF.out.2 x hx; omega
  · rw [block_set_same hm1]; simp
  · exact ⟨⟨rfl, .inl ⟨rfl, rfl⟩⟩, ⟨rfl, .inl ⟨rfl, rfl⟩⟩, fun g hg => by simp [Value.ownBlock] at hg, fun k x hk => by simp at hk, fun k x hk => by simp at hk⟩
  · exact (hw.trans (K1.trans k2)).setCell (.inr hz) _
structure SteppedV (wb b : Nat) (p : PM) (r tb : Nat) (L c : Nat) (w0 w' : World) : Prop where
  out : ∃ m L', L' ≤ L + 2 ∧ m.nc ≤ c + 1 ∧ VAt wb b p r tb m L' w0 w'
theorem vstep (wb b : Nat) (p : PM) (r tb : Nat) (m : M) (L : Nat) (kd mp i y0 y1 y2 y3 : Int) (w0 w : World) (h : VAt wb b p r tb m L w0 w) (h1 : kd ≠ 1) (h2 : kd = 2 → y0 ≤ 1) (hL : L + 1 ≤ 4000000) (hnc : m.nc < 1000000) :
    Calls Tryz.prog 20 #[.pointer (some ⟨wb, 0, none⟩), .agg #[.int .i64 kd, .int .i64 mp, .int .i64 i, .int .i64 y0, .int .i64 y1, .int .i64 y2, .int .i64 y3]] w fun e w' => e = .returned (.bool true) ∧ SteppedV wb b p r tb L m.nc w0 w' := by
  by_cases ho : kd < 2 ∨ 5 < kd
  · refine (wstep_other wb kd mp i y0 y1 y2 y3 w h1 ho).mono ?_
    rintro e w' ⟨rfl, k⟩
    exact ⟨rfl, ⟨m, L, by omega, by omega, h.keptNil k⟩⟩
  · obtain ⟨pb, cap, ls, l3, xs, ys, pcs, e1, e2, e3, e4⟩ := h.at_
    obtain ⟨en, sl, hp, hf⟩ := h.pair
    by_cases h4 : kd = 4
    · subst h4
      refine (vstep_look wb b p r tb m L mp i y0 y1 y2 y3 w0 w h hL).mono ?_
      rintro e w' ⟨rfl, hl⟩
      exact ⟨rfl, ⟨m, L + 2, by omega, by omega, hl.out⟩⟩
    · by_cases hk2 : kd = 2
      · subst hk2
        have hbl := begin_ls h.ls i y0 y1 y2 y3 (h2 rfl)
        refine (wstep_does wb b pb cap ls l3 pcs 2 mp i y0 y1 y2 y3 w (fun W w' => Pair b p en r tb sl w0.heap.size (m.begin i y0 y1 y2 y3).2 w' ∧ Kept (fpm p en m ++ fr r tb sl) W w') (by omega) e1 e2 e3 (fun W hW => pair_begin (hp.keptNil hW) mp i y0 y1 y2 y3)).mono ?_
        rintro e w' ⟨rfl, W, hW, hT, hK⟩
        refine ⟨rfl, ⟨_, L, by omega, by rw [hbl.2]; omega, (h.keptNil hW).after (hp.keptNil hW) hf hK hT (fresh_of h.kept.size hf (fun _ _ => rfl) (fun j a b => absurd b (by rw [hbl.2]; omega)) (fun g hg => .inl hg)) hbl.1⟩⟩
      · by_cases hk3 : kd = 3
        · subst hk3
          have hsl := step_ls h.ls i
          refine (wstep_does wb b pb cap ls l3 pcs 3 mp i y0 y1 y2 y3 w (fun W w' => (∃ en' sl', Pair b p en' r tb sl' w0.heap.size (m.step i).o.m w' ∧ (∀ j, j < m.nc → en' j = en j) ∧ (∀ j, m.nc ≤ j → j < (m.step i).o.m.nc → W.heap.size ≤ en' j) ∧ (∀ g, sl'.ownBlock = some g → sl.ownBlock = some g ∨ W.heap.size ≤ g)) ∧ Kept (fpm p en m ++ fr r tb sl) W w') (by omega) e1 e2 e3 (fun W hW => pair_step (hp.keptNil hW) h.ls hnc mp i y0 y1 y2 y3 (inv_step hp.inv h.ls i))).mono ?_
          rintro e w' ⟨rfl, W, hW, ⟨en', sl', hT, q1, q2, q3⟩, hK⟩
          exact ⟨rfl, ⟨_, L, by omega, hsl.2, (h.keptNil hW).after (hp.keptNil hW) hf hK hT (fresh_of (Nat.le_trans h.kept.size hW.size) hf q1 q2 q3) hsl.1⟩⟩
        · obtain rfl : kd = 5 := by omega
          refine (wstep_does wb b pb cap ls l3 pcs 5 mp i y0 y1 y2 y3 w (fun W w' => Pair b p en r tb sl w0.heap.size { m with cl := true } w' ∧ Kept (fpm p en m ++ fr r tb sl) W w') (by omega) e1 e2 e3 (fun W hW => pair_close (hp.keptNil hW) mp i y0 y1 y2 y3)).mono ?_
          rintro e w' ⟨rfl, W, hW, hT, hK⟩
          exact ⟨rfl, ⟨{ m with cl := true }, L, by omega, Nat.le_succ _, (h.keptNil hW).after (m' := { m with cl := true }) (hp.keptNil hW) hf hK hT (fun x hx => hf x hx) (fun j a b => h.ls j a b)⟩⟩
end Go.Proofs.YtfgfpggjcfhccaaGreat
namespace Go.Proofs.YtfgfpggjcfhccaaGreat
open Go.RowKit
set_option maxRecDepth 100000 in
set_option maxHeartbeats 6400000 in
theorem plays_store (S : Value) (n : Nat) (w0 : World) (hS : Script w0 S n) (hn : n ≤ 500000) : Calls Tryz.prog 9 #[S, .bool true, .bool false, .bool false] w0 fun e w' => e = .returned (.bool true) ∧ Kept [] w0 w' := by
  have HS : Hid _ := hS
  have shape : ∃ a c, S = .slice a n c ∧ n ≤ c := by
    obtain ⟨a, c, h1, h2, _⟩ := hS.lies
    exact ⟨a, c, h1, h2⟩
  obtain ⟨sa, sc, rfl, hsc⟩ := shape
  clear hS
  go_enter Tryz.func9, Tryz.ntmps9
  go_wp2_with fail
  refine (vstep_new w0.heap.size w0 _ (block_alloc_new _ _) ((Kept.refl [] w0).alloc _) (Nat.le_refl _)).mono ?_
  rintro e w1 ⟨rfl, hO⟩
  obtain ⟨b, p, r, tb, hW⟩ := hO.out
  obtain ⟨pb, cap, ls, l3, xs, ys, pcs, e1, e2, e3, e4⟩ := hW.at_
  have d0 : w1.cell? ⟨w0.heap.size, 0, none⟩ = some (.slice (some ⟨pb, 0, none⟩) 1 cap) := cell_of e1 0
  clear e1 e2 e3 e4 hO
  go_wp2_with fail
  clear d0
  have n0 : (M.new 3).nc = 0 := rfl
  refine (vstep w0.heap.size b p r tb _ 0 2 0 1 1 3 5 0 w0 _ hW (by omega) (fun _ => by omega) (by omega) (by omega)).mono ?_
  rintro e w2 ⟨rfl, hSt⟩
  obtain ⟨m2, L2, hL2, hn2, hW2⟩ := hSt.out
  rw [n0] at hn2
  clear hSt hW n0
  go_wp2_with fail
  go_loopw [10, 11] (fun ok x W => ∃ (k L : Nat) (m : M), k ≤ 9 ∧ L ≤ 2 * k + 2 ∧ m.nc ≤ k + 1 ∧ x = .int .i64 k ∧ ok = .bool true ∧ VAt w0.heap.size b p r tb m L w0 W) (fun _ x _ => 9 - (intOf x).toNat)
  case atStart => exact ⟨0, L2, m2, by omega, by omega, by omega, rfl, rfl, hW2⟩
  case round =>
    clear hW2
    obtain ⟨k, L, m, hk, hL, hm, rfl, rfl, hW⟩ := hrel
    by_cases hlt : k < 9
    · have hlt' : (k : Int) < 9 := by omega
      go_wp2_with fail
      refine (vstep w0.heap.size b p r tb m L 3 0 1 0 0 0 0 w0 _ hW (by omega) (fun h => absurd h (by decide)) (by omega) (by omega)).mono ?_
      rintro e w3 ⟨rfl, hSt⟩
      obtain ⟨m3, L3, hL3, hn3, hW3⟩ := hSt.out
      clear hSt hW
      go_wp2
      go_roundw
      case rel => exact ⟨k + 1, L3, m3, by omega, by omega, by omega, by go_num, rfl, hW3⟩
      case measure => simp [intOf]; omega
    · have hlt' : ¬ (k : Int) < 9 := by omega
      have hkk : k = 9 := by omega
      subst hkk
      go_wp2
      go_loopw [10, 12] (fun ok x W => ∃ (k L : Nat) (m : M), k ≤ n ∧ L ≤ 2 * k + 20 ∧ m.nc ≤ k + 10 ∧ x = .int .i64 k ∧ ok = .bool true ∧ VAt w0.heap.size b p r tb m L w0 W) (fun _ x _ => n - (intOf x).toNat)
      case atStart => exact ⟨0, L, m, by omega, by omega, by omega, rfl, rfl, hW⟩
      case round =>
        clear hW
        obtain ⟨k, L, m, hk, hL, hm, rfl, rfl, hW⟩ := hrel
        by_cases hlt : k < n
        · have hlt' : (k : Int) < n := by omega
          obtain ⟨_, _, hs1, _, hs3⟩ := (HS.out.kept hW.kept).lies
          cases hs1
          obtain ⟨sb, so, kd, mp, i, y0, y1, y2, y3, rfl, hltb, c0, c1, c2, c3, c4, c5, c6⟩ := hs3 k hlt
          have HC : Hid _ := hs3
          clear hs3
          have hb31 : (k : Int) ≤ 1048576 := by omega
          by_cases hk2 : kd = 2
          · subst hk2
            by_cases hy1 : y0 = 1
            · subst hy1
              go_wp2_with fail
              refine (vstep w0.heap.size b p r tb m L 2 mp i 1 y1 y2 y3 w0 _ (hW.keptNil ((Kept.refl [] wr).alloc _)) (by omega) (fun _ => by omega) (by omega) (by omega)).mono ?_
              rintro e w2 ⟨rfl, hSt⟩
              obtain ⟨m2, L2, hL2, hn2, hW2⟩ := hSt.out
              obtain ⟨pb2, cap2, ls2, l32, xs2, ys2, pcs2, f1, f2, f3, f4⟩ := hW2.at_
              have HF : Hid _ := And.intro f1 f4
              clear f1 f2 f3 f4 hSt c0 c1 c2 c3 c4 c5 c6 hW
              go_wp2_with fail
              refine (looks_yes w0.heap.size w0.heap.size L2 _ ls2 l32 xs2 ys2 w2 HF.out.1 HF.out.2 (by omega)).mono ?_
              rintro e w3 ⟨rfl, rfl⟩
              go_wp2
              go_roundw
              case rel => exact ⟨k + 1, L2, m2, by omega, by omega, by omega, by go_num, rfl, hW2⟩
              case measure => simp [intOf]; omega
            · by_cases hy2 : 1 < y0
              · have ey : (y0 == 1) = false := beq_eq_false_iff_ne.2 hy1
                go_wp2
                go_roundw
                case rel => exact ⟨k + 1, L, m, by omega, by omega, by omega, by go_num, rfl, hW.keptNil ((Kept.refl [] wr).alloc _)⟩
                case measure => simp [intOf]; omega
              · have ey : (y0 == 1) = false := beq_eq_false_iff_ne.2 hy1
                go_wp2_with fail
                refine (vstep w0.heap.size b p r tb m L 2 mp i y0 y1 y2 y3 w0 _ (hW.keptNil ((Kept.refl [] wr).alloc _)) (by omega) (fun _ => by omega) (by omega) (by omega)).mono ?_
                rintro e w2 ⟨rfl, hSt⟩
                obtain ⟨m2, L2, hL2, hn2, hW2⟩ := hSt.out
                obtain ⟨pb2, cap2, ls2, l32, xs2, ys2, pcs2, f1, f2, f3, f4⟩ := hW2.at_
                have HF : Hid _ := And.intro f1 f4
                clear f1 f2 f3 f4 hSt c0 c1 c2 c3 c4 c5 c6 hW
                go_wp2_with fail
                refine (looks_yes w0.heap.size w0.heap.size L2 _ ls2 l32 xs2 ys2 w2 HF.out.1 HF.out.2 (by omega)).mono ?_
                rintro e w3 ⟨rfl, rfl⟩
                go_wp2
                go_roundw
                case rel => exact ⟨k + 1, L2, m2, by omega, by omega, by omega, by go_num, rfl, hW2⟩
                case measure => simp [intOf]; omega
          · have e2 : (kd == 2) = false := beq_eq_false_iff_ne.2 hk2
            by_cases hk1 : kd = 1
            · subst hk1
              go_wp2
              go_roundw
              case rel => exact ⟨k + 1, L, m, by omega, by omega, by omega, by go_num, rfl, hW.keptNil ((Kept.refl [] wr).alloc _)⟩
              case measure => simp [intOf]; omega
            · have e1 : (kd == 1) = false := beq_eq_false_iff_ne.2 hk1
              go_wp2_with fail
              refine (vstep w0.heap.size b p r tb m L kd mp i y0 y1 y2 y3 w0 _ (hW.keptNil ((Kept.refl [] wr).alloc _)) hk1 (fun h => absurd h hk2) (by omega) (by omega)).mono ?_
              rintro e w2 ⟨rfl, hSt⟩
              obtain ⟨m2, L2, hL2, hn2, hW2⟩ := hSt.out
              obtain ⟨pb2, cap2, ls2, l32, xs2, ys2, pcs2, f1, f2, f3, f4⟩ := hW2.at_
              have HF : Hid _ := And.intro f1 f4
              clear f1 f2 f3 f4 hSt c0 c1 c2 c3 c4 c5 c6 hW
              go_wp2_with fail
              refine (looks_yes w0.heap.size w0.heap.size L2 _ ls2 l32 xs2 ys2 w2 HF.out.1 HF.out.2 (by omega)).mono ?_
              rintro e w3 ⟨rfl, rfl⟩
              go_wp2
              go_roundw
              case rel => exact ⟨k + 1, L2, m2, by omega, by omega, by omega, by go_num, rfl, hW2⟩
              case measure => simp [intOf]; omega
        · go_wp2
          go_ret
          exact ⟨rfl, hW.kept⟩
set_option maxHeartbeats 400000 in
theorem stored_yes (S : Value) (n : Nat) (w : World) (hS : Script w S n) (hn : n ≤ 500000) : Calls Tryz.prog 5 #[S] w fun e w' => e = .returned (.bool true) ∧ Kept [] w w' := by
  go_enter Tryz.func5, Tryz.ntmps5
  go_wp2_with fail
  refine (plays_store S n w hS hn).mono ?_
  rintro e w' ⟨rfl, hk⟩
  go_wp2
  go_ret
  exact ⟨rfl, hk⟩
end Go.Proofs.YtfgfpggjcfhccaaGreat
