import Derived.Test.YtmnkphenobfbfaaXh
import Derived.OwnWalk
import Derived.Deep.AppendLies
import Derived.Test.YtmnkphenobfbfaaGb
import Derived.Test.YtmnkphenobfbfaaGh
namespace Go.Proofs.Ytmnkphenobfbfaa
open Go.RowKit
theorem Kept.ofGrownP {w w' : World} {o : Option Nat} (h : w.grownBy w' o) : Kept o.toList w w' :=
  ⟨h.os, h.tape, h.output, h.size, fun k hk hn => h.block k hk (fun e => hn (by rw [← e]; simp))⟩
/-- A table's rows, as they come out. -/
def rowP (f : Nat → Option Addr) (X : Nat → Int × Int) : Nat → List Value
  | 0 => []
  | k + 1 => rowP f X k ++ (if (f k).isSome then [.int .i64 k, .int .i64 (X k).1, .int .i64 (X k).2] else [])
theorem rowP_len (f : Nat → Option Addr) (X : Nat → Int × Int) (k : Nat) : (rowP f X k).length = cntP f k * 3 := by
  induction k with
  | zero => rfl
  | succ k ih =>
    simp only [rowP, cntP, List.length_append, ih]
    split <;> simp <;> omega
theorem cntP_mono (f : Nat → Option Addr) {a b : Nat} (h : a ≤ b) : cntP f a ≤ cntP f b := by
  induction b with
  | zero => obtain rfl : a = 0 := by omega
            exact Nat.le_refl _
  | succ b ih =>
    by_cases e : a = b + 1
    · rw [e]; exact Nat.le_refl _
    · have := ih (by omega)
      simp only [cntP]
      omega
theorem infoE84 : ∃ i, Try.prog.info? 38 = some i ∧ i.zero = some (.agg #[.int .i64 0, .int .i64 0, .int .i64 0]) ∧ i.size = 3 ∧ i.bytes = 24 := by
  have h : (Try.prog.info? 38).map (fun i => (i.zero, i.size, i.bytes)) = some (some (.agg #[.int .i64 0, .int .i64 0, .int .i64 0]), 3, 24) := by kernel_rfl
  obtain ⟨i, hi, hb⟩ := Option.map_eq_some_iff.1 h
  simp only [Prod.mk.injEq] at hb
  exact ⟨i, hi, hb.1, hb.2.1, hb.2.2⟩
theorem own_kept {w w' : World} {base : Nat} {e : TypeId} {size : Nat} {v : Value} {n : Nat} {xs : List Value} (h : w.ownsRow base e size v n xs) (k : Kept [] w w') : w'.ownsRow base e size v n xs := by
  refine ⟨h.1, ?_⟩
  rcases h.2 with h' | ⟨g, cap, cur, e1, e2, e3, e4⟩
  · exact .inl h'
  · exact .inr ⟨g, cap, cur, e1, e2, k.at e3 (by simp), e4⟩
/-- A list that is being made. -/
structure Listing (f : Nat → Option Addr) (X : Nat → Int × Int) (w : World) (b k : Nat) (W : World) : Prop where
  own : W.ownsRow w.heap.size 38 3 (.slice (some ⟨b, 0, none⟩) (cntP f k) (cntP f 8)) (cntP f k) (rowP f X k)
  kept : Kept [] w W
theorem Listing.done {f : Nat → Option Addr} {X : Nat → Int × Int} {w W : World} {b : Nat} (h : Listing f X w b 8 W) : W.heap[b]? = some (.cells (rowP f X 8).toArray 38 (0, 0)) ∧ w.heap.size ≤ b := by
  rcases h.own.2 with ⟨h', _⟩ | ⟨g, cap, cur, e1, e2, e3, e4, e5, e6, e7⟩
  · simp at h'
  · simp only [Value.slice.injEq, Option.some.injEq, Addr.mk.injEq, and_true, true_and] at e1
    obtain ⟨rfl, rfl⟩ := e1
    refine ⟨?_, e2⟩
    rw [e3]
    have : cur.toList = rowP f X 8 := by
      rw [← e7, List.take_of_length_le]
      simp [e6]
    rw [← this]
theorem two2 (w : World) (o1 o2 : Obj) : ((w.alloc o1).alloc o2).heap[w.heap.size + 1]? = some o2 := by
  have := block_alloc_new (w.alloc o1) o2
  simpa using this
set_option maxRecDepth 100000 in
set_option maxHeartbeats 1600000 in
theorem g_list (f : Nat → Option Addr) (X : Nat → Int × Int) (w : World) (hE : ∀ k, k < 8 → ∀ a, f k = some a → ∃ g, a = ⟨g, 0, none⟩ ∧ w.heap[g]? = some (.cells #[.int .i64 (X k).1, .int .i64 (X k).2] 124 (0, 0))) :
    Calls Try.prog 40 #[.agg (ptrs f)] w fun e w' => ∃ b, e = .returned (.slice (some ⟨b, 0, none⟩) (cntP f 8) (cntP f 8)) ∧ w'.heap[b]? = some (.cells (rowP f X 8).toArray 38 (0, 0)) ∧ w.heap.size ≤ b ∧ Kept [] w w' := by
  have HE : Hid _ := hE
  clear hE
  obtain ⟨i0, hi0, hz0, hz1, hz2⟩ := infoE84
  have h8 := cntP_le f 8
  simp only [ptrs]
  go_enter Try.func40, Try.ntmps40
  go_wp2_with fail
  refine Calls.mono (g_count f _) ?_
  rintro e w1 ⟨rfl, k1⟩
  have b1 := k1.at (block_alloc_new _ _) (by simp)
  have hc1 := cell_of b1
  have kk1 : Hid (Kept [] w w1) := ((Kept.refl [] w).alloc _).trans k1
  have hsz := kk1.out.size
  obtain ⟨w2, hmk, hown, hgr⟩ := run_make_own (P := Try.prog) w1 w.heap.size 33 38 i0 _ 3 Try.underlying33 hi0 hz0 hz1 .i64 .i64 (cntP f 8) (by rw [hz2]; omega) (by unfold maxLen; omega) hsz
  have b2 : w2.heap[w.heap.size]? = _ := (hgr.block _ (lt_of_block b1) (by simp)).trans b1
  have hc2 := cell_of b2
  go_wp2
  have hL0 : Listing f X w w1.heap.size 0 w2 := ⟨hown, kk1.out.trans (Kept.ofGrownP hgr)⟩
  clear hc1 hc2 b1 b2 hown hgr hmk k1
  go_loopw [3, 11] (fun x i W => ∃ k : Nat, k ≤ 8 ∧ i = .int .i64 k ∧ x = .slice (some ⟨w1.heap.size, 0, none⟩) (cntP f k) (cntP f 8) ∧ Listing f X w w1.heap.size k W) (fun _ i _ => 8 - (intOf i).toNat)
  case atStart => exact ⟨0, by omega, rfl, rfl, hL0⟩
  case round =>
    obtain ⟨k, hk, rfl, rfl, hL⟩ := hrel
    clear hL0
    by_cases hlt : k < 8
    · have hn := idx_p f k hlt
      have hm := cntP_mono f (show k + 1 ≤ 8 by omega)
      cases hfk : f k with
      | none =>
        simp only [hfk] at hn
        have hq : cntP f (k + 1) = cntP f k := by simp [cntP, hfk]
        have HL : Hid (Listing f X w w1.heap.size (k + 1) wr) := ⟨by have := hL.own; simpa [cntP, rowP, hfk] using this, hL.kept⟩
        clear hfk hL
        go_wp2
        go_roundw
        case rel => exact ⟨k + 1, by omega, by go_num, by rw [hq], HL.out⟩
        case measure => simp [intOf]; omega
      | some a =>
        simp only [hfk] at hn
        obtain ⟨g, rfl, hg⟩ := HE.out k hlt a hfk
        have hq : cntP f (k + 1) = cntP f k + 1 := by simp [cntP, hfk]
        have hrow : rowP f X (k + 1) = rowP f X k ++ [.int .i64 k, .int .i64 (X k).1, .int .i64 (X k).2] := by simp [rowP, hfk]
        have hgW := hL.kept.at hg (by simp)
        have hL' : Hid _ := hL
        have HQ : Hid _ := hq
        have HROW : Hid _ := hrow
        have hroom : cntP f k + 1 ≤ cntP f 8 := by omega
        generalize (X k).1 = x at *
        generalize (X k).2 = y at *
        clear hfk hL hq hrow hg
        go_wp2_with fail
        refine Calls.mono (g_lookCk g x y _ hgW) ?_
        rintro e w3 ⟨rfl, k3⟩
        have own3 := own_kept hL'.out.own k3
        have kk3 : Hid (Kept [] w w3) := hL'.out.kept.trans k3
        have OWN : Hid _ := own3
        clear k3 own3 hgW
        go_wp2_with (at_builtin; go_must (refine wpList_append_fits _ rfl _ _ 33 rfl w.heap.size 38 i0 3 Try.underlying33 hi0 hz1 w1.heap.size (cntP f k) (cntP f 8) (rowP f X k) (by rfl) (own_kept OWN.out (((Kept.refl [] w3).alloc _).alloc _)) ⟨w3.heap.size + 1, 0, none⟩ 1 1 [.int .i64 k, .int .i64 x, .int .i64 y] (by rfl) (by rfl) (World.news_of_block (cs := #[.int .i64 k, .int .i64 x, .int .i64 y]) (t := 38) (fr := (0, 0)) (two2 w3 _ _)) (by simp [Value.oneCell']) hroom ?_); intro w4 own4 gr4)
        have HL : Hid (Listing f X w w1.heap.size (k + 1) w4) := by
          refine ⟨?_, ?_⟩
          · rw [HQ.out, HROW.out]; exact own4
          · refine ⟨gr4.os.trans kk3.out.os, gr4.tape.trans kk3.out.tape, gr4.output.trans kk3.out.output, ?_, fun q hq _ => ?_⟩
            · have := gr4.size; have := kk3.out.size; simp only [World.size_alloc] at *; omega
            · rw [gr4.block q (by have := kk3.out.size; simp only [World.size_alloc]; omega) (by simp; omega)]
              exact ((kk3.out.alloc _).alloc _).block q hq (by simp)
        clear own4 gr4
        go_wp2
        go_roundw
        case rel => exact ⟨k + 1, by omega, by go_num, by rw [HQ.out], HL.out⟩
        case measure => simp [intOf]; omega
    · obtain rfl : k = 8 := by omega
      have HL : Hid _ := hL
      clear hL
      go_wp2
      go_ret
      exact ⟨_, rfl, HL.out.done.1, HL.out.done.2, HL.out.kept⟩
end Go.Proofs.Ytmnkphenobfbfaa
namespace Go.Proofs.Ytmnkphenobfbfaa
open Go.RowKit
/-- What a table's entries hold. -/
def Ents (f : Nat → Option Addr) (X : Nat → Int × Int) (w : World) : Prop := ∀ k, k < 8 → ∀ a, f k = some a → ∃ g, a = ⟨g, 0, none⟩ ∧ w.heap[g]? = some (.cells #[.int .i64 (X k).1, .int .i64 (X k).2] 124 (0, 0))
theorem Ents.kept {f : Nat → Option Addr} {X : Nat → Int × Int} {w w' : World} (h : Ents f X w) (k : Kept [] w w') : Ents f X w' := fun i hi a ha => by
  obtain ⟨g, e1, e2⟩ := h i hi a ha
  exact ⟨g, e1, k.at e2 (by simp)⟩
/-- A list that has come out. -/
def ListOut (f : Nat → Option Addr) (X : Nat → Int × Int) (b : Nat) (w : World) : Prop := w.heap[b]? = some (.cells (rowP f X 8).toArray 38 (0, 0))
def lst (f : Nat → Option Addr) (b : Nat) : Value := .slice (some ⟨b, 0, none⟩) (cntP f 8) (cntP f 8)
set_option maxRecDepth 100000 in
set_option maxHeartbeats 1000000 in
theorem g_view (sh : Sh) (X Y : Nat → Int × Int) (s : Nat) (w : World) (h : w.heap[s]? = some (.cells sh.cells 97 (0, 0))) (hX : Ents sh.R X w) (hY : Ents sh.D Y w) :
    Calls Try.prog 31 #[.pointer (some ⟨s, 0, none⟩)] w fun e w' => ∃ b1 b2, e = .returned (.agg #[lst sh.R b1, .bool sh.am, .bool sh.hd, lst sh.D b2, .int .i64 sh.mis, .int .i64 sh.hol]) ∧
      ListOut sh.R X b1 w' ∧ ListOut sh.D Y b2 w' ∧ w.heap.size ≤ b1 ∧ w.heap.size ≤ b2 ∧ b1 ≠ b2 ∧ Kept [] w w' := by
  have hs := lt_of_block h
  have hc : ∀ o, w.cell? ⟨s, o, none⟩ = sh.cells[o]? := cell_of h
  have hs1 : s < w.heap.size + 1 := by omega
  have hs2 : s < w.heap.size + 2 := by omega
  have hs3 : s < w.heap.size + 3 := by omega
  have hs4 : s < w.heap.size + 4 := by omega
  have HS : Hid _ := h
  go_enter Try.func31, Try.ntmps31
  go_wp2_with fail
  go_cut [3, 4] (fun x y w' => ∃ b3 b4 : Nat, x = .pointer (some ⟨b3, 0, none⟩) ∧ y = .pointer (some ⟨b4, 0, none⟩) ∧ w'.heap[b3]? = some (.cells #[Value.pointer (sh.R 0), .pointer (sh.R 1), .pointer (sh.R 2), .pointer (sh.R 3), .pointer (sh.R 4), .pointer (sh.R 5), .pointer (sh.R 6), .pointer (sh.R 7), .bool sh.am] 87 (0, 0)) ∧ w'.heap[b4]? = some (.cells #[Value.pointer (sh.D 0), .pointer (sh.D 1), .pointer (sh.D 2), .pointer (sh.D 3), .pointer (sh.D 4), .pointer (sh.D 5), .pointer (sh.D 6), .pointer (sh.D 7), .bool sh.hd] 91 (0, 0)) ∧
    w'.heap[w.heap.size]? = some (.cells #[Value.slice none 0 0, .bool false, .bool false, .slice none 0 0, .int .i64 0, .int .i64 0] 35 (0, 0)) ∧ Kept [] w w')
  case first =>
    go_region_held3 (fun w' => ∀ o, w'.cell? ⟨s, o, none⟩ = sh.cells[o]?) ((intro o; go_simp))
      (first | (go_at_call 38; refine (g_lookRead sh s _ (by repeat (first | with_reducible exact HS.out | with_reducible refine blk_drew ?_ | with_reducible refine block_alloc_lt ?_ _))).mono ?_; rintro e w' ⟨rfl, rfl⟩; simp only [tabCells]) | (go_at_call 39; refine (g_lookDirty sh s _ (by repeat (first | with_reducible exact HS.out | with_reducible refine blk_drew ?_ | with_reducible refine block_alloc_lt ?_ _))).mono ?_; rintro e w' ⟨rfl, rfl⟩; simp only [tabCells]))
    all_goals go_wp2_with fail
    all_goals go_meet
    all_goals refine ⟨_, _, rfl, rfl, ?_, ?_, (five w _ _ _ _ _).1, (((((Kept.refl [] w).alloc _).alloc _).alloc _).alloc _).alloc _ |>.drew⟩
    all_goals first | exact (five w _ _ _ _ _).2.1 | exact (five w _ _ _ _ _).2.2.1 | exact (five w _ _ _ _ _).2.2.2.1 | exact (five w _ _ _ _ _).2.2.2.2
  case rest =>
    obtain ⟨b3, b4, rfl, rfl, h3, h4, hr, hK⟩ := hcut
    have hS := hK.at h (by simp)
    have hX1 := hX.kept hK
    have hY1 := hY.kept hK
    clear hc hs hs1 hs2 hs3 hs4 h hX hY HS
    have hs := lt_of_block hS
    have z3 := lt_of_block h3
    have z4 := lt_of_block h4
    have zr := lt_of_block hr
    have c3 : ∀ o, wc.cell? ⟨b3, o, none⟩ = #[Value.pointer (sh.R 0), .pointer (sh.R 1), .pointer (sh.R 2), .pointer (sh.R 3), .pointer (sh.R 4), .pointer (sh.R 5), .pointer (sh.R 6), .pointer (sh.R 7), .bool sh.am][o]? := cell_of h3
    have c4 : ∀ o, wc.cell? ⟨b4, o, none⟩ = #[Value.pointer (sh.D 0), .pointer (sh.D 1), .pointer (sh.D 2), .pointer (sh.D 3), .pointer (sh.D 4), .pointer (sh.D 5), .pointer (sh.D 6), .pointer (sh.D 7), .bool sh.hd][o]? := cell_of h4
    have c5 : ∀ o, wc.cell? ⟨w.heap.size, o, none⟩ = #[Value.slice none 0 0, .bool false, .bool false, .slice none 0 0, .int .i64 0, .int .i64 0][o]? := cell_of hr
    have f5 : ∀ o, wc.frozen? ⟨w.heap.size, o, none⟩ = false := frozen_of hr
    have n3 : b3 ≠ w.heap.size := ne_of_blocks h3 hr (by simp)
    have n4 : b4 ≠ w.heap.size := ne_of_blocks h4 hr (by simp)
    have n3' : w.heap.size ≠ b3 := Ne.symm n3
    have n4' : w.heap.size ≠ b4 := Ne.symm n4
    have L : ∀ (f : Nat → Option Addr) (Z : Nat → Int × Int) (W : World), Ents f Z wc → Kept [] wc W → Calls Try.prog 40 #[.agg (ptrs f)] W fun e w' => ∃ b, e = .returned (.slice (some ⟨b, 0, none⟩) (cntP f 8) (cntP f 8)) ∧ (ListOut f Z b w' ∧ W.heap.size ≤ b) ∧ Kept [] wc w' ∧
        (∀ o, w'.cell? ⟨b3, o, none⟩ = #[Value.pointer (sh.R 0), .pointer (sh.R 1), .pointer (sh.R 2), .pointer (sh.R 3), .pointer (sh.R 4), .pointer (sh.R 5), .pointer (sh.R 6), .pointer (sh.R 7), .bool sh.am][o]?) ∧ (∀ o, w'.cell? ⟨b4, o, none⟩ = #[Value.pointer (sh.D 0), .pointer (sh.D 1), .pointer (sh.D 2), .pointer (sh.D 3), .pointer (sh.D 4), .pointer (sh.D 5), .pointer (sh.D 6), .pointer (sh.D 7), .bool sh.hd][o]?) ∧ (∀ o, w'.cell? ⟨w.heap.size, o, none⟩ = #[Value.slice none 0 0, .bool false, .bool false, .slice none 0 0, .int .i64 0, .int .i64 0][o]?) ∧ (∀ o, w'.frozen? ⟨w.heap.size, o, none⟩ = false) ∧ Kept [] W w' := by
      intro f Z W hZ hW
      refine (g_list f Z W (hZ.kept hW)).mono ?_
      rintro e w' ⟨b, rfl, hb, hbz, hk⟩
      have hk' := hW.trans hk
      exact ⟨b, rfl, ⟨hb, hbz⟩, hk', cell_of (hk'.at h3 (by simp)), cell_of (hk'.at h4 (by simp)), cell_of (hk'.at hr (by simp)), frozen_of (hk'.at hr (by simp)), hk⟩
    have HL1 : Hid _ := fun W hW => L sh.R X W hX1 hW
    have HL2 : Hid _ := fun W hW => L sh.D Y W hY1 hW
    clear L c5 f5 hX1 hY1
    go_wp2_with fail
    go_region_held3 (fun w' => (∀ o, w'.cell? ⟨b3, o, none⟩ = #[Value.pointer (sh.R 0), .pointer (sh.R 1), .pointer (sh.R 2), .pointer (sh.R 3), .pointer (sh.R 4), .pointer (sh.R 5), .pointer (sh.R 6), .pointer (sh.R 7), .bool sh.am][o]?) ∧ (∀ o, w'.cell? ⟨b4, o, none⟩ = #[Value.pointer (sh.D 0), .pointer (sh.D 1), .pointer (sh.D 2), .pointer (sh.D 3), .pointer (sh.D 4), .pointer (sh.D 5), .pointer (sh.D 6), .pointer (sh.D 7), .bool sh.hd][o]?))
      (first | (refine ⟨?_, ?_⟩ <;> intro o <;> first | (rw [cell_set6 n3']; exact g3 o) | (rw [cell_set6 n4']; exact g4 o)) | exact ⟨g3, g4⟩ | exact ⟨c3, c4⟩)
      (first | (go_at_call_of 40 (Value.agg #[Value.pointer (sh.R 0), .pointer (sh.R 1), .pointer (sh.R 2), .pointer (sh.R 3), .pointer (sh.R 4), .pointer (sh.R 5), .pointer (sh.R 6), .pointer (sh.R 7)]); refine (HL1.out _ (by first | exact (Kept.refl _ _).drew | exact kk)).mono ?_; rintro e w' ⟨l, rfl, hl, kk, g3, g4, g5, g6, hk⟩) | (go_at_call_of 40 (Value.agg #[Value.pointer (sh.D 0), .pointer (sh.D 1), .pointer (sh.D 2), .pointer (sh.D 3), .pointer (sh.D 4), .pointer (sh.D 5), .pointer (sh.D 6), .pointer (sh.D 7)]); refine (HL2.out _ (by first | exact (Kept.refl _ _).drew | exact kk)).mono ?_; rintro e w' ⟨l2, rfl, hl2, kk, g3, g4, g5, g6, hk2⟩) | (go_at_call_of 41 (Value.pointer (some (Addr.mk s 18 none))); refine (lookInt s 18 sh.mis _ (cell_of (kk.at hS (by simp)) 18)).mono ?_; rintro e w' ⟨rfl, rfl⟩) | (go_at_call_of 41 (Value.pointer (some (Addr.mk s 19 none))); refine (lookInt s 19 sh.hol _ (cell_of (kk.at hS (by simp)) 19)).mono ?_; rintro e w' ⟨rfl, rfl⟩))
    have q1 : wc.heap.size ≤ l := hl.2
    have q2 := hl2.2
    have q3 := lt_of_block hl.1
    have q4 := hK.size
    have q5 := hk.size
    have o1 := hk2.at hl.1 (by simp)
    have o2 := hl2.1
    have q6 : l ≠ l2 := by omega
    have q7 : wc.heap.size ≤ l2 := by have : wc.heap.size ≤ _ := hk.size; omega
    clear hl hl2 hk hk2 g3 g4 c3 c4
    go_wp2
    refine bodyPost_ret (v := .agg #[lst sh.R l, .bool sh.am, .bool sh.hd, lst sh.D l2, .int .i64 sh.mis, .int .i64 sh.hol]) (res26 w.heap.size _ _ _ _ _ _ rfl g5) rfl ⟨l, l2, rfl, block_set6 o1 (by omega) _ _ _ _ _ _, block_set6 o2 (by omega) _ _ _ _ _ _, by omega, by omega, q6, ?_⟩
    exact (((((((hK.trans kk).setCell (.inr (Nat.le_refl _)) _).setCell (.inr (Nat.le_refl _)) _).setCell (.inr (Nat.le_refl _)) _).setCell (.inr (Nat.le_refl _)) _).setCell (.inr (Nat.le_refl _)) _).setCell (.inr (Nat.le_refl _)) _)
end Go.Proofs.Ytmnkphenobfbfaa
namespace Go.Proofs.Ytmnkphenobfbfaa
open Go.RowKit Go.MuLone
/-- What a call of Begin leaves. -/
def GBeg (p : PM) (en : Nat → Nat) (m : M) (w : World) (r : Int × M) (e : Ending) (w' : World) : Prop :=
  e = .returned (.int .i64 r.1) ∧ GAt p en 0 r.2 w' ∧ Kept (fpm p en m) w w'
set_option maxRecDepth 100000 in
set_option maxHeartbeats 1600000 in
theorem g_bclosed {p : PM} {en : Nat → Nat} {m : M} {w : World} (h : GAt p en 0 m w) (i kind key val old : Int) (hc : m.cl = true) :
    Calls Try.prog 9 #[.pointer (some ⟨p.m, 0, none⟩), .int .i64 i, .agg #[.int .i64 kind, .int .i64 key, .int .i64 val, .int .i64 old]] w (GBeg p en m w ((5, m))) := by
  have hs := lt_of_block h.mp
  have h1 := (h.alloc (.cells #[Value.int .i64 kind, .int .i64 key, .int .i64 val, .int .i64 old] 28)).lock 1
  have k1 : Kept [p.m] w ((w.alloc (.cells #[Value.int .i64 kind, .int .i64 key, .int .i64 val, .int .i64 old] 28)).setCell ⟨p.m, 0, none⟩ (.int .i32 1)) := ((Kept.refl _ w).alloc _).setCell (.inl (by simp)) _
  have hr : ((w.alloc (.cells #[Value.int .i64 kind, .int .i64 key, .int .i64 val, .int .i64 old] 28)).setCell ⟨p.m, 0, none⟩ (.int .i32 1)).heap[w.heap.size]? = some (.cells #[Value.int .i64 kind, .int .i64 key, .int .i64 val, .int .i64 old] 28 (0, 0)) :=
    block_set_ne (block_alloc_new _ _) (by omega) _ _
  go_enter_defers Try.func9, Try.ntmps9
  go_wp2_with fail
  refine (lock_free Try.muLib ⟨p.m, 0, none⟩ _ ?_ ?_).mono ?_
  · rw [cell_of (h.alloc _).mp]; rfl
  · rw [frozen_of (h.alloc _).mp]
  rintro e w' ⟨rfl, rfl⟩
  generalize ((w.alloc (.cells #[Value.int .i64 kind, .int .i64 key, .int .i64 val, .int .i64 old] 28)).setCell ⟨p.m, 0, none⟩ (.int .i32 1)) = W at *
  go_wp2_with fail
  refine (isClosed_yes p.m p.c 0 0 _ (by rw [cell_of h1.mp]; rfl) (by have := h1.c; rw [hc] at this; exact this)).mono ?_
  rintro e w' ⟨rfl, rfl⟩
  go_wp2
  refine door_unlock p.m _ (by rw [cell_of h1.mp]; rfl) (by rw [frozen_of h1.mp]) (res14 rfl) ⟨rfl, h1.lock 0, (k1.setCell (.inl (by simp)) _).mono (by simp [fpm])⟩
set_option maxRecDepth 100000 in
set_option maxHeartbeats 1600000 in
theorem g_bthread {p : PM} {en : Nat → Nat} {m : M} {w : World} (h : GAt p en 0 m w) (i kind key val old : Int) (hc : m.cl = false) (hi : i < 0 ∨ (m.nth : Int) ≤ i) :
    Calls Try.prog 9 #[.pointer (some ⟨p.m, 0, none⟩), .int .i64 i, .agg #[.int .i64 kind, .int .i64 key, .int .i64 val, .int .i64 old]] w (GBeg p en m w ((1, m))) := by
  have hs := lt_of_block h.mp
  have h1 := (h.alloc (.cells #[Value.int .i64 kind, .int .i64 key, .int .i64 val, .int .i64 old] 28)).lock 1
  have k1 : Kept [p.m] w ((w.alloc (.cells #[Value.int .i64 kind, .int .i64 key, .int .i64 val, .int .i64 old] 28)).setCell ⟨p.m, 0, none⟩ (.int .i32 1)) := ((Kept.refl _ w).alloc _).setCell (.inl (by simp)) _
  have hr : ((w.alloc (.cells #[Value.int .i64 kind, .int .i64 key, .int .i64 val, .int .i64 old] 28)).setCell ⟨p.m, 0, none⟩ (.int .i32 1)).heap[w.heap.size]? = some (.cells #[Value.int .i64 kind, .int .i64 key, .int .i64 val, .int .i64 old] 28 (0, 0)) :=
    block_set_ne (block_alloc_new _ _) (by omega) _ _
  go_enter_defers Try.func9, Try.ntmps9
  go_wp2_with fail
  refine (lock_free Try.muLib ⟨p.m, 0, none⟩ _ ?_ ?_).mono ?_
  · rw [cell_of (h.alloc _).mp]; rfl
  · rw [frozen_of (h.alloc _).mp]
  rintro e w' ⟨rfl, rfl⟩
  generalize ((w.alloc (.cells #[Value.int .i64 kind, .int .i64 key, .int .i64 val, .int .i64 old] 28)).setCell ⟨p.m, 0, none⟩ (.int .i32 1)) = W at *
  go_wp2_with fail
  refine (isClosed_no p.m p.c 0 0 _ (by rw [cell_of h1.mp]; rfl) (by have := h1.c; rw [hc] at this; exact this)).mono ?_
  rintro e w' ⟨rfl, rfl⟩
  have hl := h.len
  go_wp2_with fail
  refine (hasThread_no p.m (some ⟨p.tb, 0, none⟩) p.ts.length p.cap i _ (by rw [cell_of h1.mp]; rfl) (by rw [hl]; exact hi)).mono ?_
  rintro e w' ⟨rfl, rfl⟩
  clear hi
  go_wp2
  refine door_unlock p.m _ (by rw [cell_of h1.mp]; rfl) (by rw [frozen_of h1.mp]) (res14 rfl) ⟨rfl, h1.lock 0, (k1.setCell (.inl (by simp)) _).mono (by simp [fpm])⟩
set_option maxRecDepth 100000 in
set_option maxHeartbeats 1600000 in
theorem g_barg {p : PM} {en : Nat → Nat} {m : M} {w : World} (h : GAt p en 0 m w) (i kind key val old : Int) (hc : m.cl = false) (h0 : 0 ≤ i) (hi : i < (m.nth : Int)) (ho : ¬ OpOk kind key val old) :
    Calls Try.prog 9 #[.pointer (some ⟨p.m, 0, none⟩), .int .i64 i, .agg #[.int .i64 kind, .int .i64 key, .int .i64 val, .int .i64 old]] w (GBeg p en m w ((1, m))) := by
  have hs := lt_of_block h.mp
  have h1 := (h.alloc (.cells #[Value.int .i64 kind, .int .i64 key, .int .i64 val, .int .i64 old] 28)).lock 1
  have k1 : Kept [p.m] w ((w.alloc (.cells #[Value.int .i64 kind, .int .i64 key, .int .i64 val, .int .i64 old] 28)).setCell ⟨p.m, 0, none⟩ (.int .i32 1)) := ((Kept.refl _ w).alloc _).setCell (.inl (by simp)) _
  have hr : ((w.alloc (.cells #[Value.int .i64 kind, .int .i64 key, .int .i64 val, .int .i64 old] 28)).setCell ⟨p.m, 0, none⟩ (.int .i32 1)).heap[w.heap.size]? = some (.cells #[Value.int .i64 kind, .int .i64 key, .int .i64 val, .int .i64 old] 28 (0, 0)) :=
    block_set_ne (block_alloc_new _ _) (by omega) _ _
  go_enter_defers Try.func9, Try.ntmps9
  go_wp2_with fail
  refine (lock_free Try.muLib ⟨p.m, 0, none⟩ _ ?_ ?_).mono ?_
  · rw [cell_of (h.alloc _).mp]; rfl
  · rw [frozen_of (h.alloc _).mp]
  rintro e w' ⟨rfl, rfl⟩
  generalize ((w.alloc (.cells #[Value.int .i64 kind, .int .i64 key, .int .i64 val, .int .i64 old] 28)).setCell ⟨p.m, 0, none⟩ (.int .i32 1)) = W at *
  go_wp2_with fail
  refine (isClosed_no p.m p.c 0 0 _ (by rw [cell_of h1.mp]; rfl) (by have := h1.c; rw [hc] at this; exact this)).mono ?_
  rintro e w' ⟨rfl, rfl⟩
  have hl := h.len
  have hcap := h.cap
  go_wp2_with fail
  refine (hasThread_yes p.m (some ⟨p.tb, 0, none⟩) p.ts.length p.cap i _ (by rw [cell_of h1.mp]; rfl) h0 (by rw [hl]; exact hi)).mono ?_
  rintro e w' ⟨rfl, rfl⟩
  have hco : ∀ x, w'.cell? ⟨w.heap.size, x, none⟩ = #[Value.int .i64 kind, .int .i64 key, .int .i64 val, .int .i64 old][x]? := cell_of hr
  go_wp2_with fail
  refine Calls.mono (g_mayBe kind key val old _) ?_
  rw [decide_eq_false ho]
  rintro e w2 ⟨rfl, k2⟩
  replace h1 := h1.keptNil k2
  replace k1 := k1.trans (k2.mono (by simp))
  replace hr := k2.at hr (by simp)
  clear hco k2
  clear ho hr
  go_wp2
  refine door_unlock p.m _ (by rw [cell_of h1.mp]; rfl) (by rw [frozen_of h1.mp]) (res14 rfl) ⟨rfl, h1.lock 0, (k1.setCell (.inl (by simp)) _).mono (by simp [fpm])⟩
set_option maxRecDepth 100000 in
set_option maxHeartbeats 1600000 in
theorem g_bbusy {p : PM} {en : Nat → Nat} {m : M} {w : World} (h : GAt p en 0 m w) (i kind key val old : Int) (hc : m.cl = false) (h0 : 0 ≤ i) (hi : i < (m.nth : Int)) (ho : OpOk kind key val old) (hat : ¬ (m.ths i.toNat).at_ = 0) :
    Calls Try.prog 9 #[.pointer (some ⟨p.m, 0, none⟩), .int .i64 i, .agg #[.int .i64 kind, .int .i64 key, .int .i64 val, .int .i64 old]] w (GBeg p en m w ((2, m))) := by
  have hs := lt_of_block h.mp
  have h1 := (h.alloc (.cells #[Value.int .i64 kind, .int .i64 key, .int .i64 val, .int .i64 old] 28)).lock 1
  have k1 : Kept [p.m] w ((w.alloc (.cells #[Value.int .i64 kind, .int .i64 key, .int .i64 val, .int .i64 old] 28)).setCell ⟨p.m, 0, none⟩ (.int .i32 1)) := ((Kept.refl _ w).alloc _).setCell (.inl (by simp)) _
  have hr : ((w.alloc (.cells #[Value.int .i64 kind, .int .i64 key, .int .i64 val, .int .i64 old] 28)).setCell ⟨p.m, 0, none⟩ (.int .i32 1)).heap[w.heap.size]? = some (.cells #[Value.int .i64 kind, .int .i64 key, .int .i64 val, .int .i64 old] 28 (0, 0)) :=
    block_set_ne (block_alloc_new _ _) (by omega) _ _
  go_enter_defers Try.func9, Try.ntmps9
  go_wp2_with fail
  refine (lock_free Try.muLib ⟨p.m, 0, none⟩ _ ?_ ?_).mono ?_
  · rw [cell_of (h.alloc _).mp]; rfl
  · rw [frozen_of (h.alloc _).mp]
  rintro e w' ⟨rfl, rfl⟩
  generalize ((w.alloc (.cells #[Value.int .i64 kind, .int .i64 key, .int .i64 val, .int .i64 old] 28)).setCell ⟨p.m, 0, none⟩ (.int .i32 1)) = W at *
  go_wp2_with fail
  refine (isClosed_no p.m p.c 0 0 _ (by rw [cell_of h1.mp]; rfl) (by have := h1.c; rw [hc] at this; exact this)).mono ?_
  rintro e w' ⟨rfl, rfl⟩
  have hl := h.len
  have hcap := h.cap
  go_wp2_with fail
  refine (hasThread_yes p.m (some ⟨p.tb, 0, none⟩) p.ts.length p.cap i _ (by rw [cell_of h1.mp]; rfl) h0 (by rw [hl]; exact hi)).mono ?_
  rintro e w' ⟨rfl, rfl⟩
  have hco : ∀ x, w'.cell? ⟨w.heap.size, x, none⟩ = #[Value.int .i64 kind, .int .i64 key, .int .i64 val, .int .i64 old][x]? := cell_of hr
  go_wp2_with fail
  refine Calls.mono (g_mayBe kind key val old _) ?_
  rw [decide_eq_true ho]
  rintro e w2 ⟨rfl, k2⟩
  replace h1 := h1.keptNil k2
  replace k1 := k1.trans (k2.mono (by simp))
  replace hr := k2.at hr (by simp)
  clear hco k2
  have hil : i < (p.ts.length : Int) := by rw [hl]; exact hi
  obtain ⟨t, ht, hct⟩ := h1.nth' (i := i.toNat) (by omega)
  have c4 : w2.cell? ⟨p.m, 4, none⟩ = some (.slice (some ⟨p.tb, 0, none⟩) p.ts.length p.cap) := cell_of h1.mp 4
  obtain ⟨cp, _, hbt⟩ := h1.ts _ t ht
  rw [tcOf_busy hat] at hbt
  clear ho ht hr
  go_wp2_with fail
  refine Calls.mono (busy_yes t (.func (fnOf (m.ths i.toNat).kind (m.ths i.toNat).at_)) #[.pointer (some ⟨t, 0, none⟩)] #[] _ (cell_of hbt 10)) ?_
  rintro e w3 ⟨rfl, rfl⟩
  clear c4 hct hbt hat
  go_wp2
  refine door_unlock p.m _ (by rw [cell_of h1.mp]; rfl) (by rw [frozen_of h1.mp]) (res14 rfl) ⟨rfl, h1.lock 0, (k1.setCell (.inl (by simp)) _).mono (by simp [fpm])⟩
theorem GAt.begun {p : PM} {en : Nat → Nat} {l : Int} {m : M} {w w' : World} (h : GAt p en l m w) (hI : m.Inv) {i t : Nat} (ht : p.ts[i]? = some t) (k : Kept [t] w w') (kind key val old : Int) (n : Nat) (hn : fnOf kind 1 = n)
    (hb : w'.heap[t]? = some (.cells (Tc.mk i p.s kind key val old none 0 0 0 (.func (.func n) #[.pointer (some ⟨t, 0, none⟩)] #[])).cells 103 (0, 0))) : GAt p en l (m.thr i ⟨kind, key, val, old, 1, -1, 0, 0, 0⟩) w' :=
  h.goT hI ht k _ 0 (by simp) hb (by simp [tcOf, thNext, hn, ptrE])
/-- The thread's own Begin. -/
theorem g_tbegin {p : PM} {en : Nat → Nat} {l : Int} {m : M} {w : World} (h : GAt p en l m w) (hI : m.Inv) {i t : Nat} (ht : p.ts[i]? = some t) (hat : (m.ths i).at_ = 0) (kind key val old : Int) :
    Calls Try.prog 30 #[.pointer (some ⟨t, 0, none⟩), .agg #[.int .i64 kind, .int .i64 key, .int .i64 val, .int .i64 old]] w fun e w' => e = .returned (.tuple #[]) ∧ GAt p en l (m.thr i ⟨kind, key, val, old, 1, -1, 0, 0, 0⟩) w' ∧ Kept [t] w w' := by
  obtain ⟨cp, _, hb⟩ := h.ts i t ht
  rw [tcOf_idle hat] at hb
  by_cases e0 : kind = 0
  · subst e0
    refine Calls.mono (g_tbegin_0 _ t key val old w hb) ?_
    rintro e w' ⟨rfl, h1, k1⟩
    exact ⟨rfl, h.begun hI ht k1 0 key val old 51 (by simp [fnOf]) h1, k1⟩
  · by_cases e1 : kind = 1
    · subst e1
      refine Calls.mono (g_tbegin_1 _ t key val old w hb) ?_
      rintro e w' ⟨rfl, h1, k1⟩
      exact ⟨rfl, h.begun hI ht k1 1 key val old 50 (by simp [fnOf]) h1, k1⟩
    · refine Calls.mono (g_tbegin_2 _ t kind key val old w e1 hb) ?_
      rintro e w' ⟨rfl, h1, k1⟩
      exact ⟨rfl, h.begun hI ht k1 kind key val old 51 (by simp [fnOf, e1]) h1, k1⟩
set_option maxRecDepth 100000 in
set_option maxHeartbeats 1600000 in
theorem g_bok {p : PM} {en : Nat → Nat} {m : M} {w : World} (h : GAt p en 0 m w) (i kind key val old : Int) (hc : m.cl = false) (hI : m.Inv) (h0 : 0 ≤ i) (hi : i < (m.nth : Int)) (ho : OpOk kind key val old) (hat : (m.ths i.toNat).at_ = 0) :
    Calls Try.prog 9 #[.pointer (some ⟨p.m, 0, none⟩), .int .i64 i, .agg #[.int .i64 kind, .int .i64 key, .int .i64 val, .int .i64 old]] w (GBeg p en m w ((0, m.thr i.toNat ⟨kind, key, val, old, 1, -1, 0, 0, 0⟩))) := by
  have hs := lt_of_block h.mp
  have h1 := (h.alloc (.cells #[Value.int .i64 kind, .int .i64 key, .int .i64 val, .int .i64 old] 28)).lock 1
  have k1 : Kept [p.m] w ((w.alloc (.cells #[Value.int .i64 kind, .int .i64 key, .int .i64 val, .int .i64 old] 28)).setCell ⟨p.m, 0, none⟩ (.int .i32 1)) := ((Kept.refl _ w).alloc _).setCell (.inl (by simp)) _
  have hr : ((w.alloc (.cells #[Value.int .i64 kind, .int .i64 key, .int .i64 val, .int .i64 old] 28)).setCell ⟨p.m, 0, none⟩ (.int .i32 1)).heap[w.heap.size]? = some (.cells #[Value.int .i64 kind, .int .i64 key, .int .i64 val, .int .i64 old] 28 (0, 0)) :=
    block_set_ne (block_alloc_new _ _) (by omega) _ _
  go_enter_defers Try.func9, Try.ntmps9
  go_wp2_with fail
  refine (lock_free Try.muLib ⟨p.m, 0, none⟩ _ ?_ ?_).mono ?_
  · rw [cell_of (h.alloc _).mp]; rfl
  · rw [frozen_of (h.alloc _).mp]
  rintro e w' ⟨rfl, rfl⟩
  generalize ((w.alloc (.cells #[Value.int .i64 kind, .int .i64 key, .int .i64 val, .int .i64 old] 28)).setCell ⟨p.m, 0, none⟩ (.int .i32 1)) = W at *
  go_wp2_with fail
  refine (isClosed_no p.m p.c 0 0 _ (by rw [cell_of h1.mp]; rfl) (by have := h1.c; rw [hc] at this; exact this)).mono ?_
  rintro e w' ⟨rfl, rfl⟩
  have hl := h.len
  have hcap := h.cap
  go_wp2_with fail
  refine (hasThread_yes p.m (some ⟨p.tb, 0, none⟩) p.ts.length p.cap i _ (by rw [cell_of h1.mp]; rfl) h0 (by rw [hl]; exact hi)).mono ?_
  rintro e w' ⟨rfl, rfl⟩
  have hco : ∀ x, w'.cell? ⟨w.heap.size, x, none⟩ = #[Value.int .i64 kind, .int .i64 key, .int .i64 val, .int .i64 old][x]? := cell_of hr
  go_wp2_with fail
  refine Calls.mono (g_mayBe kind key val old _) ?_
  rw [decide_eq_true ho]
  rintro e w2 ⟨rfl, k2⟩
  replace h1 := h1.keptNil k2
  replace k1 := k1.trans (k2.mono (by simp))
  replace hr := k2.at hr (by simp)
  clear hco k2
  have hil : i < (p.ts.length : Int) := by rw [hl]; exact hi
  obtain ⟨t, ht, hct⟩ := h1.nth' (i := i.toNat) (by omega)
  have c4 : w2.cell? ⟨p.m, 4, none⟩ = some (.slice (some ⟨p.tb, 0, none⟩) p.ts.length p.cap) := cell_of h1.mp 4
  obtain ⟨cp, _, hbt⟩ := h1.ts _ t ht
  rw [tcOf_idle hat] at hbt
  have HP : Hid _ := ht
  have HAT : Hid _ := hat
  have hne := ne_of_blocks hr hbt (by simp)
  clear ho ht hat
  go_wp2_with fail
  refine Calls.mono (busy_no t _ (cell_of hbt 10)) ?_
  rintro e w3 ⟨rfl, rfl⟩
  have hco : ∀ x, w3.cell? ⟨w.heap.size, x, none⟩ = #[Value.int .i64 kind, .int .i64 key, .int .i64 val, .int .i64 old][x]? := cell_of hr
  have RUN : Hid _ := g_tbegin h1.drew hI HP.out HAT.out kind key val old
  have HI : Hid _ := hI
  clear hI hbt
  go_wp2_with fail
  go_region_held3 (fun w' => w'.cell? ⟨p.m, 4, none⟩ = some (.slice (some ⟨p.tb, 0, none⟩) p.ts.length p.cap) ∧ w'.cell? ⟨p.tb, i.toNat, none⟩ = some (.pointer (some ⟨t, 0, none⟩)) ∧ (∀ x, w'.cell? ⟨w.heap.size, x, none⟩ = #[Value.int .i64 kind, .int .i64 key, .int .i64 val, .int .i64 old][x]?))
    (first | exact ⟨g1, g2, g3⟩ | exact ⟨c4, hct, hco⟩)
    (first | (go_at_call 30; refine Calls.mono RUN.out ?_; rintro e w4 ⟨rfl, hn4, k4⟩; have g1 := cell_of hn4.mp 4; obtain ⟨t4, ht4, g2⟩ := hn4.nth' (i := i.toNat) (by omega); obtain rfl : t4 = t := Option.some.inj (ht4.symm.trans HP.out); have hr4 := k4.at hr (by simpa using hne); have g3 := cell_of hr4))
  have k5 : Kept (fpm p en m) w w4 := (k1.mono (by simp [fpm])).trans ((Kept.refl _ w3).drew.trans (k4.mono (fun x hx => by cases List.mem_singleton.1 hx; exact List.mem_cons_of_mem _ (List.mem_cons_of_mem _ (mem_fp_t HP.out en m)))))
  clear g1 g2 g3 hco c4 hct
  go_wp2
  refine door_unlock p.m _ (by rw [cell_of hn4.mp]; rfl) (by rw [frozen_of hn4.mp]) (res14 rfl) ⟨rfl, hn4.lock 0, k5.setCell (.inl (by simp [fpm])) _⟩
theorem g_mbegin {p : PM} {en : Nat → Nat} {m : M} {w : World} (h : GAt p en 0 m w) (hI : m.Inv) (i kind key val old : Int) :
    Calls Try.prog 9 #[.pointer (some ⟨p.m, 0, none⟩), .int .i64 i, .agg #[.int .i64 kind, .int .i64 key, .int .i64 val, .int .i64 old]] w (GBeg p en m w (m.begin i kind key val old)) := by
  unfold M.begin
  by_cases hc : m.cl = true
  · rw [if_pos hc]; exact g_bclosed h i kind key val old hc
  rw [if_neg hc]
  have hc' : m.cl = false := by simpa using hc
  by_cases hi : i < 0 ∨ (m.nth : Int) ≤ i
  · rw [if_pos (by rcases hi with a | a; exact .inl a; exact .inr (.inl a))]; exact g_bthread h i kind key val old hc' hi
  have h0 : 0 ≤ i := by omega
  have h1 : i < (m.nth : Int) := by omega
  by_cases ho : OpOk kind key val old
  · rw [if_neg (by rintro (a | a | a); omega; omega; exact a ho)]
    by_cases ha : (m.ths i.toNat).at_ = 0
    · rw [if_neg (by omega)]; exact g_bok h i kind key val old hc' hI h0 h1 ho ha
    · have hp : 0 < (m.ths i.toNat).at_ := by
        rcases (hI.th i.toNat (by omega)).resolve_left ha |>.ak with ⟨_, q⟩ | ⟨_, q⟩ | ⟨_, q⟩ | ⟨_, q⟩ <;> omega
      rw [if_pos hp]; exact g_bbusy h i kind key val old hc' h0 h1 ho ha
  · rw [if_pos (.inr (.inr ho))]; exact g_barg h i kind key val old hc' h0 h1 ho
end Go.Proofs.Ytmnkphenobfbfaa
namespace Go.Proofs.Ytmnkphenobfbfaa
open Go.RowKit Go.MuLone Go.Conc
/-- What the tables hold. -/
def M.rdX (m : M) (k : Nat) : Int × Int := ((m.cells (m.read k).toNat).st, (m.cells (m.read k).toNat).v)
def M.dtX (m : M) (k : Nat) : Int × Int := ((m.cells (m.dirty k).toNat).st, (m.cells (m.dirty k).toNat).v)
theorem GAt.ents {p : PM} {en : Nat → Nat} {l : Int} {m : M} {w : World} (h : GAt p en l m w) (hI : m.Inv) : Ents (shOf en m).R m.rdX w ∧ Ents (shOf en m).D m.dtX w := by
  constructor
  · intro k hk a ha
    have hr := hI.rd k hk
    by_cases h0 : m.read k < 0
    · have : ptrE en (m.read k) = some a := ha
      rw [ptrE_none h0] at this
      cases this
    · have : ptrE en (m.read k) = some a := ha
      rw [ptrE_some (Int.not_lt.1 h0), Option.some.injEq] at this
      exact ⟨en (m.read k).toNat, this.symm, h.es _ (by omega)⟩
  · intro k hk a ha
    have hr := hI.dt k hk
    by_cases h0 : m.dirty k < 0
    · have : ptrE en (m.dirty k) = some a := ha
      rw [ptrE_none h0] at this
      cases this
    · have : ptrE en (m.dirty k) = some a := ha
      rw [ptrE_some (Int.not_lt.1 h0), Option.some.injEq] at this
      exact ⟨en (m.dirty k).toNat, this.symm, h.es _ (by omega)⟩
theorem GAt.set6 {p : PM} {en : Nat → Nat} {l : Int} {m : M} {w : World} (h : GAt p en l m w) {b : Nat} {cs : Array Value} (hb : w.heap[b]? = some (.cells cs 35 (0, 0))) (v0 v1 v2 v3 v4 v5 : Value) :
    GAt p en l m ((((((w.setCell ⟨b, 0, none⟩ v0).setCell ⟨b, 1, none⟩ v1).setCell ⟨b, 2, none⟩ v2).setCell ⟨b, 3, none⟩ v3).setCell ⟨b, 4, none⟩ v4).setCell ⟨b, 5, none⟩ v5) := by
  have b0 := block_set_same hb 0 v0
  have b1 := block_set_same b0 1 v1
  have b2 := block_set_same b1 2 v2
  have b3 := block_set_same b2 3 v3
  have b4 := block_set_same b3 4 v4
  exact (((((h.set hb (by decide) (by decide) (by decide) (by decide) (by decide) 0 v0).set b0 (by decide) (by decide) (by decide) (by decide) (by decide) 1 v1).set b1 (by decide) (by decide) (by decide) (by decide) (by decide) 2 v2).set b2 (by decide) (by decide) (by decide) (by decide) (by decide) 3 v3).set b3 (by decide) (by decide) (by decide) (by decide) (by decide) 4 v4).set b4 (by decide) (by decide) (by decide) (by decide) (by decide) 5 v5
set_option maxRecDepth 100000 in
set_option maxHeartbeats 800000 in
theorem g_look {p : PM} {en : Nat → Nat} {m : M} {w : World} (h : GAt p en 0 m w) (hI : m.Inv) :
    Calls Try.prog 11 #[.pointer (some ⟨p.m, 0, none⟩)] w fun e w' => ∃ b1 b2, e = .returned (.agg #[lst (shOf en m).R b1, .bool m.am, .bool m.hd, lst (shOf en m).D b2, .int .i64 m.mis, .int .i64 m.hol]) ∧
      ListOut (shOf en m).R m.rdX b1 w' ∧ ListOut (shOf en m).D m.dtX b2 w' ∧ w.heap.size ≤ b1 ∧ w.heap.size ≤ b2 ∧ b1 ≠ b2 ∧ GAt p en 0 m w' ∧ Kept [p.m] w w' := by
  have hs := lt_of_block h.mp
  have h1 := (h.alloc (.cells #[.slice none 0 0, .bool false, .bool false, .slice none 0 0, .int .i64 0, .int .i64 0] 35)).lock 1
  have k1 : Kept [p.m] w ((w.alloc (.cells #[.slice none 0 0, .bool false, .bool false, .slice none 0 0, .int .i64 0, .int .i64 0] 35)).setCell ⟨p.m, 0, none⟩ (.int .i32 1)) := ((Kept.refl _ w).alloc _).setCell (.inl (by simp)) _
  have hr : ((w.alloc (.cells #[.slice none 0 0, .bool false, .bool false, .slice none 0 0, .int .i64 0, .int .i64 0] 35)).setCell ⟨p.m, 0, none⟩ (.int .i32 1)).heap[w.heap.size]? = some (.cells #[.slice none 0 0, .bool false, .bool false, .slice none 0 0, .int .i64 0, .int .i64 0] 35 (0, 0)) :=
    block_set_ne (block_alloc_new _ _) (by omega) _ _
  go_enter_defers Try.func11, Try.ntmps11
  go_wp2_with fail
  refine (lock_free Try.muLib ⟨p.m, 0, none⟩ _ ?_ ?_).mono ?_
  · rw [cell_of (h.alloc _).mp]; rfl
  · rw [frozen_of (h.alloc _).mp]
  rintro e w' ⟨rfl, rfl⟩
  generalize ((w.alloc (.cells #[.slice none 0 0, .bool false, .bool false, .slice none 0 0, .int .i64 0, .int .i64 0] 35)).setCell ⟨p.m, 0, none⟩ (.int .i32 1)) = W at *
  have c3 : W.cell? ⟨p.m, 3, none⟩ = some (.pointer (some ⟨p.s, 0, none⟩)) := cell_of h1.mp 3
  have hen := h1.ents hI
  have RUN : Hid _ := g_view (shOf en m) m.rdX m.dtX p.s W h1.s hen.1 hen.2
  clear hen
  go_wp2_with fail
  refine Calls.mono RUN.out ?_
  rintro e w2 ⟨b1, b2, rfl, hb1, hb2, hz1, hz2, hz3, k2⟩
  have zr0 := lt_of_block hr
  replace hr := k2.at hr (by simp)
  replace h1 := h1.keptNil k2
  have ksz := k1.size
  replace k1 := k1.trans (k2.mono (by simp))
  have zr := lt_of_block hr
  have hc2 : ∀ o, w2.cell? ⟨w.heap.size, o, none⟩ = #[Value.slice none 0 0, .bool false, .bool false, .slice none 0 0, .int .i64 0, .int .i64 0][o]? := cell_of hr
  have hf2 : ∀ o, w2.frozen? ⟨w.heap.size, o, none⟩ = false := frozen_of hr
  have H1 : Hid _ := h1
  have K1 : Hid _ := k1
  have HB1 : Hid _ := hb1
  have HB2 : Hid _ := hb2
  clear c3 RUN h1 k1 hb1 hb2
  simp only [lst, shOf]
  go_wp2
  have hr2 := block_set_same (block_set_same (block_set_same (block_set_same (block_set_same (block_set_same hr 0 (lst (shOf en m).R b1)) 1 (.bool m.am)) 2 (.bool m.hd)) 3 (lst (shOf en m).D b2)) 4 (.int .i64 m.mis)) 5 (.int .i64 m.hol)
  have h2 := H1.out.set6 hr (lst (shOf en m).R b1) (.bool m.am) (.bool m.hd) (lst (shOf en m).D b2) (.int .i64 m.mis) (.int .i64 m.hol)
  have k3 := (((((K1.out.setCell (p := ⟨w.heap.size, 0, none⟩) (.inr (Nat.le_refl _)) (lst (shOf en m).R b1)).setCell (p := ⟨w.heap.size, 1, none⟩) (.inr (Nat.le_refl _)) (.bool m.am)).setCell (p := ⟨w.heap.size, 2, none⟩) (.inr (Nat.le_refl _)) (.bool m.hd)).setCell (p := ⟨w.heap.size, 3, none⟩) (.inr (Nat.le_refl _)) (lst (shOf en m).D b2)).setCell (p := ⟨w.heap.size, 4, none⟩) (.inr (Nat.le_refl _)) (.int .i64 m.mis)).setCell (p := ⟨w.heap.size, 5, none⟩) (.inr (Nat.le_refl _)) (.int .i64 m.hol)
  have hcell := cell_of h2.mp 0
  have hfro := frozen_of h2.mp 0
  refine door_unlock p.m _ (by exact hcell) (by exact hfro) (res11 w.heap.size _ _ _ _ _ _ rfl (block_set_ne hr2 (by omega) _ _)) ⟨b1, b2, rfl, ?_, ?_, by omega, by omega, hz3, h2.lock 0, k3.setCell (.inl (by simp)) _⟩
  · exact block_set_ne (block_set6 HB1.out (by omega) _ _ _ _ _ _) (by omega) _ _
  · exact block_set_ne (block_set6 HB2.out (by omega) _ _ _ _ _ _) (by omega) _ _
end Go.Proofs.Ytmnkphenobfbfaa
