import Derived.Test.YtmnkphenobfbfaaGreatXq
import Derived.Test.YtmnkphenobfbfaaGreatXr
import Derived.BigRegion
import Derived.Test.YtmnkphenobfbfaaGreatGe
namespace Go.Proofs.YtmnkphenobfbfaaGreat
open Go.RowKit
/-- A table's rows, as they come out. -/
def rowI (f : Nat → Int) (X : Nat → Int × Int) : Nat → List Value
  | 0 => []
  | k + 1 => rowI f X k ++ (if 0 ≤ f k then [.int .i64 k, .int .i64 (X k).1, .int .i64 (X k).2] else [])
structure Entering (f : Nat → Int) (X : Nat → Int × Int) (w : World) (v : Value) (k : Nat) (W : World) : Prop where
  own : W.ownsRow w.heap.size 84 3 v (cnt f k) (rowI f X k)
  kept : Kept [] w W
  box : W.heap[w.heap.size]? = some (.cells #[.int .i64 (f 0), .int .i64 (f 1), .int .i64 (f 2), .int .i64 (f 3), .int .i64 (f 4), .int .i64 (f 5), .int .i64 (f 6), .int .i64 (f 7)] 56 (0, 0))
theorem Entering.grow {f : Nat → Int} {X : Nat → Int × Int} {w : World} {v v' : Value} {k : Nat} {W W1 : World} (h : Entering f X w v k W) (o : Obj) (hf : 0 ≤ f k)
    (hg : ((W.alloc o).drew).grownBy W1 v.ownBlock) (ho : W1.ownsRow w.heap.size 84 3 v' (cnt f k + 1) (rowI f X k ++ [.int .i64 k, .int .i64 (X k).1, .int .i64 (X k).2])) : Entering f X w v' (k + 1) W1 := by
  have hown : ∀ b, v.ownBlock = some b → w.heap.size ≤ b ∧ (∃ cs, W.heap[b]? = some (.cells cs 84 (0, 0))) := by
    intro b hb
    rcases h.own.2 with ⟨rfl, _⟩ | ⟨g, cap, cur, rfl, e2, e3, _⟩
    · simp [Value.ownBlock] at hb
    · simp only [Value.ownBlock, Option.some.injEq] at hb
      subst hb
      exact ⟨e2, cur, e3⟩
  refine ⟨?_, ?_, ?_⟩
  · have e1 : cnt f (k + 1) = cnt f k + 1 := by simp only [cnt, if_pos hf]
    have e2 : rowI f X (k + 1) = rowI f X k ++ [.int .i64 k, .int .i64 (X k).1, .int .i64 (X k).2] := by simp only [rowI, if_pos hf]
    rw [e1, e2]; exact ho
  · have k1 := ((h.kept.alloc o).drew)
    refine ⟨hg.os.trans k1.os, hg.tape.trans k1.tape, hg.output.trans k1.output, Nat.le_trans k1.size hg.size, fun q hq _ => ?_⟩
    rw [hg.block q (Nat.lt_of_lt_of_le hq k1.size) (fun e => by have := (hown q e.symm).1; omega)]
    exact k1.block q hq (by simp)
  · rw [hg.block w.heap.size (by have := lt_of_block h.box; simp; omega) (fun e => by
      obtain ⟨_, cs, hcs⟩ := hown _ e.symm
      exact absurd (hcs.symm.trans h.box) (by simp))]
    exact block_alloc_lt h.box o
set_option maxRecDepth 100000 in
set_option maxHeartbeats 700000 in
theorem r_entries {r tb : Nat} {sl : Value} {B : Nat} {m : M} {w : World} (h : RefAt r tb sl B m w) (f : Nat → Int) (X : Nat → Int × Int) (hf : ∀ k, k < 8 → f k < m.nc) (hX : ∀ k, X k = ((m.cells (f k).toNat).st, (m.cells (f k).toNat).v)) :
    Calls Tryz.prog 29 #[.pointer (some ⟨r, 0, none⟩), .agg #[.int .i64 (f 0), .int .i64 (f 1), .int .i64 (f 2), .int .i64 (f 3), .int .i64 (f 4), .int .i64 (f 5), .int .i64 (f 6), .int .i64 (f 7)]] w
      fun e w' => ∃ v, e = .returned v ∧ w'.ownsRow w.heap.size 84 3 v (cnt f 8) (rowI f X 8) ∧ Kept [] w w' := by
  obtain ⟨i0, hi0, hz0, hz1, hz2⟩ := infoE84
  have H : Hid _ := h
  have HF : Hid _ := hf
  have HX : Hid _ := hX
  have hsr := h.mapCell.1
  have hE0 : Entering f X w (.slice none 0 0) 0 (w.alloc (.cells #[.int .i64 (f 0), .int .i64 (f 1), .int .i64 (f 2), .int .i64 (f 3), .int .i64 (f 4), .int .i64 (f 5), .int .i64 (f 6), .int .i64 (f 7)] 56)) :=
    ⟨⟨rfl, .inl ⟨rfl, rfl⟩⟩, (Kept.refl [] w).alloc _, block_alloc_new _ _⟩
  clear h hf hX
  go_enter Tryz.func29, Tryz.ntmps29
  go_wp2
  go_loopw [5, 6] (fun x i W => ∃ k : Nat, k ≤ 8 ∧ i = .int .i64 k ∧ Entering f X w x k W) (fun _ i _ => 8 - (intOf i).toNat)
  case atStart => exact ⟨0, by omega, rfl, hE0⟩
  case round =>
    obtain ⟨k, hk, rfl, hR⟩ := hrel
    clear hE0
    by_cases hlt : k < 8
    · have hck : wr.cell? ⟨w.heap.size, k, none⟩ = some (.int .i64 (f k)) := by rw [cell_of hR.box]; exact row8_at f hlt
      have hkt : ((k : Int)).toNat = k := by simp
      have hle := cnt_le f k
      by_cases hfk : 0 ≤ f k
      · have hr1 := H.out.keptNil hR.kept
        obtain ⟨-, -, c0, -⟩ := hr1.mapCell
        have hel : (f k).toNat < m.nc := by have := HF.out k hlt; omega
        obtain ⟨g, cap, hsl, hg, -, -, -, q0, q1⟩ := hr1.entry hel
        rw [hsl] at c0
        have hin : f k < (m.nc : Int) := HF.out k hlt
        have hx1 : (m.cells (f k).toNat).st = (X k).1 := by rw [HX.out k]
        have hx2 : (m.cells (f k).toNat).v = (X k).2 := by rw [HX.out k]
        rw [hx1] at q0
        rw [hx2] at q1
        have hbs := hR.kept.size
        have ROW : Hid ((wr.alloc (.cells #[.int .i64 k, .int .i64 (X k).1, .int .i64 (X k).2] 84)).drew.ownsRow w.heap.size 84 3 u5 (cnt f k) (rowI f X k)) := own_kept hR.own ((Kept.refl [] wr).alloc _).drew
        have NB : Hid ((wr.alloc (.cells #[.int .i64 k, .int .i64 (X k).1, .int .i64 (X k).2] 84)).drew.heap[wr.heap.size]? = some (.cells #[.int .i64 k, .int .i64 (X k).1, .int .i64 (X k).2] 84 (0, 0))) := block_alloc_new wr _
        have HR : Hid _ := hR
        have HFK : Hid _ := hfk
        have hbx := lt_of_block hR.box
        have hrr : r < wr.heap.size := by omega
        have FAR : Hid (∀ w1, ((wr.alloc (.cells #[.int .i64 k, .int .i64 (X k).1, .int .i64 (X k).2] 84)).drew).grownBy w1 u5.ownBlock → (w1.cell? ⟨r, 0, none⟩ = some (.slice (some ⟨g, 0, none⟩) m.nc cap) ∧ w1.cell? ⟨w.heap.size, k, none⟩ = some (.int .i64 (f k)) ∧ w1.cell? ⟨g, (f k).toNat * 2, none⟩ = some (.int .i64 (X k).1) ∧ w1.cell? ⟨g, (f k).toNat * 2 + 1, none⟩ = some (.int .i64 (X k).2))) := by
          intro w1 hgrow
          obtain ⟨rcs, hrb, _⟩ := hr1.own
          have far : ∀ (b o : Nat) (cs : Array Value) (T : TypeId) (v : Value), wr.heap[b]? = some (.cells cs T (0, 0)) → T ≠ 84 → wr.cell? ⟨b, o, none⟩ = some v → w1.cell? ⟨b, o, none⟩ = some v := by
            intro b o cs T v hb hT hv
            have hne : some b ≠ u5.ownBlock := by
              intro e
              rcases hR.own.2 with ⟨e1, _⟩ | ⟨g', cap', cur, e1, _, e3, _⟩
              · rw [e1] at e; simp [Value.ownBlock] at e
              · rw [e1] at e
                simp only [Value.ownBlock, Option.some.injEq] at e
                subst e
                rw [hb] at e3
                simp only [Option.some.injEq, Obj.cells.injEq] at e3
                exact hT e3.2.1
            have hb1 := (hgrow.block b (by have := lt_of_block hb; simp; omega) hne).trans (block_alloc_lt hb (.cells #[.int .i64 k, .int .i64 (X k).1, .int .i64 (X k).2] 84))
            rw [cell_of hb1, ← cell_of hb o]; exact hv
          obtain ⟨gcs, hgb⟩ : ∃ gcs, wr.heap[g]? = some (.cells gcs 88 (0, 0)) := by
            rcases hr1.row.2 with ⟨e1, _⟩ | ⟨g', cap', cur, e1, _, e3, _⟩
            · rw [hsl] at e1; simp at e1
            · rw [hsl] at e1
              simp only [Value.slice.injEq, Option.some.injEq, Addr.mk.injEq, and_true] at e1
              obtain ⟨e1, -, -⟩ := e1
              subst e1
              exact ⟨cur, e3⟩
          exact ⟨far _ _ _ _ _ hrb (by simp) c0, far _ _ _ _ _ hR.box (by simp) hck, far _ _ _ _ _ hgb (by simp) q0, far _ _ _ _ _ hgb (by simp) q1⟩
        clear hR hr1 hsl hx1 hx2
        go_wp2_with fail
        go_region_held3 (fun w' => w'.cell? ⟨r, 0, none⟩ = some (.slice (some ⟨g, 0, none⟩) m.nc cap) ∧ w'.cell? ⟨w.heap.size, k, none⟩ = some (.int .i64 (f k)) ∧ w'.cell? ⟨g, (f k).toNat * 2, none⟩ = some (.int .i64 (X k).1) ∧ w'.cell? ⟨g, (f k).toNat * 2 + 1, none⟩ = some (.int .i64 (X k).2))
          (first | exact FAR.out _ hgrow | (refine ⟨?_, ?_, ?_, ?_⟩ <;> go_simp))
          (first
          | (refine step_append_lies _ (by rfl) _ _ _ (by rfl) w.heap.size 84 i0 _ 3 24 Tryz.underlying25 hi0 hz0 hz1 hz2 rfl (by omega) u5 (cnt f k) (rowI f X k) (by rfl) ROW.out
              ⟨wr.heap.size, 0, none⟩ 1 1 [.int .i64 k, .int .i64 (X k).1, .int .i64 (X k).2] (by rfl) (by rfl) (World.news_of_block (cs := #[.int .i64 k, .int .i64 (X k).1, .int .i64 (X k).2]) (t := 84) (fr := (0, 0)) NB.out) (by simp [Value.oneCell'])
              (by omega) (by unfold maxLen; omega) (by omega) (by simp; omega) (wr.heap.size + 1) (by simp) ?_; intro g2 cap2 w1 hown1 hgrow hatg hltg))
        all_goals
          have HN : Hid _ := HR.out.grow _ HFK.out hgrow hown1
          clear hown1 hgrow hatg hltg
          go_wp2
          go_roundw
          case rel => exact ⟨k + 1, by omega, by go_num, HN.out⟩
          case measure => simp [intOf]; omega
      · have HN : Hid (Entering f X w u5 (k + 1) wr) := ⟨by have := hR.own; simpa only [cnt, rowI, if_neg hfk, Nat.add_zero, List.append_nil] using this, hR.kept, hR.box⟩
        clear hR
        go_wp2
        go_roundw
        case rel => exact ⟨k + 1, by omega, by go_num, HN.out⟩
        case measure => simp [intOf]; omega
    · obtain rfl : k = 8 := by omega
      have HR : Hid _ := hR
      clear hR
      go_wp2
      go_ret
      exact ⟨_, rfl, HR.out.own, HR.out.kept⟩
end Go.Proofs.YtmnkphenobfbfaaGreat
namespace Go.Proofs.YtmnkphenobfbfaaGreat
open Go.RowKit
theorem MapCells.all {cs : Array Value} {tb : Nat} {sl : Value} {m : M} (c : MapCells cs tb sl m) : cs = #[sl, .int .i64 (m.read 0), .int .i64 (m.read 1), .int .i64 (m.read 2), .int .i64 (m.read 3), .int .i64 (m.read 4), .int .i64 (m.read 5), .int .i64 (m.read 6), .int .i64 (m.read 7), .bool m.am, .bool m.hd, .int .i64 (m.dirty 0), .int .i64 (m.dirty 1), .int .i64 (m.dirty 2), .int .i64 (m.dirty 3), .int .i64 (m.dirty 4), .int .i64 (m.dirty 5), .int .i64 (m.dirty 6), .int .i64 (m.dirty 7), .int .i64 m.mis, .int .i64 m.hol, .bool m.cl, .slice (some ⟨tb, 0, none⟩) m.nth m.nth] := by
  apply Array.ext_getElem?
  intro i
  by_cases hi : i < 23
  · match i, hi with
    | 0, _ => exact c.c0
    | 1, _ => exact c.rd 0 (by omega)
    | 2, _ => exact c.rd 1 (by omega)
    | 3, _ => exact c.rd 2 (by omega)
    | 4, _ => exact c.rd 3 (by omega)
    | 5, _ => exact c.rd 4 (by omega)
    | 6, _ => exact c.rd 5 (by omega)
    | 7, _ => exact c.rd 6 (by omega)
    | 8, _ => exact c.rd 7 (by omega)
    | 9, _ => exact c.am
    | 10, _ => exact c.hd
    | 11, _ => exact c.dt 0 (by omega)
    | 12, _ => exact c.dt 1 (by omega)
    | 13, _ => exact c.dt 2 (by omega)
    | 14, _ => exact c.dt 3 (by omega)
    | 15, _ => exact c.dt 4 (by omega)
    | 16, _ => exact c.dt 5 (by omega)
    | 17, _ => exact c.dt 6 (by omega)
    | 18, _ => exact c.dt 7 (by omega)
    | 19, _ => exact c.mis
    | 20, _ => exact c.hol
    | 21, _ => exact c.cl
    | 22, _ => exact c.th
    | n + 23, h => omega
  · rw [Array.getElem?_eq_none (by have := c.size; omega), Array.getElem?_eq_none (by simp; omega)]
theorem own_slice {w : World} {base : Nat} {e : TypeId} {size : Nat} {v : Value} {n : Nat} {xs : List Value} (h : w.ownsRow base e size v n xs) : ∃ ao k c, v = .slice ao k c := by
  rcases h.2 with ⟨rfl, _⟩ | ⟨g, cap, cur, rfl, _⟩
  · exact ⟨_, _, _, rfl⟩
  · exact ⟨_, _, _, rfl⟩
theorem own_base {w : World} {base base' : Nat} {e : TypeId} {size : Nat} {v : Value} {n : Nat} {xs : List Value} (h : w.ownsRow base e size v n xs) (hb : base' ≤ base) : w.ownsRow base' e size v n xs := by
  refine ⟨h.1, ?_⟩
  rcases h.2 with h' | ⟨g, cap, cur, e1, e2, e3⟩
  · exact .inl h'
  · exact .inr ⟨g, cap, cur, e1, Nat.le_trans hb e2, e3⟩
theorem own_set6 {W : World} {r base : Nat} {v : Value} {n : Nat} {xs : List Value} {cs : Array Value} (h : W.ownsRow base 84 3 v n xs) (hr : W.heap[r]? = some (.cells cs 27 (0, 0))) (v0 v1 v2 v3 v4 v5 : Value) :
    ((((((W.setCell ⟨r, 0, none⟩ v0).setCell ⟨r, 1, none⟩ v1).setCell ⟨r, 2, none⟩ v2).setCell ⟨r, 3, none⟩ v3).setCell ⟨r, 4, none⟩ v4).setCell ⟨r, 5, none⟩ v5).ownsRow base 84 3 v n xs := by
  refine ⟨h.1, ?_⟩
  rcases h.2 with h' | ⟨g, cap, cur, e1, e2, e3, e4⟩
  · exact .inl h'
  · exact .inr ⟨g, cap, cur, e1, e2, block_set6 e3 (ne_of_blocks e3 hr (by simp)) _ _ _ _ _ _, e4⟩
set_option maxRecDepth 100000 in
set_option maxHeartbeats 600000 in
theorem r_look {r tb : Nat} {sl : Value} {B : Nat} {m : M} {w : World} (h : RefAt r tb sl B m w) (hI : m.Inv) :
    Calls Tryz.prog 14 #[.pointer (some ⟨r, 0, none⟩)] w fun e w' => ∃ a1 n1 c1 a2 n2 c2, e = .returned (.agg #[.slice a1 n1 c1, .bool m.am, .bool m.hd, .slice a2 n2 c2, .int .i64 m.mis, .int .i64 m.hol]) ∧
      w'.ownsRow w.heap.size 84 3 (.slice a1 n1 c1) (cnt m.read 8) (rowI m.read m.rdX 8) ∧ w'.ownsRow w.heap.size 84 3 (.slice a2 n2 c2) (cnt m.dirty 8) (rowI m.dirty m.dtX 8) ∧ Kept [] w w' := by
  obtain ⟨cs, hb, hcs⟩ := h.own
  rw [hcs.all] at hb
  have hs := lt_of_block hb
  go_enter Tryz.func14, Tryz.ntmps14
  go_wp2_with fail
  have hS := block_alloc_lt hb (.cells #[Value.slice none 0 0, .bool false, .bool false, .slice none 0 0, .int .i64 0, .int .i64 0] 27)
  have hr := block_alloc_new w (.cells #[Value.slice none 0 0, .bool false, .bool false, .slice none 0 0, .int .i64 0, .int .i64 0] 27)
  have hK : Kept [] w (w.alloc (.cells #[Value.slice none 0 0, .bool false, .bool false, .slice none 0 0, .int .i64 0, .int .i64 0] 27)) := (Kept.refl [] w).alloc _
  have hH := h.alloc (.cells #[Value.slice none 0 0, .bool false, .bool false, .slice none 0 0, .int .i64 0, .int .i64 0] 27)
  generalize (w.alloc (.cells #[Value.slice none 0 0, .bool false, .bool false, .slice none 0 0, .int .i64 0, .int .i64 0] 27)) = W0 at *
  have n3 : w.heap.size ≠ r := by omega
  have hc : ∀ o, W0.cell? ⟨r, o, none⟩ = #[sl, .int .i64 (m.read 0), .int .i64 (m.read 1), .int .i64 (m.read 2), .int .i64 (m.read 3), .int .i64 (m.read 4), .int .i64 (m.read 5), .int .i64 (m.read 6), .int .i64 (m.read 7), .bool m.am, .bool m.hd, .int .i64 (m.dirty 0), .int .i64 (m.dirty 1), .int .i64 (m.dirty 2), .int .i64 (m.dirty 3), .int .i64 (m.dirty 4), .int .i64 (m.dirty 5), .int .i64 (m.dirty 6), .int .i64 (m.dirty 7), .int .i64 m.mis, .int .i64 m.hol, .bool m.cl, .slice (some ⟨tb, 0, none⟩) m.nth m.nth][o]? := cell_of hS
  have hz := hK.size
  have L : ∀ (f : Nat → Int) (X : Nat → Int × Int) (W : World), (∀ k, k < 8 → f k < m.nc) → (∀ k, X k = ((m.cells (f k).toNat).st, (m.cells (f k).toNat).v)) → Kept [] W0 W →
      Calls Tryz.prog 29 #[.pointer (some ⟨r, 0, none⟩), .agg #[.int .i64 (f 0), .int .i64 (f 1), .int .i64 (f 2), .int .i64 (f 3), .int .i64 (f 4), .int .i64 (f 5), .int .i64 (f 6), .int .i64 (f 7)]] W fun e w' => ∃ ao k c, e = .returned (.slice ao k c) ∧ w'.ownsRow w.heap.size 84 3 (.slice ao k c) (cnt f 8) (rowI f X 8) ∧ Kept [] W0 w' ∧
      (∀ o, w'.cell? ⟨r, o, none⟩ = #[sl, .int .i64 (m.read 0), .int .i64 (m.read 1), .int .i64 (m.read 2), .int .i64 (m.read 3), .int .i64 (m.read 4), .int .i64 (m.read 5), .int .i64 (m.read 6), .int .i64 (m.read 7), .bool m.am, .bool m.hd, .int .i64 (m.dirty 0), .int .i64 (m.dirty 1), .int .i64 (m.dirty 2), .int .i64 (m.dirty 3), .int .i64 (m.dirty 4), .int .i64 (m.dirty 5), .int .i64 (m.dirty 6), .int .i64 (m.dirty 7), .int .i64 m.mis, .int .i64 m.hol, .bool m.cl, .slice (some ⟨tb, 0, none⟩) m.nth m.nth][o]?) ∧ (∀ o, w'.cell? ⟨w.heap.size, o, none⟩ = #[Value.slice none 0 0, .bool false, .bool false, .slice none 0 0, .int .i64 0, .int .i64 0][o]?) ∧ (∀ o, w'.frozen? ⟨w.heap.size, o, none⟩ = false) ∧ Kept [] W w' := by
    intro f X W hf hX hW
    refine (r_entries (hH.keptNil hW) f X hf hX).mono ?_
    rintro e w' ⟨v, rfl, ho, hk⟩
    obtain ⟨ao, k, c, rfl⟩ := own_slice ho
    have hk' := hW.trans hk
    exact ⟨ao, k, c, rfl, own_base ho (Nat.le_trans hz hW.size), hk', cell_of (hk'.at hS (by simp)), cell_of (hk'.at hr (by simp)), frozen_of (hk'.at hr (by simp)), hk⟩
  have HL1 : Hid _ := fun W hW => L m.read m.rdX W (fun k hk => (hI.rd k hk).2) (fun _ => rfl) hW
  have HL2 : Hid _ := fun W hW => L m.dirty m.dtX W (fun k hk => (hI.dt k hk).2) (fun _ => rfl) hW
  have HR0 : Hid _ := hr
  have hK0 : Hid (Kept [] W0 W0) := Kept.refl [] W0
  clear L hH h hcs hb hS hr
  go_region_held3 (fun w' => ∀ o, w'.cell? ⟨r, o, none⟩ = #[sl, .int .i64 (m.read 0), .int .i64 (m.read 1), .int .i64 (m.read 2), .int .i64 (m.read 3), .int .i64 (m.read 4), .int .i64 (m.read 5), .int .i64 (m.read 6), .int .i64 (m.read 7), .bool m.am, .bool m.hd, .int .i64 (m.dirty 0), .int .i64 (m.dirty 1), .int .i64 (m.dirty 2), .int .i64 (m.dirty 3), .int .i64 (m.dirty 4), .int .i64 (m.dirty 5), .int .i64 (m.dirty 6), .int .i64 (m.dirty 7), .int .i64 m.mis, .int .i64 m.hol, .bool m.cl, .slice (some ⟨tb, 0, none⟩) m.nth m.nth][o]?)
    (first | (intro o; rw [cell_set6 n3]; exact g3 o) | exact g3 | exact hc)
    (first | (go_at_call 29; have hsecond := o1; refine (HL2.out _ kk).mono ?_; rintro e w' ⟨a2, n2, c2, rfl, o2, kk, g3, g5, g6, k2⟩) | (go_at_call 29; refine (HL1.out _ ((Kept.refl _ _).drew)).mono ?_; rintro e w' ⟨a1, n1, c1, rfl, o1, kk, g3, g5, g6, k1⟩))
  have o1' := own_kept o1 k2
  have hr2 := (hK0.out.trans kk).at HR0.out (by simp)
  clear hsecond o1 k1 k2 g3 hc
  go_wp2
  refine bodyPost_ret (v := .agg #[.slice a1 n1 c1, .bool m.am, .bool m.hd, .slice a2 n2 c2, .int .i64 m.mis, .int .i64 m.hol]) (res12 w.heap.size _ _ _ _ _ _ rfl g5) rfl ⟨a1, n1, c1, a2, n2, c2, rfl, own_set6 o1' hr2 _ _ _ _ _ _, own_set6 o2 hr2 _ _ _ _ _ _, ?_⟩
  exact (((((((hK.trans kk).setCell (.inr (Nat.le_refl _)) _).setCell (.inr (Nat.le_refl _)) _).setCell (.inr (Nat.le_refl _)) _).setCell (.inr (Nat.le_refl _)) _).setCell (.inr (Nat.le_refl _)) _).setCell (.inr (Nat.le_refl _)) _)
end Go.Proofs.YtmnkphenobfbfaaGreat
