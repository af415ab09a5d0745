import Derived.Test.YtmnkphenobfbfaaGreatXg
import Derived.Test.YtmnkphenobfbfaaGreatXl
import Derived.BigQuiet
namespace Go.Proofs.YtmnkphenobfbfaaGreat
open Go.RowKit
/-- The thread stands at key k of READ. -/
def M.nextIs (m : M) (i : Nat) (k : Int) : M := m.thr i { m.ths i with next := k }
theorem blk_drewN' {w : World} {b : Nat} {o : Obj} (h : w.heap[b]? = some o) (n : Nat) : (w.drewN n).heap[b]? = some o := h
/-- While the next key is sought. -/
structure Seeks (r tb : Nat) (sl : Value) (B : Nat) (m : M) (i k : Nat) (w W : World) : Prop where
  at_ : RefAt r tb sl B (m.nextIs i k) W
  box : W.heap[w.heap.size]? = some (.cells #[.bool false, .bool false, .int .i64 0] 52 (0, 0))
  kept : Kept (r :: tb :: sl.ownBlock.toList) w W
theorem RefAt.nextTo {r tb : Nat} {sl : Value} {B : Nat} {m : M} {W : World} (h : RefAt r tb sl B m W) {i : Nat} (hi : i < m.nth) (n : Nat) : RefAt r tb sl B (m.nextIs i ((n + 1 : Nat) : Int)) (W.setCell ⟨tb, i * 9 + 8, none⟩ (.int .i64 ((n : Int) + 1))) := by
  rw [show ((n + 1 : Nat) : Int) = (n : Int) + 1 by omega]
  exact h.putNext hi ((n : Int) + 1)
theorem Seeks.next {r tb : Nat} {sl : Value} {B : Nat} {m : M} {i k : Nat} {w W : World} (h : Seeks r tb sl B m i k w W) (hi : i < m.nth) (ht : tb < w.heap.size) : Seeks r tb sl B m i (k + 1) w (W.setCell ⟨tb, i * 9 + 8, none⟩ (.int .i64 ((k : Int) + 1))) := by
  refine ⟨?_, block_set_ne h.box (by omega) _ _, h.kept.setCell (.inl (by simp)) _⟩
  have := h.at_.putNext (i := i) hi ((k : Int) + 1)
  have e : (({ m.nextIs i k with ths := put (m.nextIs i k).ths i { (m.nextIs i k).ths i with next := (k : Int) + 1 } } : M)) = m.nextIs i ((k + 1 : Nat) : Int) := by
    show (m.nextIs i k).thr i _ = _
    simp only [M.nextIs, thr_thr, thr_ths]
    congr 1
  rw [e] at this
  exact this
theorem Seeks.drewN {r tb : Nat} {sl : Value} {B : Nat} {m : M} {i k : Nat} {w W : World} (h : Seeks r tb sl B m i k w W) (n : Nat) : Seeks r tb sl B m i k w (W.drewN n) := ⟨h.at_.drewN n, h.box, h.kept.drewN n⟩
theorem Seeks.cell {r tb : Nat} {sl : Value} {B : Nat} {m : M} {i k : Nat} {w W : World} (h : Seeks r tb sl B m i k w W) (hi : i < m.nth) : W.cell? ⟨tb, i * 9 + 8, none⟩ = some (.int .i64 (k : Int)) := by
  obtain ⟨-, -, -, -, -, -, -, -, -, -, t8⟩ := h.at_.thCell hi
  rw [t8, M.nextIs, thr_ths]
theorem seek_yes (f : Nat → Int) {k : Nat} (hk : k < 8) (h : 0 ≤ f k) : nextKey f (8 - k) k = k := by
  rw [show 8 - k = (8 - (k + 1)) + 1 by omega]
  simp only [nextKey, if_pos h]
theorem seek_no (f : Nat → Int) {k : Nat} (hk : k < 8) (h : f k < 0) : nextKey f (8 - k) k = nextKey f (8 - (k + 1)) (k + 1) := by
  rw [show 8 - k = (8 - (k + 1)) + 1 by omega]
  simp only [nextKey, if_neg (Int.not_le.2 h)]
set_option maxRecDepth 100000 in
set_option maxHeartbeats 1600000 in
theorem s_9 {r tb : Nat} {sl : Value} {B : Nat} {m : M} {w : World} (h : RefAt r tb sl B m w) {i : Nat} (hi : i < m.nth) (hat : (m.ths i).at_ = 9) :
    DoesS 58 #[.pointer (some ⟨r, 0, none⟩), .pointer (some ⟨tb, i * 9, none⟩)] r tb sl B ({ m with hd := true, dirty := fun _ => -1 }.scan i 0) w := by
  obtain ⟨hs, hf, -, -, -, -, c4, -, -, -, c8⟩ := h.thCell hi
  obtain ⟨hsr, hfr, -, -, -, c10, cdt, -⟩ := h.mapCell
  have d0 := cdt 0 (by omega)
  have d1 := cdt 1 (by omega)
  have d2 := cdt 2 (by omega)
  have d3 := cdt 3 (by omega)
  have d4 := cdt 4 (by omega)
  have d5 := cdt 5 (by omega)
  have d6 := cdt 6 (by omega)
  have d7 := cdt 7 (by omega)
  have hne := h.rne
  have H : Hid _ := h
  rw [hat] at c4
  clear h cdt hat
  go_enter Tryz.func58, Tryz.ntmps58
  go_wp2_with fail
  refine (m_none _).mono ?_
  rintro e w1 ⟨rfl, rfl⟩
  go_wp2_with fail
  have h1 := ((((H.out.setHd true).setDirties (fun _ => -1)).putNext (i := i) hi 0).alloc (.cells #[.bool false, .bool false, .int .i64 0] 52)).alloc (.cells #[.int .i64 (-1), .int .i64 (-1), .int .i64 (-1), .int .i64 (-1), .int .i64 (-1), .int .i64 (-1), .int .i64 (-1), .int .i64 (-1)] 56)
  have g1 := block_alloc_lt (newRes0 (w := w) (w1 := ((((((((((w.setCell ⟨r, 10, none⟩ (.bool true)).setCell ⟨r, 11, none⟩ (.int .i64 (-1))).setCell ⟨r, 12, none⟩ (.int .i64 (-1))).setCell ⟨r, 13, none⟩ (.int .i64 (-1))).setCell ⟨r, 14, none⟩ (.int .i64 (-1))).setCell ⟨r, 15, none⟩ (.int .i64 (-1))).setCell ⟨r, 16, none⟩ (.int .i64 (-1))).setCell ⟨r, 17, none⟩ (.int .i64 (-1))).setCell ⟨r, 18, none⟩ (.int .i64 (-1))).setCell ⟨tb, i * 9 + 8, none⟩ (.int .i64 0))) (by simp only [size_set])) (.cells #[.int .i64 (-1), .int .i64 (-1), .int .i64 (-1), .int .i64 (-1), .int .i64 (-1), .int .i64 (-1), .int .i64 (-1), .int .i64 (-1)] 56)
  have k1 := (((((Kept.refl (r :: tb :: sl.ownBlock.toList) w).setCell (p := ⟨r, 10, none⟩) (.inl (by simp)) (.bool true)).setDirties (r := r) (by simp) (fun _ => -1)).setCell (p := ⟨tb, i * 9 + 8, none⟩) (.inl (by simp)) (.int .i64 0)).alloc (.cells #[.bool false, .bool false, .int .i64 0] 52)).alloc (.cells #[.int .i64 (-1), .int .i64 (-1), .int .i64 (-1), .int .i64 (-1), .int .i64 (-1), .int .i64 (-1), .int .i64 (-1), .int .i64 (-1)] 56)
  have hM : Seeks r tb sl B { m with hd := true, dirty := fun _ => -1 } i 0 w ((((((((((((w.setCell ⟨r, 10, none⟩ (.bool true)).setCell ⟨r, 11, none⟩ (.int .i64 (-1))).setCell ⟨r, 12, none⟩ (.int .i64 (-1))).setCell ⟨r, 13, none⟩ (.int .i64 (-1))).setCell ⟨r, 14, none⟩ (.int .i64 (-1))).setCell ⟨r, 15, none⟩ (.int .i64 (-1))).setCell ⟨r, 16, none⟩ (.int .i64 (-1))).setCell ⟨r, 17, none⟩ (.int .i64 (-1))).setCell ⟨r, 18, none⟩ (.int .i64 (-1))).setCell ⟨tb, i * 9 + 8, none⟩ (.int .i64 0)).alloc (.cells #[.bool false, .bool false, .int .i64 0] 52)).alloc (.cells #[.int .i64 (-1), .int .i64 (-1), .int .i64 (-1), .int .i64 (-1), .int .i64 (-1), .int .i64 (-1), .int .i64 (-1), .int .i64 (-1)] 56)) := ⟨h1, g1, k1⟩
  clear h1 g1 k1 c4 c8 c10 d0 d1 d2 d3 d4 d5 d6 d7 hf hfr
  generalize ((((((((((((w.setCell ⟨r, 10, none⟩ (.bool true)).setCell ⟨r, 11, none⟩ (.int .i64 (-1))).setCell ⟨r, 12, none⟩ (.int .i64 (-1))).setCell ⟨r, 13, none⟩ (.int .i64 (-1))).setCell ⟨r, 14, none⟩ (.int .i64 (-1))).setCell ⟨r, 15, none⟩ (.int .i64 (-1))).setCell ⟨r, 16, none⟩ (.int .i64 (-1))).setCell ⟨r, 17, none⟩ (.int .i64 (-1))).setCell ⟨r, 18, none⟩ (.int .i64 (-1))).setCell ⟨tb, i * 9 + 8, none⟩ (.int .i64 0)).alloc (.cells #[.bool false, .bool false, .int .i64 0] 52)).alloc (.cells #[.int .i64 (-1), .int .i64 (-1), .int .i64 (-1), .int .i64 (-1), .int .i64 (-1), .int .i64 (-1), .int .i64 (-1), .int .i64 (-1)] 56)) = W at *
  go_loopw [] (fun W' => ∃ k : Nat, k ≤ 8 ∧ nextKey ({ m with hd := true, dirty := fun _ => -1 }).read (8 - k) k = nextKey ({ m with hd := true, dirty := fun _ => -1 }).read (8 - (0)) (0) ∧ Seeks r tb sl B ({ m with hd := true, dirty := fun _ => -1 }) i k w W') (fun W' => 8 - (intOf ((W'.cell? ⟨tb, i * 9 + 8, none⟩).getD undef)).toNat)
  case atStart => exact ⟨_, by omega, rfl, hM⟩
  case round =>
    obtain ⟨k, hk, hnx, hR⟩ := hrel
    clear hM
    obtain ⟨ts, tf, -, -, -, -, -, -, -, -, t8⟩ := hR.at_.thCell hi
    obtain ⟨ms, mf, -, mrd, -⟩ := hR.at_.mapCell
    have t8' : wr.cell? ⟨tb, i * 9 + 8, none⟩ = some (.int .i64 (k : Int)) := by rw [t8, M.nextIs, thr_ths]
    have hmk : (intOf ((wr.cell? ⟨tb, i * 9 + 8, none⟩).getD undef)).toNat = k := by rw [t8']; simp [intOf]
    have HMK : Hid _ := hmk
    have HR : Hid _ := hR
    have HNX : Hid _ := hnx
    have hkt : ((k : Int)).toNat = k := by simp
    clear t8 hmk hR hnx
    by_cases hlt : k < 8
    · have hlt' : (k : Int) < 8 := by omega
      have ck : wr.cell? ⟨r, 1 + k, none⟩ = some (.int .i64 (({ m with hd := true, dirty := fun _ => -1 }).read k)) := mrd k hlt
      have HX : Hid _ := HNX.out
      by_cases hneg : ({ m with hd := true, dirty := fun _ => -1 }).read k < 0
      · have HNEG : Hid _ := hneg
        have HS : Hid _ := seek_no ({ m with hd := true, dirty := fun _ => -1 }).read hlt hneg
        clear mrd
        generalize ({ m with hd := true, dirty := fun _ => -1 }).read k = q at *
        go_wp2_with fail
        go_quiet (fail)
        go_wp2
        go_roundw
        case rel => exact ⟨k + 1, by omega, HS.out.symm.trans HX.out, (HR.out.next hi hs).drewN nq⟩
        case measure =>
          rw [((HR.out.drewN nq).next hi hs).cell hi, HMK.out]
          simp [intOf]
          omega
      · have hpos := Int.not_lt.1 hneg
        have HSC : Hid (({ m with hd := true, dirty := fun _ => -1 }).scan i (0) = ⟨false, false, 0, (({ m with hd := true, dirty := fun _ => -1 }).nextIs i (k : Int)).thr i { (({ m with hd := true, dirty := fun _ => -1 }).nextIs i (k : Int)).ths i with at_ := 10 }⟩) := by
          have e : nextKey ({ m with hd := true, dirty := fun _ => -1 }).read (8 - (0)) (0) = k := HNX.out.symm.trans (seek_yes ({ m with hd := true, dirty := fun _ => -1 }).read hlt hpos)
          unfold M.scan
          rw [e, if_pos hlt]
          rfl
        clear mrd
        generalize ({ m with hd := true, dirty := fun _ => -1 }).read k = q at *
        go_wp2_with fail
        go_quiet (fail)
        go_wp2_with fail
        have h1 := HR.out.at_.drewN nq
        have g1 : (wr.drewN nq).heap[w.heap.size]? = some (.cells #[.bool false, .bool false, .int .i64 0] 52 (0, 0)) := HR.out.box
        have k1 := HR.out.kept.drewN nq
        refine Calls.mono (m_goes h1 hi 10) ?_
        rintro e w2 ⟨rfl, h2, k2⟩
        have r2 := k2.at g1 (by simp; omega)
        have hc2 : ∀ o, w2.cell? ⟨w.heap.size, o, none⟩ = #[.bool false, .bool false, .int .i64 0][o]? := cell_of r2
        have hf2 : ∀ o, w2.frozen? ⟨w.heap.size, o, none⟩ = false := frozen_of r2
        have KK : Hid _ := k1.trans (k2.mono (by simp))
        have H2 : Hid _ := h2
        clear h1 k1 g1 k2 h2 t8'
        simp only [res]
        go_wp2
        refine bodyPost_ret (v := res false false 0) (by simp [results, Tryz.results58, go_sem, res, cell_of (resLaid r2 false false 0)]) rfl ?_
        rw [HSC.out]
        exact ⟨rfl, ⟨sl, H2.out.resLaid r2 false false 0, fun g hg => .inl hg⟩, ((KK.out.setCell (.inr (by simp)) _).setCell (.inr (by simp)) _).setCell (.inr (by simp)) _⟩
    · obtain rfl : k = 8 := by omega
      have hd : decide (((8 : Nat) : Int) < 8) = false := by decide
      have HSC : Hid (({ m with hd := true, dirty := fun _ => -1 }).scan i (0) = ⟨false, false, 0, (({ m with hd := true, dirty := fun _ => -1 }).nextIs i ((8 : Nat) : Int)).thr i { (({ m with hd := true, dirty := fun _ => -1 }).nextIs i ((8 : Nat) : Int)).ths i with at_ := 11 }⟩) := by
        have e : nextKey ({ m with hd := true, dirty := fun _ => -1 }).read (8 - (0)) (0) = 8 := HNX.out.symm
        unfold M.scan
        rw [e, if_neg (by omega)]
        rfl
      clear mrd
      go_wp2_with fail
      go_quiet (fail)
      go_wp2_with fail
      have h1 := HR.out.at_.drewN nq
      have g1 : (wr.drewN nq).heap[w.heap.size]? = some (.cells #[.bool false, .bool false, .int .i64 0] 52 (0, 0)) := HR.out.box
      have k1 := HR.out.kept.drewN nq
      refine Calls.mono (m_goes h1 hi 11) ?_
      rintro e w2 ⟨rfl, h2, k2⟩
      have r2 := k2.at g1 (by simp; omega)
      have hc2 : ∀ o, w2.cell? ⟨w.heap.size, o, none⟩ = #[.bool false, .bool false, .int .i64 0][o]? := cell_of r2
      have hf2 : ∀ o, w2.frozen? ⟨w.heap.size, o, none⟩ = false := frozen_of r2
      have KK : Hid _ := k1.trans (k2.mono (by simp))
      have H2 : Hid _ := h2
      clear h1 k1 g1 k2 h2 t8'
      simp only [res]
      go_wp2
      refine bodyPost_ret (v := res false false 0) (by simp [results, Tryz.results58, go_sem, res, cell_of (resLaid r2 false false 0)]) rfl ?_
      rw [HSC.out]
      exact ⟨rfl, ⟨sl, H2.out.resLaid r2 false false 0, fun g hg => .inl hg⟩, ((KK.out.setCell (.inr (by simp)) _).setCell (.inr (by simp)) _).setCell (.inr (by simp)) _⟩
set_option maxRecDepth 100000 in
set_option maxHeartbeats 1600000 in
theorem s_10_gone {r tb : Nat} {sl : Value} {B : Nat} {m : M} {w : World} (h : RefAt r tb sl B m w) {i : Nat} (hi : i < m.nth) (hat : (m.ths i).at_ = 10) (hn0 : 0 ≤ (m.ths i).next) (hn7 : (m.ths i).next < 8) (hr0 : 0 ≤ m.read (m.nxt i)) (hel : (m.read (m.nxt i)).toNat < m.nc) (hx : ¬ (m.cells (m.read (m.nxt i)).toNat).st = 0) (hx1 : ¬ (m.cells (m.read (m.nxt i)).toNat).st = 1) :
    DoesS 58 #[.pointer (some ⟨r, 0, none⟩), .pointer (some ⟨tb, i * 9, none⟩)] r tb sl B ((m).scan i (m.nxt i + 1)) w := by
  obtain ⟨hs, hf, -, -, -, -, c4, -, -, -, c8⟩ := h.thCell hi
  obtain ⟨hsr, hfr, c0, crd, -, -, cdt, -⟩ := h.mapCell
  obtain ⟨g, cap, hsl, hg, hgr, hgt, hfg, q0, q1⟩ := h.entry hel
  have hne := h.rne
  have H : Hid _ := h
  have hnl : m.nxt i < 8 := by unfold M.nxt; omega
  have hn9 : m.nxt i + 1 ≤ 8 := by omega
  have hnt : (m.ths i).next.toNat = m.nxt i := rfl
  have hni : (m.ths i).next = ((m.nxt i : Nat) : Int) := by unfold M.nxt; omega
  have ck : w.cell? ⟨r, 1 + m.nxt i, none⟩ = some (.int .i64 (m.read (m.nxt i))) := crd _ hnl
  have dk : w.cell? ⟨r, 11 + m.nxt i, none⟩ = some (.int .i64 (m.dirty (m.nxt i))) := cdt _ hnl
  rw [hat] at c4
  rw [hsl] at c0
  have HSL : Hid _ := hsl
  have hin : m.read (m.nxt i) < (m.nc : Int) := by omega
  have HNI : Hid _ := hni
  have hob : sl.ownBlock = some g := by rw [hsl]; rfl
  have hmem : g ∈ r :: tb :: sl.ownBlock.toList := by rw [hob]; simp
  have HMEM : Hid _ := hmem
  have HEL : Hid _ := hel
  rw [hni] at c8
  have hnn : ((m.nxt i : Nat) : Int) < 8 := by omega
  have hntn : (((m.nxt i : Nat) : Int)).toNat = m.nxt i := by simp
  clear h crd cdt hat hni hn0 hn7 hsl hmem hob hnt hel
  generalize hX : m.read (m.nxt i) = z at *
  generalize hS : (m.cells z.toNat).st = x at *
  generalize hV : (m.cells z.toNat).v = v at *
  generalize hN : m.nxt i = n at *
  have HXX : Hid _ := hX
  have HSS : Hid _ := hS
  have HNN : Hid _ := hN
  clear hX hS hV hN
  go_enter Tryz.func58, Tryz.ntmps58
  go_wp2_with fail
  go_quiet (fail)
  go_wp2_with fail
  have hM : Seeks r tb sl B (m) i (n + 1) w (((w.alloc (.cells #[.bool false, .bool false, .int .i64 0] 52)).drewN nq).setCell ⟨tb, i * 9 + 8, none⟩ (.int .i64 ((n : Int) + 1))) := ⟨((H.out.alloc _).drewN nq).nextTo hi n, block_set_ne (blk_drewN' (block_alloc_new w (.cells #[.bool false, .bool false, .int .i64 0] 52)) nq) (by omega) _ _, (((Kept.refl _ w).alloc _).drewN nq).setCell (.inl (by simp)) _⟩
  clear c4 c8 c0 ck dk q0 q1 hf hfr hfg
  generalize ((w.alloc (.cells #[.bool false, .bool false, .int .i64 0] 52)).drewN nq).setCell ⟨tb, i * 9 + 8, none⟩ (.int .i64 ((n : Int) + 1)) = W at *
  go_loopw [] (fun W' => ∃ k : Nat, k ≤ 8 ∧ nextKey (m).read (8 - k) k = nextKey (m).read (8 - (n + 1)) (n + 1) ∧ Seeks r tb sl B (m) i k w W') (fun W' => 8 - (intOf ((W'.cell? ⟨tb, i * 9 + 8, none⟩).getD undef)).toNat)
  case atStart => exact ⟨_, by omega, rfl, hM⟩
  case round =>
    obtain ⟨k, hk, hnx, hR⟩ := hrel
    clear hM
    obtain ⟨ts, tf, -, -, -, -, -, -, -, -, t8⟩ := hR.at_.thCell hi
    obtain ⟨ms, mf, -, mrd, -⟩ := hR.at_.mapCell
    have t8' : wr.cell? ⟨tb, i * 9 + 8, none⟩ = some (.int .i64 (k : Int)) := by rw [t8, M.nextIs, thr_ths]
    have hmk : (intOf ((wr.cell? ⟨tb, i * 9 + 8, none⟩).getD undef)).toNat = k := by rw [t8']; simp [intOf]
    have HMK : Hid _ := hmk
    have HR : Hid _ := hR
    have HNX : Hid _ := hnx
    have hkt : ((k : Int)).toNat = k := by simp
    clear t8 hmk hR hnx
    by_cases hlt : k < 8
    · have hlt' : (k : Int) < 8 := by omega
      have ck : wr.cell? ⟨r, 1 + k, none⟩ = some (.int .i64 ((m).read k)) := mrd k hlt
      have HX : Hid _ := HNX.out
      by_cases hneg : (m).read k < 0
      · have HNEG : Hid _ := hneg
        have HS : Hid _ := seek_no (m).read hlt hneg
        clear mrd
        generalize (m).read k = q at *
        go_wp2_with fail
        go_quiet (fail)
        go_wp2
        go_roundw
        case rel => exact ⟨k + 1, by omega, HS.out.symm.trans HX.out, (HR.out.next hi hs).drewN nq⟩
        case measure =>
          rw [((HR.out.drewN nq).next hi hs).cell hi, HMK.out]
          simp [intOf]
          omega
      · have hpos := Int.not_lt.1 hneg
        have HSC : Hid ((m).scan i (n + 1) = ⟨false, false, 0, ((m).nextIs i (k : Int)).thr i { ((m).nextIs i (k : Int)).ths i with at_ := 10 }⟩) := by
          have e : nextKey (m).read (8 - (n + 1)) (n + 1) = k := HNX.out.symm.trans (seek_yes (m).read hlt hpos)
          unfold M.scan
          rw [e, if_pos hlt]
          rfl
        clear mrd
        generalize (m).read k = q at *
        go_wp2_with fail
        go_quiet (fail)
        go_wp2_with fail
        have h1 := HR.out.at_.drewN nq
        have g1 : (wr.drewN nq).heap[w.heap.size]? = some (.cells #[.bool false, .bool false, .int .i64 0] 52 (0, 0)) := HR.out.box
        have k1 := HR.out.kept.drewN nq
        refine Calls.mono (m_goes h1 hi 10) ?_
        rintro e w2 ⟨rfl, h2, k2⟩
        have r2 := k2.at g1 (by simp; omega)
        have hc2 : ∀ o, w2.cell? ⟨w.heap.size, o, none⟩ = #[.bool false, .bool false, .int .i64 0][o]? := cell_of r2
        have hf2 : ∀ o, w2.frozen? ⟨w.heap.size, o, none⟩ = false := frozen_of r2
        have KK : Hid _ := k1.trans (k2.mono (by simp))
        have H2 : Hid _ := h2
        clear h1 k1 g1 k2 h2 t8'
        simp only [res]
        go_wp2
        refine bodyPost_ret (v := res false false 0) (by simp [results, Tryz.results58, go_sem, res, cell_of (resLaid r2 false false 0)]) rfl ?_
        rw [HSC.out]
        exact ⟨rfl, ⟨sl, H2.out.resLaid r2 false false 0, fun g hg => .inl hg⟩, ((KK.out.setCell (.inr (by simp)) _).setCell (.inr (by simp)) _).setCell (.inr (by simp)) _⟩
    · obtain rfl : k = 8 := by omega
      have hd : decide (((8 : Nat) : Int) < 8) = false := by decide
      have HSC : Hid ((m).scan i (n + 1) = ⟨false, false, 0, ((m).nextIs i ((8 : Nat) : Int)).thr i { ((m).nextIs i ((8 : Nat) : Int)).ths i with at_ := 11 }⟩) := by
        have e : nextKey (m).read (8 - (n + 1)) (n + 1) = 8 := HNX.out.symm
        unfold M.scan
        rw [e, if_neg (by omega)]
        rfl
      clear mrd
      go_wp2_with fail
      go_quiet (fail)
      go_wp2_with fail
      have h1 := HR.out.at_.drewN nq
      have g1 : (wr.drewN nq).heap[w.heap.size]? = some (.cells #[.bool false, .bool false, .int .i64 0] 52 (0, 0)) := HR.out.box
      have k1 := HR.out.kept.drewN nq
      refine Calls.mono (m_goes h1 hi 11) ?_
      rintro e w2 ⟨rfl, h2, k2⟩
      have r2 := k2.at g1 (by simp; omega)
      have hc2 : ∀ o, w2.cell? ⟨w.heap.size, o, none⟩ = #[.bool false, .bool false, .int .i64 0][o]? := cell_of r2
      have hf2 : ∀ o, w2.frozen? ⟨w.heap.size, o, none⟩ = false := frozen_of r2
      have KK : Hid _ := k1.trans (k2.mono (by simp))
      have H2 : Hid _ := h2
      clear h1 k1 g1 k2 h2 t8'
      simp only [res]
      go_wp2
      refine bodyPost_ret (v := res false false 0) (by simp [results, Tryz.results58, go_sem, res, cell_of (resLaid r2 false false 0)]) rfl ?_
      rw [HSC.out]
      exact ⟨rfl, ⟨sl, H2.out.resLaid r2 false false 0, fun g hg => .inl hg⟩, ((KK.out.setCell (.inr (by simp)) _).setCell (.inr (by simp)) _).setCell (.inr (by simp)) _⟩
set_option maxRecDepth 100000 in
set_option maxHeartbeats 1600000 in
theorem s_10_value {r tb : Nat} {sl : Value} {B : Nat} {m : M} {w : World} (h : RefAt r tb sl B m w) {i : Nat} (hi : i < m.nth) (hat : (m.ths i).at_ = 10) (hn0 : 0 ≤ (m.ths i).next) (hn7 : (m.ths i).next < 8) (hr0 : 0 ≤ m.read (m.nxt i)) (hel : (m.read (m.nxt i)).toNat < m.nc) (hx : (m.cells (m.read (m.nxt i)).toNat).st = 0) :
    DoesS 58 #[.pointer (some ⟨r, 0, none⟩), .pointer (some ⟨tb, i * 9, none⟩)] r tb sl B (({ m with dirty := put m.dirty (m.nxt i) (m.read (m.nxt i)) }).scan i (m.nxt i + 1)) w := by
  obtain ⟨hs, hf, -, -, -, -, c4, -, -, -, c8⟩ := h.thCell hi
  obtain ⟨hsr, hfr, c0, crd, -, -, cdt, -⟩ := h.mapCell
  obtain ⟨g, cap, hsl, hg, hgr, hgt, hfg, q0, q1⟩ := h.entry hel
  have hne := h.rne
  have H : Hid _ := h
  have hnl : m.nxt i < 8 := by unfold M.nxt; omega
  have hn9 : m.nxt i + 1 ≤ 8 := by omega
  have hnt : (m.ths i).next.toNat = m.nxt i := rfl
  have hni : (m.ths i).next = ((m.nxt i : Nat) : Int) := by unfold M.nxt; omega
  have ck : w.cell? ⟨r, 1 + m.nxt i, none⟩ = some (.int .i64 (m.read (m.nxt i))) := crd _ hnl
  have dk : w.cell? ⟨r, 11 + m.nxt i, none⟩ = some (.int .i64 (m.dirty (m.nxt i))) := cdt _ hnl
  rw [hat] at c4
  rw [hsl] at c0
  have HSL : Hid _ := hsl
  have hin : m.read (m.nxt i) < (m.nc : Int) := by omega
  have HNI : Hid _ := hni
  have hob : sl.ownBlock = some g := by rw [hsl]; rfl
  have hmem : g ∈ r :: tb :: sl.ownBlock.toList := by rw [hob]; simp
  have HMEM : Hid _ := hmem
  have HEL : Hid _ := hel
  rw [hni] at c8
  have hnn : ((m.nxt i : Nat) : Int) < 8 := by omega
  have hntn : (((m.nxt i : Nat) : Int)).toNat = m.nxt i := by simp
  clear h crd cdt hat hni hn0 hn7 hsl hmem hob hnt hel
  generalize hX : m.read (m.nxt i) = z at *
  generalize hS : (m.cells z.toNat).st = x at *
  generalize hV : (m.cells z.toNat).v = v at *
  generalize hN : m.nxt i = n at *
  have HXX : Hid _ := hX
  have HSS : Hid _ := hS
  have HNN : Hid _ := hN
  clear hX hS hV hN
  subst hx
  go_enter Tryz.func58, Tryz.ntmps58
  go_wp2_with fail
  go_quiet (fail)
  go_wp2_with fail
  go_region
  go_wp2_with fail
  have hM : Seeks r tb sl B ({ m with dirty := put m.dirty n z }) i (n + 1) w ((((w.alloc (.cells #[.bool false, .bool false, .int .i64 0] 52)).drewN (nq + 1)).setCell ⟨r, 11 + n, none⟩ (.int .i64 z)).setCell ⟨tb, i * 9 + 8, none⟩ (.int .i64 ((n : Int) + 1))) := ⟨(((H.out.alloc _).drewN (nq + 1)).setDirty (k := n) hnl z).nextTo hi n, block_set_ne (block_set_ne (blk_drewN' (block_alloc_new w (.cells #[.bool false, .bool false, .int .i64 0] 52)) (nq + 1)) (Nat.ne_of_gt hsr) _ _) (by omega) _ _, ((((Kept.refl _ w).alloc _).drewN (nq + 1)).setCell (.inl (by simp)) _).setCell (.inl (by simp)) _⟩
  clear c4 c8 c0 ck dk q0 q1 hf hfr hfg
  generalize (((w.alloc (.cells #[.bool false, .bool false, .int .i64 0] 52)).drewN (nq + 1)).setCell ⟨r, 11 + n, none⟩ (.int .i64 z)).setCell ⟨tb, i * 9 + 8, none⟩ (.int .i64 ((n : Int) + 1)) = W at *
  go_loopw [] (fun W' => ∃ k : Nat, k ≤ 8 ∧ nextKey ({ m with dirty := put m.dirty n z }).read (8 - k) k = nextKey ({ m with dirty := put m.dirty n z }).read (8 - (n + 1)) (n + 1) ∧ Seeks r tb sl B ({ m with dirty := put m.dirty n z }) i k w W') (fun W' => 8 - (intOf ((W'.cell? ⟨tb, i * 9 + 8, none⟩).getD undef)).toNat)
  case atStart => exact ⟨_, by omega, rfl, hM⟩
  case round =>
    obtain ⟨k, hk, hnx, hR⟩ := hrel
    clear hM
    obtain ⟨ts, tf, -, -, -, -, -, -, -, -, t8⟩ := hR.at_.thCell hi
    obtain ⟨ms, mf, -, mrd, -⟩ := hR.at_.mapCell
    have t8' : wr.cell? ⟨tb, i * 9 + 8, none⟩ = some (.int .i64 (k : Int)) := by rw [t8, M.nextIs, thr_ths]
    have hmk : (intOf ((wr.cell? ⟨tb, i * 9 + 8, none⟩).getD undef)).toNat = k := by rw [t8']; simp [intOf]
    have HMK : Hid _ := hmk
    have HR : Hid _ := hR
    have HNX : Hid _ := hnx
    have hkt : ((k : Int)).toNat = k := by simp
    clear t8 hmk hR hnx
    by_cases hlt : k < 8
    · have hlt' : (k : Int) < 8 := by omega
      have ck : wr.cell? ⟨r, 1 + k, none⟩ = some (.int .i64 (({ m with dirty := put m.dirty n z }).read k)) := mrd k hlt
      have HX : Hid _ := HNX.out
      by_cases hneg : ({ m with dirty := put m.dirty n z }).read k < 0
      · have HNEG : Hid _ := hneg
        have HS : Hid _ := seek_no ({ m with dirty := put m.dirty n z }).read hlt hneg
        clear mrd
        generalize ({ m with dirty := put m.dirty n z }).read k = q at *
        go_wp2_with fail
        go_quiet (fail)
        go_wp2
        go_roundw
        case rel => exact ⟨k + 1, by omega, HS.out.symm.trans HX.out, (HR.out.next hi hs).drewN nq⟩
        case measure =>
          rw [((HR.out.drewN nq).next hi hs).cell hi, HMK.out]
          simp [intOf]
          omega
      · have hpos := Int.not_lt.1 hneg
        have HSC : Hid (({ m with dirty := put m.dirty n z }).scan i (n + 1) = ⟨false, false, 0, (({ m with dirty := put m.dirty n z }).nextIs i (k : Int)).thr i { (({ m with dirty := put m.dirty n z }).nextIs i (k : Int)).ths i with at_ := 10 }⟩) := by
          have e : nextKey ({ m with dirty := put m.dirty n z }).read (8 - (n + 1)) (n + 1) = k := HNX.out.symm.trans (seek_yes ({ m with dirty := put m.dirty n z }).read hlt hpos)
          unfold M.scan
          rw [e, if_pos hlt]
          rfl
        clear mrd
        generalize ({ m with dirty := put m.dirty n z }).read k = q at *
        go_wp2_with fail
        go_quiet (fail)
        go_wp2_with fail
        have h1 := HR.out.at_.drewN nq
        have g1 : (wr.drewN nq).heap[w.heap.size]? = some (.cells #[.bool false, .bool false, .int .i64 0] 52 (0, 0)) := HR.out.box
        have k1 := HR.out.kept.drewN nq
        refine Calls.mono (m_goes h1 hi 10) ?_
        rintro e w2 ⟨rfl, h2, k2⟩
        have r2 := k2.at g1 (by simp; omega)
        have hc2 : ∀ o, w2.cell? ⟨w.heap.size, o, none⟩ = #[.bool false, .bool false, .int .i64 0][o]? := cell_of r2
        have hf2 : ∀ o, w2.frozen? ⟨w.heap.size, o, none⟩ = false := frozen_of r2
        have KK : Hid _ := k1.trans (k2.mono (by simp))
        have H2 : Hid _ := h2
        clear h1 k1 g1 k2 h2 t8'
        simp only [res]
        go_wp2
        refine bodyPost_ret (v := res false false 0) (by simp [results, Tryz.results58, go_sem, res, cell_of (resLaid r2 false false 0)]) rfl ?_
        rw [HSC.out]
        exact ⟨rfl, ⟨sl, H2.out.resLaid r2 false false 0, fun g hg => .inl hg⟩, ((KK.out.setCell (.inr (by simp)) _).setCell (.inr (by simp)) _).setCell (.inr (by simp)) _⟩
    · obtain rfl : k = 8 := by omega
      have hd : decide (((8 : Nat) : Int) < 8) = false := by decide
      have HSC : Hid (({ m with dirty := put m.dirty n z }).scan i (n + 1) = ⟨false, false, 0, (({ m with dirty := put m.dirty n z }).nextIs i ((8 : Nat) : Int)).thr i { (({ m with dirty := put m.dirty n z }).nextIs i ((8 : Nat) : Int)).ths i with at_ := 11 }⟩) := by
        have e : nextKey ({ m with dirty := put m.dirty n z }).read (8 - (n + 1)) (n + 1) = 8 := HNX.out.symm
        unfold M.scan
        rw [e, if_neg (by omega)]
        rfl
      clear mrd
      go_wp2_with fail
      go_quiet (fail)
      go_wp2_with fail
      have h1 := HR.out.at_.drewN nq
      have g1 : (wr.drewN nq).heap[w.heap.size]? = some (.cells #[.bool false, .bool false, .int .i64 0] 52 (0, 0)) := HR.out.box
      have k1 := HR.out.kept.drewN nq
      refine Calls.mono (m_goes h1 hi 11) ?_
      rintro e w2 ⟨rfl, h2, k2⟩
      have r2 := k2.at g1 (by simp; omega)
      have hc2 : ∀ o, w2.cell? ⟨w.heap.size, o, none⟩ = #[.bool false, .bool false, .int .i64 0][o]? := cell_of r2
      have hf2 : ∀ o, w2.frozen? ⟨w.heap.size, o, none⟩ = false := frozen_of r2
      have KK : Hid _ := k1.trans (k2.mono (by simp))
      have H2 : Hid _ := h2
      clear h1 k1 g1 k2 h2 t8'
      simp only [res]
      go_wp2
      refine bodyPost_ret (v := res false false 0) (by simp [results, Tryz.results58, go_sem, res, cell_of (resLaid r2 false false 0)]) rfl ?_
      rw [HSC.out]
      exact ⟨rfl, ⟨sl, H2.out.resLaid r2 false false 0, fun g hg => .inl hg⟩, ((KK.out.setCell (.inr (by simp)) _).setCell (.inr (by simp)) _).setCell (.inr (by simp)) _⟩
set_option maxRecDepth 100000 in
set_option maxHeartbeats 1600000 in
theorem s_10_empty {r tb : Nat} {sl : Value} {B : Nat} {m : M} {w : World} (h : RefAt r tb sl B m w) {i : Nat} (hi : i < m.nth) (hat : (m.ths i).at_ = 10) (hn0 : 0 ≤ (m.ths i).next) (hn7 : (m.ths i).next < 8) (hr0 : 0 ≤ m.read (m.nxt i)) (hel : (m.read (m.nxt i)).toNat < m.nc) (hx : (m.cells (m.read (m.nxt i)).toNat).st = 1) :
    DoesS 58 #[.pointer (some ⟨r, 0, none⟩), .pointer (some ⟨tb, i * 9, none⟩)] r tb sl B (({ m with cells := put m.cells (m.read (m.nxt i)).toNat ⟨2, 0⟩ }).scan i (m.nxt i + 1)) w := by
  obtain ⟨hs, hf, -, -, -, -, c4, -, -, -, c8⟩ := h.thCell hi
  obtain ⟨hsr, hfr, c0, crd, -, -, cdt, -⟩ := h.mapCell
  obtain ⟨g, cap, hsl, hg, hgr, hgt, hfg, q0, q1⟩ := h.entry hel
  have hne := h.rne
  have H : Hid _ := h
  have hnl : m.nxt i < 8 := by unfold M.nxt; omega
  have hn9 : m.nxt i + 1 ≤ 8 := by omega
  have hnt : (m.ths i).next.toNat = m.nxt i := rfl
  have hni : (m.ths i).next = ((m.nxt i : Nat) : Int) := by unfold M.nxt; omega
  have ck : w.cell? ⟨r, 1 + m.nxt i, none⟩ = some (.int .i64 (m.read (m.nxt i))) := crd _ hnl
  have dk : w.cell? ⟨r, 11 + m.nxt i, none⟩ = some (.int .i64 (m.dirty (m.nxt i))) := cdt _ hnl
  rw [hat] at c4
  rw [hsl] at c0
  have HSL : Hid _ := hsl
  have hin : m.read (m.nxt i) < (m.nc : Int) := by omega
  have HNI : Hid _ := hni
  have hob : sl.ownBlock = some g := by rw [hsl]; rfl
  have hmem : g ∈ r :: tb :: sl.ownBlock.toList := by rw [hob]; simp
  have HMEM : Hid _ := hmem
  have HEL : Hid _ := hel
  rw [hni] at c8
  have hnn : ((m.nxt i : Nat) : Int) < 8 := by omega
  have hntn : (((m.nxt i : Nat) : Int)).toNat = m.nxt i := by simp
  clear h crd cdt hat hni hn0 hn7 hsl hmem hob hnt hel
  generalize hX : m.read (m.nxt i) = z at *
  generalize hS : (m.cells z.toNat).st = x at *
  generalize hV : (m.cells z.toNat).v = v at *
  generalize hN : m.nxt i = n at *
  have HXX : Hid _ := hX
  have HSS : Hid _ := hS
  have HNN : Hid _ := hN
  clear hX hS hV hN
  subst hx
  go_enter Tryz.func58, Tryz.ntmps58
  go_wp2_with fail
  go_quiet (fail)
  go_wp2_with fail
  have hM : Seeks r tb sl B ({ m with cells := put m.cells z.toNat ⟨2, 0⟩ }) i (n + 1) w (((((w.alloc (.cells #[.bool false, .bool false, .int .i64 0] 52)).drewN nq).setCell ⟨g, z.toNat * 2, none⟩ (.int .i64 2)).setCell ⟨g, z.toNat * 2 + 1, none⟩ (.int .i64 0)).setCell ⟨tb, i * 9 + 8, none⟩ (.int .i64 ((n : Int) + 1))) := ⟨((((H.out.alloc _).drewN nq).setEntry HSL.out HEL.out 2 0)).nextTo hi n, block_set_ne (block_set_ne (block_set_ne (blk_drewN' (block_alloc_new w (.cells #[.bool false, .bool false, .int .i64 0] 52)) nq) (Nat.ne_of_gt hg) _ _) (Nat.ne_of_gt hg) _ _) (by omega) _ _, (((((Kept.refl _ w).alloc _).drewN nq).setCell (.inl HMEM.out) _).setCell (.inl HMEM.out) _).setCell (.inl (by simp)) _⟩
  clear c4 c8 c0 ck dk q0 q1 hf hfr hfg
  generalize ((((w.alloc (.cells #[.bool false, .bool false, .int .i64 0] 52)).drewN nq).setCell ⟨g, z.toNat * 2, none⟩ (.int .i64 2)).setCell ⟨g, z.toNat * 2 + 1, none⟩ (.int .i64 0)).setCell ⟨tb, i * 9 + 8, none⟩ (.int .i64 ((n : Int) + 1)) = W at *
  go_loopw [] (fun W' => ∃ k : Nat, k ≤ 8 ∧ nextKey ({ m with cells := put m.cells z.toNat ⟨2, 0⟩ }).read (8 - k) k = nextKey ({ m with cells := put m.cells z.toNat ⟨2, 0⟩ }).read (8 - (n + 1)) (n + 1) ∧ Seeks r tb sl B ({ m with cells := put m.cells z.toNat ⟨2, 0⟩ }) i k w W') (fun W' => 8 - (intOf ((W'.cell? ⟨tb, i * 9 + 8, none⟩).getD undef)).toNat)
  case atStart => exact ⟨_, by omega, rfl, hM⟩
  case round =>
    obtain ⟨k, hk, hnx, hR⟩ := hrel
    clear hM
    obtain ⟨ts, tf, -, -, -, -, -, -, -, -, t8⟩ := hR.at_.thCell hi
    obtain ⟨ms, mf, -, mrd, -⟩ := hR.at_.mapCell
    have t8' : wr.cell? ⟨tb, i * 9 + 8, none⟩ = some (.int .i64 (k : Int)) := by rw [t8, M.nextIs, thr_ths]
    have hmk : (intOf ((wr.cell? ⟨tb, i * 9 + 8, none⟩).getD undef)).toNat = k := by rw [t8']; simp [intOf]
    have HMK : Hid _ := hmk
    have HR : Hid _ := hR
    have HNX : Hid _ := hnx
    have hkt : ((k : Int)).toNat = k := by simp
    clear t8 hmk hR hnx
    by_cases hlt : k < 8
    · have hlt' : (k : Int) < 8 := by omega
      have ck : wr.cell? ⟨r, 1 + k, none⟩ = some (.int .i64 (({ m with cells := put m.cells z.toNat ⟨2, 0⟩ }).read k)) := mrd k hlt
      have HX : Hid _ := HNX.out
      by_cases hneg : ({ m with cells := put m.cells z.toNat ⟨2, 0⟩ }).read k < 0
      · have HNEG : Hid _ := hneg
        have HS : Hid _ := seek_no ({ m with cells := put m.cells z.toNat ⟨2, 0⟩ }).read hlt hneg
        clear mrd
        generalize ({ m with cells := put m.cells z.toNat ⟨2, 0⟩ }).read k = q at *
        go_wp2_with fail
        go_quiet (fail)
        go_wp2
        go_roundw
        case rel => exact ⟨k + 1, by omega, HS.out.symm.trans HX.out, (HR.out.next hi hs).drewN nq⟩
        case measure =>
          rw [((HR.out.drewN nq).next hi hs).cell hi, HMK.out]
          simp [intOf]
          omega
      · have hpos := Int.not_lt.1 hneg
        have HSC : Hid (({ m with cells := put m.cells z.toNat ⟨2, 0⟩ }).scan i (n + 1) = ⟨false, false, 0, (({ m with cells := put m.cells z.toNat ⟨2, 0⟩ }).nextIs i (k : Int)).thr i { (({ m with cells := put m.cells z.toNat ⟨2, 0⟩ }).nextIs i (k : Int)).ths i with at_ := 10 }⟩) := by
          have e : nextKey ({ m with cells := put m.cells z.toNat ⟨2, 0⟩ }).read (8 - (n + 1)) (n + 1) = k := HNX.out.symm.trans (seek_yes ({ m with cells := put m.cells z.toNat ⟨2, 0⟩ }).read hlt hpos)
          unfold M.scan
          rw [e, if_pos hlt]
          rfl
        clear mrd
        generalize ({ m with cells := put m.cells z.toNat ⟨2, 0⟩ }).read k = q at *
        go_wp2_with fail
        go_quiet (fail)
        go_wp2_with fail
        have h1 := HR.out.at_.drewN nq
        have g1 : (wr.drewN nq).heap[w.heap.size]? = some (.cells #[.bool false, .bool false, .int .i64 0] 52 (0, 0)) := HR.out.box
        have k1 := HR.out.kept.drewN nq
        refine Calls.mono (m_goes h1 hi 10) ?_
        rintro e w2 ⟨rfl, h2, k2⟩
        have r2 := k2.at g1 (by simp; omega)
        have hc2 : ∀ o, w2.cell? ⟨w.heap.size, o, none⟩ = #[.bool false, .bool false, .int .i64 0][o]? := cell_of r2
        have hf2 : ∀ o, w2.frozen? ⟨w.heap.size, o, none⟩ = false := frozen_of r2
        have KK : Hid _ := k1.trans (k2.mono (by simp))
        have H2 : Hid _ := h2
        clear h1 k1 g1 k2 h2 t8'
        simp only [res]
        go_wp2
        refine bodyPost_ret (v := res false false 0) (by simp [results, Tryz.results58, go_sem, res, cell_of (resLaid r2 false false 0)]) rfl ?_
        rw [HSC.out]
        exact ⟨rfl, ⟨sl, H2.out.resLaid r2 false false 0, fun g hg => .inl hg⟩, ((KK.out.setCell (.inr (by simp)) _).setCell (.inr (by simp)) _).setCell (.inr (by simp)) _⟩
    · obtain rfl : k = 8 := by omega
      have hd : decide (((8 : Nat) : Int) < 8) = false := by decide
      have HSC : Hid (({ m with cells := put m.cells z.toNat ⟨2, 0⟩ }).scan i (n + 1) = ⟨false, false, 0, (({ m with cells := put m.cells z.toNat ⟨2, 0⟩ }).nextIs i ((8 : Nat) : Int)).thr i { (({ m with cells := put m.cells z.toNat ⟨2, 0⟩ }).nextIs i ((8 : Nat) : Int)).ths i with at_ := 11 }⟩) := by
        have e : nextKey ({ m with cells := put m.cells z.toNat ⟨2, 0⟩ }).read (8 - (n + 1)) (n + 1) = 8 := HNX.out.symm
        unfold M.scan
        rw [e, if_neg (by omega)]
        rfl
      clear mrd
      go_wp2_with fail
      go_quiet (fail)
      go_wp2_with fail
      have h1 := HR.out.at_.drewN nq
      have g1 : (wr.drewN nq).heap[w.heap.size]? = some (.cells #[.bool false, .bool false, .int .i64 0] 52 (0, 0)) := HR.out.box
      have k1 := HR.out.kept.drewN nq
      refine Calls.mono (m_goes h1 hi 11) ?_
      rintro e w2 ⟨rfl, h2, k2⟩
      have r2 := k2.at g1 (by simp; omega)
      have hc2 : ∀ o, w2.cell? ⟨w.heap.size, o, none⟩ = #[.bool false, .bool false, .int .i64 0][o]? := cell_of r2
      have hf2 : ∀ o, w2.frozen? ⟨w.heap.size, o, none⟩ = false := frozen_of r2
      have KK : Hid _ := k1.trans (k2.mono (by simp))
      have H2 : Hid _ := h2
      clear h1 k1 g1 k2 h2 t8'
      simp only [res]
      go_wp2
      refine bodyPost_ret (v := res false false 0) (by simp [results, Tryz.results58, go_sem, res, cell_of (resLaid r2 false false 0)]) rfl ?_
      rw [HSC.out]
      exact ⟨rfl, ⟨sl, H2.out.resLaid r2 false false 0, fun g hg => .inl hg⟩, ((KK.out.setCell (.inr (by simp)) _).setCell (.inr (by simp)) _).setCell (.inr (by simp)) _⟩
end Go.Proofs.YtmnkphenobfbfaaGreat
namespace Go.Proofs.YtmnkphenobfbfaaGreat
open Go.RowKit
set_option maxRecDepth 100000 in
set_option maxHeartbeats 800000 in
theorem s_9c {r tb : Nat} {sl : Value} {B : Nat} {m : M} {w : World} (h : RefAt r tb sl B m w) {i : Nat} (hi : i < m.nth) (hat : (m.ths i).at_ = 9) (o : Out)
    (run : ∀ W, RefAt r tb sl B m W → DoesS 58 #[.pointer (some ⟨r, 0, none⟩), .pointer (some ⟨tb, i * 9, none⟩)] r tb sl B o W) :
    DoesS 37 #[.pointer (some ⟨r, 0, none⟩), .pointer (some ⟨tb, i * 9, none⟩)] r tb sl B o w := by
  obtain ⟨hs, hf, -, c1, c2, -, c4, -⟩ := h.thCell hi
  obtain ⟨hsr, -⟩ := h.mapCell
  have hnot := fun (b : Nat) (cs : Array Value) (t : TypeId) (W : World) (H : RefAt r tb sl B m W) (hb : W.heap[b]? = some (.cells cs t (0, 0))) (ht : t ≠ 88) => H.notOwn hb ht
  have H : Hid _ := h
  have HN : Hid _ := hnot
  have RUN : Hid _ := run
  rw [hat] at c4
  clear h hat run hnot
  generalize (m.ths i).val = y at *
  generalize (m.ths i).key = k at *
  go_enter Tryz.func37, Tryz.ntmps37
  go_wp2_with fail
  have h1 := (H.out.alloc (.cells #[.bool false, .bool false, .int .i64 0] 52)).alloc (.cells #[Value.int .i64 0, .int .i64 y] 88)
  have g1 := two (w1 := w) (w := w) rfl (.cells #[.bool false, .bool false, .int .i64 0] 52) (.cells #[Value.int .i64 0, .int .i64 y] 88)
  have k1 := ((Kept.refl (r :: tb :: sl.ownBlock.toList) w).alloc (.cells #[.bool false, .bool false, .int .i64 0] 52)).alloc (.cells #[Value.int .i64 0, .int .i64 y] 88)
  refine Calls.mono (RUN.out _ h1) ?_
  rintro e w2 ⟨rfl, ⟨sl', h2, hq⟩, k2⟩
  have r2 := k2.at g1 (by
    simp only [List.mem_cons, not_or]
    exact ⟨by omega, by omega, HN.out _ _ _ _ h1 g1 (by simp)⟩)
  have hc2 : ∀ o, w2.cell? ⟨w.heap.size, o, none⟩ = #[.bool false, .bool false, .int .i64 0][o]? := cell_of r2
  have hf2 : ∀ o, w2.frozen? ⟨w.heap.size, o, none⟩ = false := frozen_of r2
  have KK : Hid _ := k1.trans k2
  have H2 : Hid _ := h2
  have HQ : Hid (∀ g, sl'.ownBlock = some g → sl.ownBlock = some g ∨ w.heap.size ≤ g) := fun g hg => (hq g hg).imp id fun q => by simp only [World.size_alloc] at q; omega
  clear h1 k1 g1 k2 h2 hq
  simp only [Out.val, res]
  go_wp2
  refine bodyPost_ret (v := res o.d o.f o.v) (by simp [results, Tryz.results37, go_sem, res, cell_of (resLaid r2 o.d o.f o.v)]) rfl ⟨rfl, ⟨sl', H2.out.resLaid r2 o.d o.f o.v, HQ.out⟩, ?_⟩
  exact ((KK.out.setCell (.inr (by simp)) _).setCell (.inr (by simp)) _).setCell (.inr (by simp)) _
set_option maxRecDepth 100000 in
set_option maxHeartbeats 800000 in
theorem s_10c {r tb : Nat} {sl : Value} {B : Nat} {m : M} {w : World} (h : RefAt r tb sl B m w) {i : Nat} (hi : i < m.nth) (hat : (m.ths i).at_ = 10) (o : Out)
    (run : ∀ W, RefAt r tb sl B m W → DoesS 58 #[.pointer (some ⟨r, 0, none⟩), .pointer (some ⟨tb, i * 9, none⟩)] r tb sl B o W) :
    DoesS 37 #[.pointer (some ⟨r, 0, none⟩), .pointer (some ⟨tb, i * 9, none⟩)] r tb sl B o w := by
  obtain ⟨hs, hf, -, c1, c2, -, c4, -⟩ := h.thCell hi
  obtain ⟨hsr, -⟩ := h.mapCell
  have hnot := fun (b : Nat) (cs : Array Value) (t : TypeId) (W : World) (H : RefAt r tb sl B m W) (hb : W.heap[b]? = some (.cells cs t (0, 0))) (ht : t ≠ 88) => H.notOwn hb ht
  have H : Hid _ := h
  have HN : Hid _ := hnot
  have RUN : Hid _ := run
  rw [hat] at c4
  clear h hat run hnot
  generalize (m.ths i).val = y at *
  generalize (m.ths i).key = k at *
  go_enter Tryz.func37, Tryz.ntmps37
  go_wp2_with fail
  have h1 := (H.out.alloc (.cells #[.bool false, .bool false, .int .i64 0] 52)).alloc (.cells #[Value.int .i64 0, .int .i64 y] 88)
  have g1 := two (w1 := w) (w := w) rfl (.cells #[.bool false, .bool false, .int .i64 0] 52) (.cells #[Value.int .i64 0, .int .i64 y] 88)
  have k1 := ((Kept.refl (r :: tb :: sl.ownBlock.toList) w).alloc (.cells #[.bool false, .bool false, .int .i64 0] 52)).alloc (.cells #[Value.int .i64 0, .int .i64 y] 88)
  refine Calls.mono (RUN.out _ h1) ?_
  rintro e w2 ⟨rfl, ⟨sl', h2, hq⟩, k2⟩
  have r2 := k2.at g1 (by
    simp only [List.mem_cons, not_or]
    exact ⟨by omega, by omega, HN.out _ _ _ _ h1 g1 (by simp)⟩)
  have hc2 : ∀ o, w2.cell? ⟨w.heap.size, o, none⟩ = #[.bool false, .bool false, .int .i64 0][o]? := cell_of r2
  have hf2 : ∀ o, w2.frozen? ⟨w.heap.size, o, none⟩ = false := frozen_of r2
  have KK : Hid _ := k1.trans k2
  have H2 : Hid _ := h2
  have HQ : Hid (∀ g, sl'.ownBlock = some g → sl.ownBlock = some g ∨ w.heap.size ≤ g) := fun g hg => (hq g hg).imp id fun q => by simp only [World.size_alloc] at q; omega
  clear h1 k1 g1 k2 h2 hq
  simp only [Out.val, res]
  go_wp2
  refine bodyPost_ret (v := res o.d o.f o.v) (by simp [results, Tryz.results37, go_sem, res, cell_of (resLaid r2 o.d o.f o.v)]) rfl ⟨rfl, ⟨sl', H2.out.resLaid r2 o.d o.f o.v, HQ.out⟩, ?_⟩
  exact ((KK.out.setCell (.inr (by simp)) _).setCell (.inr (by simp)) _).setCell (.inr (by simp)) _
/-- A step of Store. -/
theorem does_store {r tb : Nat} {sl : Value} {B : Nat} {m : M} {w : World} (h : RefAt r tb sl B m w) (hI : m.Inv) {i : Nat} (hi : i < m.nth) (ho : ThOk m (m.ths i)) (hk : (m.ths i).kind = 1) (h4 : ¬ (m.ths i).at_ = 4) (hnc : m.nc < 1000000) (hB : B ≤ w.heap.size) :
    DoesS 37 #[.pointer (some ⟨r, 0, none⟩), .pointer (some ⟨tb, i * 9, none⟩)] r tb sl B (m.store i) w := by
  have hak := ho.ak
  have hop := ho.op
  unfold OpOk at hop
  have hk0 : 0 ≤ (m.ths i).key := hop.2.2.1
  have hk7 : (m.ths i).key < 8 := by omega
  have hE : NeedsE (m.ths i).kind (m.ths i).at_ → 0 ≤ (m.ths i).e ∧ (m.ths i).e.toNat < m.nc := fun q => ⟨ho.ne q, by have := ho.ne q; have := ho.e.2; omega⟩
  have ha : (m.ths i).at_ = 1 ∨ (m.ths i).at_ = 2 ∨ (m.ths i).at_ = 3 ∨ (m.ths i).at_ = 5 ∨ (m.ths i).at_ = 6 ∨ (m.ths i).at_ = 7 ∨ (m.ths i).at_ = 8 ∨ (m.ths i).at_ = 9 ∨ (m.ths i).at_ = 10 ∨ (m.ths i).at_ = 11 ∨ (m.ths i).at_ = 12 ∨ (m.ths i).at_ = 13 ∨ (m.ths i).at_ = 14 := by
    have : 1 ≤ (m.ths i).at_ ∧ (m.ths i).at_ ≤ 14 := by simpa [AtOk, hk] using hak
    omega
  rcases ha with e | e | e | e | e | e | e | e | e | e | e | e | e
  · by_cases hr : m.read (m.key i) < 0
    · rw [show m.store i = (m.sets i (m.read (m.key i))).goes i 4 by simp [M.store, e, hr]]
      exact (s_1_no h hi hk0 hk7 e hr).s
    · rw [show m.store i = (m.sets i (m.read (m.key i))).goes i 2 by simp [M.store, e, hr]]
      exact (s_1_in h hi hk0 hk7 e (Int.not_lt.1 hr)).s
  · obtain ⟨a, b⟩ := hE (by simp [NeedsE, hk, e])
    by_cases hr : (m.cells (m.ths i).e.toNat).st = 2
    · rw [show m.store i = (m.sees i (m.cells (m.ths i).e.toNat).st (m.cells (m.ths i).e.toNat).v).goes i 4 by simp [M.store, e, hr]]
      exact (s_2_out h hi a b e hr).s
    · rw [show m.store i = (m.sees i (m.cells (m.ths i).e.toNat).st (m.cells (m.ths i).e.toNat).v).goes i 3 by simp [M.store, e, hr]]
      exact (s_2_on h hi a b e hr).s
  · obtain ⟨a, b⟩ := hE (by simp [NeedsE, hk, e])
    by_cases hr : (m.cells (m.ths i).e.toNat).st = (m.ths i).sst ∧ (m.cells (m.ths i).e.toNat).v = (m.ths i).sv
    · rw [show m.store i = { m with cells := put m.cells (m.ths i).e.toNat ⟨0, (m.ths i).val⟩ }.ends i true (m.ths i).val by simp [M.store, e, hr]]
      exact s_3_yes h hi a b e hr.1 hr.2
    · rw [show m.store i = m.goes i 2 by simp [M.store, e, hr]]
      exact (s_3_no h hi a b e hr).s
  · by_cases hr : m.read (m.key i) < 0
    · rw [show m.store i = (m.sets i (m.read (m.key i))).goes i 8 by simp [M.store, e, hr]]
      exact (s_5_no h hi hk0 hk7 e hr).s
    · rw [show m.store i = (m.sets i (m.read (m.key i))).goes i 6 by simp [M.store, e, hr]]
      exact (s_5_in h hi hk0 hk7 e (Int.not_lt.1 hr)).s
  · obtain ⟨a, b⟩ := hE (by simp [NeedsE, hk, e])
    by_cases hr : (m.cells (m.ths i).e.toNat).st = 2
    · rw [show m.store i = { m with cells := put m.cells (m.ths i).e.toNat ⟨1, 0⟩ }.goes i 7 by simp [M.store, e, hr]]
      exact s_6_on h hi a b e hr
    · rw [show m.store i = m.goes i 13 by simp [M.store, e, hr]]
      exact (s_6_out h hi a b e hr).s
  · rw [show m.store i = { m with dirty := put m.dirty (m.key i) (m.ths i).e }.goes i 13 by simp [M.store, e]]
    exact (s_7 h hi hk0 hk7 e).s
  · by_cases hr : m.dirty (m.key i) < 0
    · by_cases ha : m.am = true
      · rw [show m.store i = (m.sets i (m.dirty (m.key i))).goes i 12 by simp [M.store, e, hr, ha]]
        exact (s_8_am h hi hk0 hk7 e hr ha).s
      · have ha' : m.am = false := by simpa using ha
        rw [show m.store i = (m.sets i (m.dirty (m.key i))).goes i 9 by simp [M.store, e, hr, ha']]
        exact (s_8_no h hi hk0 hk7 e hr ha').s
    · rw [show m.store i = (m.sets i (m.dirty (m.key i))).goes i 13 by simp [M.store, e, hr]]
      exact (s_8_in h hi hk0 hk7 e (Int.not_lt.1 hr)).s
  · rw [show m.store i = { m with hd := true, dirty := fun _ => -1 }.scan i 0 by simp [M.store, e]]
    exact s_9c h hi e _ fun W hW => s_9 hW hi e
  · have hnx := ho.nx hk e
    have hel : (m.read (m.nxt i)).toNat < m.nc := by
      have := hI.rd (m.nxt i) (by unfold M.nxt; omega)
      have h0 : 0 ≤ m.read (m.nxt i) := hnx.2.2
      omega
    rw [show m.store i = (m.copied i).scan i (m.nxt i + 1) by simp [M.store, e]]
    refine s_10c h hi e _ fun W hW => ?_
    by_cases a0 : (m.cells (m.read (m.nxt i)).toNat).st = 0
    · rw [show m.copied i = { m with dirty := put m.dirty (m.nxt i) (m.read (m.nxt i)) } by unfold M.copied; rw [if_pos a0]]
      exact s_10_value hW hi e hnx.1 hnx.2.1 hnx.2.2 hel a0
    · by_cases a1 : (m.cells (m.read (m.nxt i)).toNat).st = 1
      · rw [show m.copied i = { m with cells := put m.cells (m.read (m.nxt i)).toNat ⟨2, 0⟩ } by unfold M.copied; rw [if_neg a0, if_pos a1]]
        exact s_10_empty hW hi e hnx.1 hnx.2.1 hnx.2.2 hel a1
      · rw [show m.copied i = m by unfold M.copied; rw [if_neg a0, if_neg a1]]
        exact s_10_gone hW hi e hnx.1 hnx.2.1 hnx.2.2 hel a0 a1
  · rw [show m.store i = { m with am := true }.goes i 12 by simp [M.store, e]]
    exact (s_11 h hi e).s
  · rw [show m.store i = { m.adds 0 (m.ths i).val with dirty := put m.dirty (m.key i) m.nc }.goes i 14 by simp [M.store, e]]
    exact s_12 h hi hk0 hk7 e hnc hB
  · obtain ⟨a, b⟩ := hE (by simp [NeedsE, hk, e])
    rw [show m.store i = { m with cells := put m.cells (m.ths i).e.toNat ⟨0, (m.ths i).val⟩ }.goes i 14 by simp [M.store, e]]
    exact s_13 h hi a b e
  · rw [show m.store i = { m with hol := -1 }.ends i true (m.ths i).val by simp [M.store, e]]
    exact (s_14 h hi e).s
end Go.Proofs.YtmnkphenobfbfaaGreat
