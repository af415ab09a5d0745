import Derived.Test.YtmnkphenobfbfaaGreatXs
import Derived.Test.YtmnkphenobfbfaaGreatGf
namespace Go.Proofs.YtmnkphenobfbfaaGreat
open Go.RowKit
/-- What neither new memory nor a result's box turns. -/
structure Stab (A : World → Prop) : Prop where
  keep : ∀ W W', A W → Kept [] W W' → A W'
  box : ∀ W b cs o v, A W → W.heap[b]? = some (.cells cs 52 (0, 0)) → A (W.setCell ⟨b, o, none⟩ v)
theorem Stab.set3 {A : World → Prop} (sA : Stab A) {W : World} (h : A W) {r : Nat} {cs : Array Value} (hr : W.heap[r]? = some (.cells cs 52 (0, 0))) (v0 v1 v2 : Value) : A (((W.setCell ⟨r, 0, none⟩ v0).setCell ⟨r, 1, none⟩ v1).setCell ⟨r, 2, none⟩ v2) :=
  sA.box _ _ _ _ _ (sA.box _ _ _ _ _ (sA.box _ _ _ _ _ h hr) (block_set_same hr 0 v0)) (block_set_same (block_set_same hr 0 v0) 1 v1)
set_option maxRecDepth 100000 in
set_option maxHeartbeats 2000000 in
theorem does_step_gen (b pm r : Nat) (x0 i y0 y1 y2 y3 : Int) (d f : Bool) (v er : Int) (F G : List Nat) (A C : World → Prop) (w : World)
    (hb : w.heap[b]? = some (.cells #[.pointer (some ⟨pm, 0, none⟩), .pointer (some ⟨r, 0, none⟩)] 47 (0, 0))) (hFb : b ∉ F) (hGb : b ∉ G) (hFn : ∀ x, x ∈ F → x < w.heap.size) (hGn : ∀ x, x ∈ G → x < w.heap.size) (sA : Stab A) (sC : Stab C)
    (run1 : ∀ W, Kept [] w W → Calls Tryz.prog 18 #[.pointer (some ⟨pm, 0, none⟩), .int .i64 i] W fun e w' => e = .returned (ans d f v er) ∧ A w' ∧ Kept F W w')
    (run2 : ∀ W, A W → Kept F w W → Calls Tryz.prog 19 #[.pointer (some ⟨r, 0, none⟩), .int .i64 i] W fun e w' => e = .returned (ans d f v er) ∧ C w' ∧ Kept G W w') :
    Calls Tryz.prog 9 #[.pointer (some ⟨b, 0, none⟩), .agg #[Value.int .i64 3, .int .i64 x0, .int .i64 i, .int .i64 y0, .int .i64 y1, .int .i64 y2, .int .i64 y3]] w fun e w' => e = .returned (.bool true) ∧ C w' ∧ Kept (F ++ G) w w' := by
  have hs := lt_of_block hb
  have h0 := block_alloc_lt hb (.cells #[Value.int .i64 3, .int .i64 x0, .int .i64 i, .int .i64 y0, .int .i64 y1, .int .i64 y2, .int .i64 y3] 34)
  have ho := block_alloc_new w (.cells #[Value.int .i64 3, .int .i64 x0, .int .i64 i, .int .i64 y0, .int .i64 y1, .int .i64 y2, .int .i64 y3] 34)
  have hK : Kept [] w (w.alloc (.cells #[Value.int .i64 3, .int .i64 x0, .int .i64 i, .int .i64 y0, .int .i64 y1, .int .i64 y2, .int .i64 y3] 34)) := (Kept.refl _ w).alloc _
  go_enter Tryz.func9, Tryz.ntmps9
  go_wp2_with fail
  generalize (w.alloc (.cells #[Value.int .i64 3, .int .i64 x0, .int .i64 i, .int .i64 y0, .int .i64 y1, .int .i64 y2, .int .i64 y3] 34)) = W0 at *
  have d0 : W0.cell? ⟨b, 0, none⟩ = some (.pointer (some ⟨pm, 0, none⟩)) := cell_of h0 0
  have d2 : W0.cell? ⟨w.heap.size, 2, none⟩ = some (.int .i64 i) := cell_of ho 2
  have zb0 := lt_of_block h0
  have zo0 := lt_of_block ho
  have hFw : w.heap.size ∉ F := fun hx => Nat.lt_irrefl _ (hFn _ hx)
  have hGw : w.heap.size ∉ G := fun hx => Nat.lt_irrefl _ (hGn _ hx)
  have hw0 := hK.size
  have farF : ∀ b', W0.heap.size ≤ b' → b' ∉ F := fun b' hb' hm => by have := hFn b' hm; omega
  have L : ∀ W, Kept [] W0 W → Calls Tryz.prog 18 #[.pointer (some ⟨pm, 0, none⟩), .int .i64 i] W fun e w' => e = .returned (.tuple #[.agg #[.bool d, .bool f, .int .i64 v], .int .i64 er]) ∧
      (A w' ∧ Kept F W w' ∧ Kept F W0 w' ∧ w'.heap[w.heap.size]? = some (.cells #[Value.int .i64 3, .int .i64 x0, .int .i64 i, .int .i64 y0, .int .i64 y1, .int .i64 y2, .int .i64 y3] 34 (0, 0)) ∧ w'.heap[b]? = some (.cells #[.pointer (some ⟨pm, 0, none⟩), .pointer (some ⟨r, 0, none⟩)] 47 (0, 0))) ∧ w'.cell? ⟨b, 0, none⟩ = some (.pointer (some ⟨pm, 0, none⟩)) ∧ w'.cell? ⟨w.heap.size, 2, none⟩ = some (.int .i64 i) ∧ b < w'.heap.size ∧ w.heap.size < w'.heap.size ∧
      (∀ b' o, W0.heap.size ≤ b' → b' < W.heap.size → w'.cell? ⟨b', o, none⟩ = W.cell? ⟨b', o, none⟩) ∧ (∀ b' o, W0.heap.size ≤ b' → b' < W.heap.size → w'.frozen? ⟨b', o, none⟩ = W.frozen? ⟨b', o, none⟩) := by
    intro W hW
    refine (run1 W (hK.trans hW)).mono ?_
    rintro e w' ⟨rfl, hp, k'⟩
    have hOb := k'.at (hW.at ho (by simp)) hFw
    have hBb := k'.at (hW.at h0 (by simp)) hFb
    exact ⟨rfl, ⟨hp, k', (hW.mono (by simp)).trans k', hOb, hBb⟩, cell_of hBb 0, cell_of hOb 2, lt_of_block hBb, lt_of_block hOb, fun b' o h1 h2 => (k'.far h2 (farF b' h1)).1, fun b' o h1 h2 => (k'.far h2 (farF b' h1)).2⟩
  have HL : Hid _ := L
  have n1 : W0.heap.size ≠ b := by omega
  have n2 : W0.heap.size ≠ w.heap.size := by omega
  have HR2 : Hid _ := run2
  have HSA : Hid _ := sA
  have HSC : Hid _ := sC
  clear L run1 run2 sA sC
  go_cut [6, 7] (fun x y w' => ∃ rb : Nat, x = .pointer (some ⟨rb, 0, none⟩) ∧ y = .int .i64 er ∧ w'.heap[rb]? = some (.cells #[Value.bool d, .bool f, .int .i64 v] 52 (0, 0)) ∧
    w'.heap[w.heap.size]? = some (.cells #[Value.int .i64 3, .int .i64 x0, .int .i64 i, .int .i64 y0, .int .i64 y1, .int .i64 y2, .int .i64 y3] 34 (0, 0)) ∧ w'.heap[b]? = some (.cells #[.pointer (some ⟨pm, 0, none⟩), .pointer (some ⟨r, 0, none⟩)] 47 (0, 0)) ∧ A w' ∧ Kept F W0 w' ∧ W0.heap.size ≤ rb)
  case first =>
    go_region_held3 (fun w' => w'.cell? ⟨b, 0, none⟩ = some (.pointer (some ⟨pm, 0, none⟩)) ∧ w'.cell? ⟨w.heap.size, 2, none⟩ = some (.int .i64 i))
      (first | (refine ⟨?_, ?_⟩ <;> first | (rw [World.cell?_alloc_lt _ _ _ (by assumption)]; assumption) | (rw [cell_drew, World.cell?_alloc_lt _ _ _ (by assumption)]; assumption) | (rw [cell_set3 n1]; exact g0) | (rw [cell_set3 n2]; exact g2)) | exact ⟨g0, g2⟩ | exact ⟨d0, d2⟩)
      (first | (go_at_call 18; refine (HL.out _ (by first | exact (Kept.refl _ _).drew | exact ((Kept.refl _ _).drew).alloc _)).mono ?_; rintro e w' ⟨rfl, hm, g0, g2, zb, zo, gc, gf⟩))
    · go_wp2_with fail
      go_meet
      obtain ⟨hm1, hm2, hm3, hm4, hm5⟩ := hm
      exact ⟨_, rfl, rfl, block_alloc_new _ _, block_alloc_lt hm4 _, block_alloc_lt hm5 _, HSA.out.keep _ _ hm1 ((Kept.refl [] w').alloc _), hm3.alloc _, hm3.size⟩
    · go_wp2_with fail
      go_meet
      obtain ⟨hm1, hm2, hm3, hm4, hm5⟩ := hm
      have hrb : w'.heap[W0.heap.size]? = some (.cells #[.bool false, .bool false, .int .i64 0] 52 (0, 0)) :=
        hm2.at (block_alloc_new W0 _) (farF _ (Nat.le_refl _))
      exact ⟨_, rfl, rfl, block_same3 hrb _ _ _, block_set3 hm4 (by omega) _ _ _, block_set3 hm5 (by omega) _ _ _, HSA.out.set3 hm1 hrb _ _ _, hm3.set3 (.inr (Nat.le_refl _)) _ _ _, Nat.le_refl _⟩
  case rest =>
    obtain ⟨rb, rfl, rfl, hrb, hob, hbb, hA, hK1, hzr⟩ := hcut
    clear HL d0 d2 n1 n2 zb0 zo0
    have d0 : wc.cell? ⟨b, 1, none⟩ = some (.pointer (some ⟨r, 0, none⟩)) := cell_of hbb 1
    have d2 : wc.cell? ⟨w.heap.size, 2, none⟩ = some (.int .i64 i) := cell_of hob 2
    have zb0 := lt_of_block hbb
    have zo0 := lt_of_block hob
    have zr0 := lt_of_block hrb
    have hw1 : w.heap.size ≤ wc.heap.size := Nat.le_trans hw0 hK1.size
    have farG : ∀ b', w.heap.size ≤ b' → b' ∉ G := fun b' hb' hm => by have := hGn b' hm; omega
    have kF : Kept F w wc := (hK.mono (by simp)).trans hK1
    have L : ∀ W, Kept [] wc W → Calls Tryz.prog 19 #[.pointer (some ⟨r, 0, none⟩), .int .i64 i] W fun e w' => e = .returned (.tuple #[.agg #[.bool d, .bool f, .int .i64 v], .int .i64 er]) ∧
        (C w' ∧ Kept G W w' ∧ Kept G wc w' ∧ w'.heap[rb]? = some (.cells #[Value.bool d, .bool f, .int .i64 v] 52 (0, 0))) ∧ w'.cell? ⟨b, 1, none⟩ = some (.pointer (some ⟨r, 0, none⟩)) ∧ w'.cell? ⟨w.heap.size, 2, none⟩ = some (.int .i64 i) ∧ b < w'.heap.size ∧ w.heap.size < w'.heap.size ∧
        (∀ b' o, wc.heap.size ≤ b' → b' < W.heap.size → w'.cell? ⟨b', o, none⟩ = W.cell? ⟨b', o, none⟩) ∧ (∀ b' o, wc.heap.size ≤ b' → b' < W.heap.size → w'.frozen? ⟨b', o, none⟩ = W.frozen? ⟨b', o, none⟩) := by
      intro W hW
      refine (HR2.out W (HSA.out.keep _ _ hA hW) (kF.trans (hW.mono (by simp)))).mono ?_
      rintro e w' ⟨rfl, hq, k'⟩
      have hOb := k'.at (hW.at hob (by simp)) hGw
      have hBb := k'.at (hW.at hbb (by simp)) hGb
      have hRb := k'.at (hW.at hrb (by simp)) (farG rb (by omega))
      exact ⟨rfl, ⟨hq, k', (hW.mono (by simp)).trans k', hRb⟩, cell_of hBb 1, cell_of hOb 2, lt_of_block hBb, lt_of_block hOb, fun b' o h1 h2 => (k'.far h2 (farG b' (by omega))).1, fun b' o h1 h2 => (k'.far h2 (farG b' (by omega))).2⟩
    have HL : Hid _ := L
    have n1 : wc.heap.size ≠ b := by omega
    have n2 : wc.heap.size ≠ w.heap.size := by omega
    have KF : Hid _ := kF
    clear L kF
    go_wp2_with fail
    go_cut [8, 9] (fun x y w' => ∃ rc : Nat, x = .pointer (some ⟨rc, 0, none⟩) ∧ y = .int .i64 er ∧ w'.heap[rc]? = some (.cells #[Value.bool d, .bool f, .int .i64 v] 52 (0, 0)) ∧ w'.heap[rb]? = some (.cells #[Value.bool d, .bool f, .int .i64 v] 52 (0, 0)) ∧ C w' ∧ Kept G wc w')
    case first =>
      go_region_held3 (fun w' => w'.cell? ⟨b, 1, none⟩ = some (.pointer (some ⟨r, 0, none⟩)) ∧ w'.cell? ⟨w.heap.size, 2, none⟩ = some (.int .i64 i))
        (first | (refine ⟨?_, ?_⟩ <;> first | (rw [World.cell?_alloc_lt _ _ _ (by assumption)]; assumption) | (rw [cell_drew, World.cell?_alloc_lt _ _ _ (by assumption)]; assumption) | (rw [cell_set3 n1]; exact g0) | (rw [cell_set3 n2]; exact g2)) | exact ⟨g0, g2⟩ | exact ⟨d0, d2⟩)
        (first | (go_at_call 19; refine (HL.out _ (by first | exact (Kept.refl _ _).drew | exact ((Kept.refl _ _).drew).alloc _)).mono ?_; rintro e w' ⟨rfl, hm, g0, g2, zb, zo, gc, gf⟩))
      · go_wp2_with fail
        go_meet
        obtain ⟨hm1, hm2, hm3, hm5⟩ := hm
        exact ⟨_, rfl, rfl, block_alloc_new _ _, block_alloc_lt hm5 _, HSC.out.keep _ _ hm1 ((Kept.refl [] w').alloc _), hm3.alloc _⟩
      · go_wp2_with fail
        go_meet
        obtain ⟨hm1, hm2, hm3, hm5⟩ := hm
        have hrc : w'.heap[wc.heap.size]? = some (.cells #[.bool false, .bool false, .int .i64 0] 52 (0, 0)) :=
          hm2.at (block_alloc_new wc _) (farG _ hw1)
        exact ⟨_, rfl, rfl, block_same3 hrc _ _ _, block_set3 hm5 (by omega) _ _ _, HSC.out.set3 hm1 hrc _ _ _, hm3.set3 (.inr (Nat.le_refl _)) _ _ _⟩
    case rest =>
      obtain ⟨rc, rfl, rfl, hrc, hrb2, hC, hK2⟩ := hcut
      clear HL d0 d2 n1 n2 zb0 zo0
      have cb : ∀ o, wc.cell? ⟨rb, o, none⟩ = #[Value.bool d, .bool f, .int .i64 v][o]? := cell_of hrb2
      have cc : ∀ o, wc.cell? ⟨rc, o, none⟩ = #[Value.bool d, .bool f, .int .i64 v][o]? := cell_of hrc
      have HH : Hid (C wc ∧ Kept (F ++ G) w wc) :=
        ⟨hC, (KF.out.mono (fun x hx => List.mem_append_left _ hx)).trans (hK2.mono (fun x hx => List.mem_append_right _ hx))⟩
      clear hC hK hK1 hK2 hrb hrc hrb2 hob hbb hA h0 ho hb
      go_wp2
      go_ret
      exact ⟨rfl, HH.out⟩
end Go.Proofs.YtmnkphenobfbfaaGreat
namespace Go.Proofs.YtmnkphenobfbfaaGreat
open Go.RowKit
set_option maxRecDepth 100000 in
set_option maxHeartbeats 2000000 in
theorem does_begin_gen (b pm r : Nat) (x0 i kind key v o er : Int) (F G : List Nat) (A C : World → Prop) (w : World)
    (hb : w.heap[b]? = some (.cells #[.pointer (some ⟨pm, 0, none⟩), .pointer (some ⟨r, 0, none⟩)] 47 (0, 0))) (hFb : b ∉ F) (hGb : b ∉ G) (hFn : ∀ x, x ∈ F → x < w.heap.size) (hGn : ∀ x, x ∈ G → x < w.heap.size)
    (run1 : ∀ W, Kept [] w W → Calls Tryz.prog 16 #[.pointer (some ⟨pm, 0, none⟩), .int .i64 i, .agg #[.int .i64 kind, .int .i64 key, .int .i64 v, .int .i64 o]] W fun e w' => e = .returned (.int .i64 er) ∧ A w' ∧ Kept F W w')
    (run2 : ∀ W, A W → Kept F w W → Calls Tryz.prog 17 #[.pointer (some ⟨r, 0, none⟩), .int .i64 i, .agg #[.int .i64 kind, .int .i64 key, .int .i64 v, .int .i64 o]] W fun e w' => e = .returned (.int .i64 er) ∧ C w' ∧ Kept G W w') (sA : Stab A) :
    Calls Tryz.prog 9 #[.pointer (some ⟨b, 0, none⟩), .agg #[Value.int .i64 2, .int .i64 x0, .int .i64 i, .int .i64 kind, .int .i64 key, .int .i64 v, .int .i64 o]] w fun e w' => e = .returned (.bool true) ∧ C w' ∧ Kept (F ++ G) w w' := by
  have hs := lt_of_block hb
  have h0 := block_alloc_lt hb (.cells #[Value.int .i64 2, .int .i64 x0, .int .i64 i, .int .i64 kind, .int .i64 key, .int .i64 v, .int .i64 o] 34)
  have ho := block_alloc_new w (.cells #[Value.int .i64 2, .int .i64 x0, .int .i64 i, .int .i64 kind, .int .i64 key, .int .i64 v, .int .i64 o] 34)
  have hK : Kept [] w (w.alloc (.cells #[Value.int .i64 2, .int .i64 x0, .int .i64 i, .int .i64 kind, .int .i64 key, .int .i64 v, .int .i64 o] 34)) := (Kept.refl _ w).alloc _
  have hFw : w.heap.size ∉ F := fun hx => Nat.lt_irrefl _ (hFn _ hx)
  have hGw : w.heap.size ∉ G := fun hx => Nat.lt_irrefl _ (hGn _ hx)
  have R1 : Hid _ := run1
  have R2 : Hid _ := run2
  have HSA : Hid _ := sA
  clear run1 run2 sA
  go_enter Tryz.func9, Tryz.ntmps9
  go_wp2_with fail
  generalize (w.alloc (.cells #[Value.int .i64 2, .int .i64 x0, .int .i64 i, .int .i64 kind, .int .i64 key, .int .i64 v, .int .i64 o] 34)) = W0 at *
  have d0 : W0.cell? ⟨b, 0, none⟩ = some (.pointer (some ⟨pm, 0, none⟩)) := cell_of h0 0
  have d2 : ∀ x, W0.cell? ⟨w.heap.size, x, none⟩ = #[Value.int .i64 2, .int .i64 x0, .int .i64 i, .int .i64 kind, .int .i64 key, .int .i64 v, .int .i64 o][x]? := cell_of ho
  go_region_held3 (fun w' => w'.cell? ⟨b, 0, none⟩ = some (.pointer (some ⟨pm, 0, none⟩)) ∧ (∀ x, w'.cell? ⟨w.heap.size, x, none⟩ = #[Value.int .i64 2, .int .i64 x0, .int .i64 i, .int .i64 kind, .int .i64 key, .int .i64 v, .int .i64 o][x]?))
    (first | exact ⟨g0, g2⟩ | exact ⟨d0, d2⟩)
    (first | (go_at_call 16; refine (R1.out _ (hK.trans (Kept.refl [] W0).drew)).mono ?_; rintro e w1 ⟨rfl, hp, k1⟩; have hbb := k1.at (by exact h0) hFb; have hob := k1.at (by exact ho) hFw; have g0 := cell_of hbb 0; have g2 := cell_of hob))
  clear g0 g2 d0 d2
  have K1 : Hid (Kept F w w1) := (hK.mono (by simp)).trans ((Kept.refl _ W0).drew.trans k1)
  have d0 : w1.cell? ⟨b, 1, none⟩ = some (.pointer (some ⟨r, 0, none⟩)) := cell_of hbb 1
  have d2 : ∀ x, w1.cell? ⟨w.heap.size, x, none⟩ = #[Value.int .i64 2, .int .i64 x0, .int .i64 i, .int .i64 kind, .int .i64 key, .int .i64 v, .int .i64 o][x]? := cell_of hob
  go_wp2_with fail
  go_region_held3 (fun w' => w'.cell? ⟨b, 1, none⟩ = some (.pointer (some ⟨r, 0, none⟩)) ∧ (∀ x, w'.cell? ⟨w.heap.size, x, none⟩ = #[Value.int .i64 2, .int .i64 x0, .int .i64 i, .int .i64 kind, .int .i64 key, .int .i64 v, .int .i64 o][x]?))
    (first | exact ⟨g0, g2⟩ | exact ⟨d0, d2⟩)
    (first | (go_at_call 17; refine (R2.out _ (HSA.out.keep _ _ hp (Kept.refl [] w1).drew) (K1.out.trans (Kept.refl _ w1).drew)).mono ?_; rintro e w2 ⟨rfl, hq, k2⟩; have hbb2 := k2.at (by exact hbb) hGb; have hob2 := k2.at (by exact hob) hGw; have g0 := cell_of hbb2 1; have g2 := cell_of hob2))
  have K2 : Hid (Kept (F ++ G) w w2) := (K1.out.mono (fun x hx => List.mem_append_left _ hx)).trans ((Kept.refl _ w1).drew.trans (k2.mono (fun x hx => List.mem_append_right _ hx)))
  clear g0 g2 d0 d2
  go_wp2
  go_ret
  exact ⟨by simp, hq, K2.out⟩
set_option maxRecDepth 100000 in
set_option maxHeartbeats 2000000 in
theorem does_close_gen (b pm r : Nat) (x0 i y0 y1 y2 y3 : Int) (F : List Nat) (A C : World → Prop) (w : World)
    (hb : w.heap[b]? = some (.cells #[.pointer (some ⟨pm, 0, none⟩), .pointer (some ⟨r, 0, none⟩)] 47 (0, 0))) (hFb : b ∉ F)
    (run1 : ∀ W, Kept [] w W → Calls Tryz.prog 20 #[.pointer (some ⟨pm, 0, none⟩)] W fun e w' => e = .returned (.tuple #[]) ∧ A w' ∧ Kept F W w')
    (hcl : ∀ W, A W → ∃ c, W.cell? ⟨r, 21, none⟩ = some (.bool c) ∧ W.frozen? ⟨r, 21, none⟩ = false) (hset : ∀ W, A W → C (W.setCell ⟨r, 21, none⟩ (.bool true))) :
    Calls Tryz.prog 9 #[.pointer (some ⟨b, 0, none⟩), .agg #[Value.int .i64 5, .int .i64 x0, .int .i64 i, .int .i64 y0, .int .i64 y1, .int .i64 y2, .int .i64 y3]] w fun e w' => e = .returned (.bool true) ∧ C w' ∧ Kept (r :: F) w w' := by
  have hs := lt_of_block hb
  have h0 := block_alloc_lt hb (.cells #[Value.int .i64 5, .int .i64 x0, .int .i64 i, .int .i64 y0, .int .i64 y1, .int .i64 y2, .int .i64 y3] 34)
  have hK : Kept [] w (w.alloc (.cells #[Value.int .i64 5, .int .i64 x0, .int .i64 i, .int .i64 y0, .int .i64 y1, .int .i64 y2, .int .i64 y3] 34)) := (Kept.refl _ w).alloc _
  have d0 : w.cell? ⟨b, 0, none⟩ = some (.pointer (some ⟨pm, 0, none⟩)) := cell_of hb 0
  have R1 : Hid _ := run1
  have HC : Hid _ := hcl
  have HS : Hid _ := hset
  clear run1 hcl hset
  go_enter Tryz.func9, Tryz.ntmps9
  go_wp2_with fail
  generalize (w.alloc (.cells #[Value.int .i64 5, .int .i64 x0, .int .i64 i, .int .i64 y0, .int .i64 y1, .int .i64 y2, .int .i64 y3] 34)) = W0 at *
  refine (R1.out W0 hK).mono ?_
  rintro e w1 ⟨rfl, hp, k1⟩
  have hb1 := k1.at h0 hFb
  have K1 : Hid (Kept (r :: F) w w1) := (hK.mono (by simp)).trans (k1.mono (fun x hx => List.mem_cons_of_mem _ hx))
  have d1 : w1.cell? ⟨b, 1, none⟩ = some (.pointer (some ⟨r, 0, none⟩)) := cell_of hb1 1
  obtain ⟨c, d21, f21⟩ := HC.out _ hp
  have HS1 : Hid _ := HS.out _ hp
  clear d0
  go_wp2
  go_ret
  exact ⟨rfl, HS1.out, K1.out.setCell (.inl (by simp)) _⟩
end Go.Proofs.YtmnkphenobfbfaaGreat
namespace Go.Proofs.YtmnkphenobfbfaaGreat
open Go.RowKit
theorem u84 : Tryz.prog.underlying 84 = some (.struct (Tryz.prog.fieldsOf 84)) := by
  rw [Program.fieldsOf, Tryz.underlying84]
theorem s84 : Tryz.prog.stoodInHeld 84 = false := by kernel_rfl
theorem g84 : Tryz.prog.eqGuardType Tryz.prog.depth 84 = false := by kernel_rfl
theorem neq84 (a b c : Int) (w : World) : (binOp .neq 84 (.agg #[.int .i64 a, .int .i64 b, .int .i64 c]) (.agg #[.int .i64 a, .int .i64 b, .int .i64 c])).run Tryz.prog w = .ok (.bool false) w := by
  rw [run_neq_struct, run_equalIn_struct w 9999 84 _ _ u84 s84, Program.fieldsOf, Tryz.underlying84]
  simp [go_sem]
/-- A slice's entries. -/
def RowAt (ao : Option Addr) (n : Nat) (E : Nat → Int × Int × Int) (w : World) : Prop :=
  ∀ i, i < n → ∃ g, ao = some ⟨g, 0, none⟩ ∧ w.cell? ⟨g, i * 3, none⟩ = some (.int .i64 (E i).1) ∧ w.cell? ⟨g, i * 3 + 1, none⟩ = some (.int .i64 (E i).2.1) ∧ w.cell? ⟨g, i * 3 + 2, none⟩ = some (.int .i64 (E i).2.2)
set_option maxRecDepth 100000 in
set_option maxHeartbeats 1000000 in
theorem same_gen (ao bo : Option Addr) (n ca cb : Nat) (E : Nat → Int × Int × Int) (w : World) (hA : RowAt ao n E w) (hB : RowAt bo n E w) (hca : n ≤ ca) (hcb : n ≤ cb) (hn8 : n ≤ 8) :
    Calls Tryz.prog 15 #[.slice ao n ca, .slice bo n cb] w fun e w' => e = .returned (.bool true) ∧ Kept [] w w' := by
  have HA : Hid _ := hA
  have HB : Hid _ := hB
  have hg := g84
  clear hA hB
  go_enter Tryz.func15, Tryz.ntmps15
  go_wp2
  go_loopw [5] (fun x W => ∃ k : Nat, k ≤ n ∧ x = .int .i64 k ∧ Kept [] w W) (fun x _ => n - (intOf x).toNat)
  case atStart => exact ⟨0, by omega, rfl, Kept.refl [] w⟩
  case round =>
    obtain ⟨k, hk, rfl, hW⟩ := hrel
    by_cases hlt : k < n
    · obtain ⟨ga, hao, a0, a1, a2⟩ := HA.out k hlt
      obtain ⟨gb, hbo, b0, b1, b2⟩ := HB.out k hlt
      have cellW : ∀ (b o : Nat) (v : Value), w.cell? ⟨b, o, none⟩ = some v → wr.cell? ⟨b, o, none⟩ = some v := fun b o v hv => by
        rw [(hW.far (b := b) (o := o) (lt_of_cell hv) (by simp)).1]; exact hv
      have a0' := cellW _ _ _ a0
      have a1' := cellW _ _ _ a1
      have a2' := cellW _ _ _ a2
      have b0' := cellW _ _ _ b0
      have b1' := cellW _ _ _ b1
      have b2' := cellW _ _ _ b2
      have hq := neq84 (E k).1 (E k).2.1 (E k).2.2
      have hlt' : (k : Int) < (n : Int) := by omega
      have hkt : ((k : Int)).toNat = k := by simp
      subst hao hbo
      have HW : Hid _ := hW
      clear cellW a0 a1 a2 b0 b1 b2 hW HA HB
      generalize (E k).1 = e0 at *
      generalize (E k).2.1 = e1 at *
      generalize (E k).2.2 = e2 at *
      go_wp2_with fail
      go_quiet (fail)
      go_wp2
      go_roundw
      case rel => exact ⟨k + 1, by omega, by go_num, HW.out.drewN nq⟩
      case measure => simp [intOf]; omega
    · obtain rfl : k = n := by omega
      have HW : Hid _ := hW
      clear hW
      go_wp2
      go_ret
      exact ⟨rfl, HW.out⟩
end Go.Proofs.YtmnkphenobfbfaaGreat
namespace Go.Proofs.YtmnkphenobfbfaaGreat
open Go.RowKit
/-- What neither new memory nor a view's box turns. -/
structure Stav (A : World → Prop) : Prop where
  keep : ∀ W W', A W → Kept [] W W' → A W'
  box : ∀ W b cs o v, A W → W.heap[b]? = some (.cells cs 27 (0, 0)) → A (W.setCell ⟨b, o, none⟩ v)
theorem Stav.set6 {A : World → Prop} (sA : Stav A) {W : World} (h : A W) {r : Nat} {cs : Array Value} (hb : W.heap[r]? = some (.cells cs 27 (0, 0))) (v0 v1 v2 v3 v4 v5 : Value) :
    A ((((((W.setCell ⟨r, 0, none⟩ v0).setCell ⟨r, 1, none⟩ v1).setCell ⟨r, 2, none⟩ v2).setCell ⟨r, 3, none⟩ v3).setCell ⟨r, 4, none⟩ v4).setCell ⟨r, 5, none⟩ v5) := by
  have b0 := block_set_same hb 0 v0
  have b1 := block_set_same b0 1 v1
  have b2 := block_set_same b1 2 v2
  have b3 := block_set_same b2 3 v3
  have b4 := block_set_same b3 4 v4
  exact sA.box _ _ _ _ _ (sA.box _ _ _ _ _ (sA.box _ _ _ _ _ (sA.box _ _ _ _ _ (sA.box _ _ _ _ _ (sA.box _ _ _ _ _ h hb) b0) b1) b2) b3) b4
theorem RowAt.kept {ao : Option Addr} {n : Nat} {E : Nat → Int × Int × Int} {w w' : World} (h : RowAt ao n E w) (k : Kept [] w w') : RowAt ao n E w' := fun i hi => by
  obtain ⟨g, e1, c0, c1, c2⟩ := h i hi
  have go : ∀ (o : Nat) (v : Value), w.cell? ⟨g, o, none⟩ = some v → w'.cell? ⟨g, o, none⟩ = some v := fun o v hv => by
    rw [(k.far (b := g) (o := o) (lt_of_cell hv) (by simp)).1]; exact hv
  exact ⟨g, e1, go _ _ c0, go _ _ c1, go _ _ c2⟩
set_option maxRecDepth 100000 in
set_option maxHeartbeats 1500000 in
theorem seen_gen (b pm r : Nat) (n1 n2 : Nat) (h1 : n1 ≤ 8) (h2 : n2 ≤ 8) (E1 E2 : Nat → Int × Int × Int) (am hd : Bool) (mis hol : Int) (F : List Nat) (A : World → Prop) (X1 X2 : Array Value) (w : World)
    (hb : w.heap[b]? = some (.cells #[.pointer (some ⟨pm, 0, none⟩), .pointer (some ⟨r, 0, none⟩)] 47 (0, 0))) (hFb : b ∉ F) (hFn : ∀ x, x ∈ F → x < w.heap.size) (sA : Stav A)
    (run1 : ∀ W, Kept [] w W → Calls Tryz.prog 13 #[.pointer (some ⟨pm, 0, none⟩)] W fun e w' => ∃ b1 b2, e = .returned (.agg #[Value.slice (some ⟨b1, 0, none⟩) n1 n1, .bool am, .bool hd, .slice (some ⟨b2, 0, none⟩) n2 n2, .int .i64 mis, .int .i64 hol]) ∧ w'.heap[b1]? = some (.cells X1 84 (0, 0)) ∧ w'.heap[b2]? = some (.cells X2 84 (0, 0)) ∧ RowAt (some ⟨b1, 0, none⟩) n1 E1 w' ∧ RowAt (some ⟨b2, 0, none⟩) n2 E2 w' ∧ W.heap.size ≤ b1 ∧ W.heap.size ≤ b2 ∧ b1 ≠ b2 ∧ A w' ∧ Kept F W w')
    (run2 : ∀ W, A W → Calls Tryz.prog 14 #[.pointer (some ⟨r, 0, none⟩)] W fun e w' => ∃ a1 c1 a2 c2, e = .returned (.agg #[Value.slice a1 n1 c1, .bool am, .bool hd, .slice a2 n2 c2, .int .i64 mis, .int .i64 hol]) ∧ RowAt a1 n1 E1 w' ∧ RowAt a2 n2 E2 w' ∧ n1 ≤ c1 ∧ n2 ≤ c2 ∧ Kept [] W w') :
    Calls Tryz.prog 8 #[.pointer (some ⟨b, 0, none⟩)] w fun e w' => ∃ b1 b2, e = .returned (.tuple #[.agg #[Value.slice (some ⟨b1, 0, none⟩) n1 n1, .bool am, .bool hd, .slice (some ⟨b2, 0, none⟩) n2 n2, .int .i64 mis, .int .i64 hol], .bool true]) ∧ w'.heap[b1]? = some (.cells X1 84 (0, 0)) ∧ w'.heap[b2]? = some (.cells X2 84 (0, 0)) ∧ w.heap.size ≤ b1 ∧ w.heap.size ≤ b2 ∧ b1 ≠ b2 ∧ A w' ∧ Kept F w w' := by
  have hs := lt_of_block hb
  have h0 := block_alloc_lt hb (.cells #[Value.slice none 0 0, .bool false, .bool false, .slice none 0 0, .int .i64 0, .int .i64 0] 27)
  have hK : Kept [] w (w.alloc (.cells #[Value.slice none 0 0, .bool false, .bool false, .slice none 0 0, .int .i64 0, .int .i64 0] 27)) := (Kept.refl _ w).alloc _
  have hr := block_alloc_new w (.cells #[Value.slice none 0 0, .bool false, .bool false, .slice none 0 0, .int .i64 0, .int .i64 0] 27)
  have c0 : w.cell? ⟨b, 0, none⟩ = some (.pointer (some ⟨pm, 0, none⟩)) := cell_of hb 0
  have hFw : w.heap.size ∉ F := fun hx => Nat.lt_irrefl _ (hFn _ hx)
  have R1 : Hid _ := run1
  have R2 : Hid _ := run2
  have HSA : Hid _ := sA
  clear run1 run2 sA
  go_enter Tryz.func8, Tryz.ntmps8
  go_wp2_with fail
  refine (R1.out _ hK).mono ?_
  rintro e w1 ⟨b1, b2, rfl, hb1, hb2, ra1, ra2, hz1, hz2, hz3, hA1, k1⟩
  have hbb := k1.at h0 hFb
  have r1 := k1.at hr hFw
  have zz : w.heap.size < (w.alloc (.cells #[Value.slice none 0 0, .bool false, .bool false, .slice none 0 0, .int .i64 0, .int .i64 0] 27)).heap.size := by simp
  have K1 := (hK.mono (F' := F) (by simp)).trans k1
  generalize (w.alloc (.cells #[Value.slice none 0 0, .bool false, .bool false, .slice none 0 0, .int .i64 0, .int .i64 0] 27)) = W0 at *
  have cc1 : w1.cell? ⟨b, 1, none⟩ = some (.pointer (some ⟨r, 0, none⟩)) := cell_of hbb 1
  have hs1 := lt_of_block hbb
  clear c0
  go_wp2_with fail
  have v1 := block_alloc_new w1 (.cells #[Value.slice (some ⟨b1, 0, none⟩) n1 n1, .bool am, .bool hd, .slice (some ⟨b2, 0, none⟩) n2 n2, .int .i64 mis, .int .i64 hol] 27)
  refine (R2.out _ (HSA.out.keep _ _ hA1 ((Kept.refl [] w1).alloc _))).mono ?_
  rintro e w2 ⟨a1, c1, a2, c2, rfl, rb1, rb2, hc1, hc2, k2⟩
  have v2 := k2.at v1 (by simp)
  have hA2 := HSA.out.keep _ _ (HSA.out.keep _ _ hA1 ((Kept.refl [] w1).alloc _)) k2
  have r2 := k2.at (block_alloc_lt r1 _) (by simp)
  have K2 := (K1.alloc (.cells #[Value.slice (some ⟨b1, 0, none⟩) n1 n1, .bool am, .bool hd, .slice (some ⟨b2, 0, none⟩) n2 n2, .int .i64 mis, .int .i64 hol] 27)).trans (k2.mono (by simp))
  have hb1' := k2.at (block_alloc_lt hb1 _) (by simp)
  have hb2' := k2.at (block_alloc_lt hb2 _) (by simp)
  have kk2 : Kept [] w1 w2 := ((Kept.refl [] w1).alloc _).trans k2
  have ra1' := ra1.kept kk2
  have ra2' := ra2.kept kk2
  have zv2 := lt_of_block v2
  have cv : ∀ o, w2.cell? ⟨w1.heap.size, o, none⟩ = #[Value.slice (some ⟨b1, 0, none⟩) n1 n1, .bool am, .bool hd, .slice (some ⟨b2, 0, none⟩) n2 n2, .int .i64 mis, .int .i64 hol][o]? := cell_of v2
  have zr1 := lt_of_block r1
  clear cc1
  have ka := (Kept.refl [] w2).alloc (.cells #[Value.slice a1 n1 c1, .bool am, .bool hd, .slice a2 n2 c2, .int .i64 mis, .int .i64 hol] 27)
  have RA1 : Hid _ := ra1'.kept ka
  have RA2 : Hid _ := ra2'.kept ka
  have RB1 : Hid _ := rb1.kept ka
  have RB2 : Hid _ := rb2.kept ka
  clear ra1 ra2 ra1' ra2' rb1 rb2
  go_wp2_with fail
  refine (same_gen (some ⟨b1, 0, none⟩) a1 n1 n1 c1 E1 _ RA1.out RB1.out (Nat.le_refl _) hc1 h1).mono ?_
  rintro e w3 ⟨rfl, k3⟩
  have cv3 : ∀ o, w3.cell? ⟨w1.heap.size, o, none⟩ = #[Value.slice (some ⟨b1, 0, none⟩) n1 n1, .bool am, .bool hd, .slice (some ⟨b2, 0, none⟩) n2 n2, .int .i64 mis, .int .i64 hol][o]? := cell_of (k3.at (block_alloc_lt v2 _) (by simp))
  have cw3 : ∀ o, w3.cell? ⟨w2.heap.size, o, none⟩ = #[Value.slice a1 n1 c1, .bool am, .bool hd, .slice a2 n2 c2, .int .i64 mis, .int .i64 hol][o]? := cell_of (k3.at (block_alloc_new w2 _) (by simp))
  clear cv
  go_wp2_with fail
  refine (same_gen (some ⟨b2, 0, none⟩) a2 n2 n2 c2 E2 _ (RowAt.kept RA2.out k3) (RowAt.kept RB2.out k3) (Nat.le_refl _) hc2 h2).mono ?_
  rintro e w4 ⟨rfl, k4⟩
  have ka4 : Kept [] w2 w4 := (ka.trans k3).trans k4
  have v3 := ka4.at v2 (by simp)
  have v3' := (k3.trans k4).at (block_alloc_new w2 (.cells #[Value.slice a1 n1 c1, .bool am, .bool hd, .slice a2 n2 c2, .int .i64 mis, .int .i64 hol] 27)) (by simp)
  have hA4 := HSA.out.keep _ _ hA2 ka4
  have r3 := ka4.at r2 (by simp)
  have K3 := K2.trans (ka4.mono (by simp))
  have hb1'' := ka4.at hb1' (by simp)
  have hb2'' := ka4.at hb2' (by simp)
  have ca : ∀ o, w4.cell? ⟨w1.heap.size, o, none⟩ = #[Value.slice (some ⟨b1, 0, none⟩) n1 n1, .bool am, .bool hd, .slice (some ⟨b2, 0, none⟩) n2 n2, .int .i64 mis, .int .i64 hol][o]? := cell_of v3
  have cb : ∀ o, w4.cell? ⟨w2.heap.size, o, none⟩ = #[Value.slice a1 n1 c1, .bool am, .bool hd, .slice a2 n2 c2, .int .i64 mis, .int .i64 hol][o]? := cell_of v3'
  have cr : ∀ o, w4.cell? ⟨w.heap.size, o, none⟩ = #[Value.slice none 0 0, .bool false, .bool false, .slice none 0 0, .int .i64 0, .int .i64 0][o]? := cell_of r3
  have fr : ∀ o, w4.frozen? ⟨w.heap.size, o, none⟩ = false := frozen_of r3
  have na : w.heap.size ≠ w1.heap.size := by omega
  have nb : w.heap.size ≠ w2.heap.size := by omega
  clear cv3 cw3
  go_wp2_with fail
  go_region_held3 (fun w' => (∀ o, w'.cell? ⟨w1.heap.size, o, none⟩ = #[Value.slice (some ⟨b1, 0, none⟩) n1 n1, .bool am, .bool hd, .slice (some ⟨b2, 0, none⟩) n2 n2, .int .i64 mis, .int .i64 hol][o]?) ∧ (∀ o, w'.cell? ⟨w2.heap.size, o, none⟩ = #[Value.slice a1 n1 c1, .bool am, .bool hd, .slice a2 n2 c2, .int .i64 mis, .int .i64 hol][o]?))
    (first | (refine ⟨?_, ?_⟩ <;> intro o <;> first | (rw [cell_drew, cell_set6 na]; exact ca o) | (rw [cell_drew, cell_set6 nb]; exact cb o) | (rw [cell_drew]; exact ca o) | (rw [cell_drew]; exact cb o)))
    (fail)
  clear ca cb fr v1 v2 v3 v3' r1 r2 hb1 hb2 hb1' hb2' hA1 hA2 h0 k1 k2 hK hr K1 K2 kk2 ka ka4 k3 k4 RA1 RA2 RB1 RB2 hbb
  go_wp2
  refine bodyPost_ret (v := .tuple #[.agg #[Value.slice (some ⟨b1, 0, none⟩) n1 n1, .bool am, .bool hd, .slice (some ⟨b2, 0, none⟩) n2 n2, .int .i64 mis, .int .i64 hol], .bool true]) (res6 w.heap.size _ _ _ _ _ _ _ rfl rfl cr) rfl ⟨b1, b2, rfl, ?_, ?_, by omega, by omega, hz3, ?_, ?_⟩
  · rw [heap_drew]; exact block_set6 hb1'' (by omega) _ _ _ _ _ _
  · rw [heap_drew]; exact block_set6 hb2'' (by omega) _ _ _ _ _ _
  · exact HSA.out.keep _ _ (HSA.out.set6 hA4 r3 _ _ _ _ _ _) (Kept.refl [] _).drew
  · exact ((((((K3.setCell (.inr (Nat.le_refl _)) _).setCell (.inr (Nat.le_refl _)) _).setCell (.inr (Nat.le_refl _)) _).setCell (.inr (Nat.le_refl _)) _).setCell (.inr (Nat.le_refl _)) _).setCell (.inr (Nat.le_refl _)) _).drew
end Go.Proofs.YtmnkphenobfbfaaGreat
