import Derived.Test.YtmnkphenobfbfaaGreatXw
import Derived.Test.YtmnkphenobfbfaaGreatGk
namespace Go.Proofs.YtmnkphenobfbfaaGreat
open Go.RowKit
/-! Worlds with any number of maps. -/
theorem pickV (c : Int) (n : Nat) (h0 : 0 < n) (hn : n ≤ 2000000) (hc : -9223372036854775808 ≤ c) (hc2 : c ≤ 9223372036854775807) (w : World) : Calls Tryz.prog 40 #[.int .i64 c, .int .i64 n] w fun e w' => ∃ k : Nat, k < n ∧ e = .returned (.int .i64 k) ∧ w' = w := by
  have key : ∀ x : Int, 0 ≤ x → ∃ k : Nat, k < n ∧ x.tmod n = (k : Int) := by
    intro x hx
    refine ⟨(x.tmod n).toNat, ?_, ?_⟩
    · have h1 := Int.tmod_lt_of_pos x (b := (n : Int)) (by omega)
      have h2 := Int.tmod_nonneg (n : Int) hx
      omega
    · have h2 := Int.tmod_nonneg (n : Int) hx
      omega
  have hn0 : ¬ (n : Int) = 0 := by omega
  have hnb : ((n : Int) == 0) = false := beq_eq_false_iff_ne.2 hn0
  by_cases h : c < 0
  · obtain ⟨k, hk, e⟩ := key (-(c + 1)) (by omega)
    go_enter Tryz.func40, Tryz.ntmps40
    go_wp2
    go_ret
    exact ⟨k, hk, by rw [← e]; go_num, rfl⟩
  · obtain ⟨k, hk, e⟩ := key c (by omega)
    go_enter Tryz.func40, Tryz.ntmps40
    go_wp2
    go_ret
    exact ⟨k, hk, by rw [← e]; go_num, rfl⟩
theorem row_kept {w w' : World} {B T n : Nat} {sl : Value} {zs : List Value} {F : List Nat} (h : w.ownsRow B T 1 sl n zs) (k : Kept F w w') (hF : ∀ g, sl.ownBlock = some g → g ∉ F) : w'.ownsRow B T 1 sl n zs := by
  refine ⟨h.1, ?_⟩
  rcases h.2 with h' | ⟨g, cap, cur, e1, e2, e3, e4⟩
  · exact .inl h'
  · exact .inr ⟨g, cap, cur, e1, e2, k.at e3 (hF g (by rw [e1]; rfl)), e4⟩
theorem row_own {w : World} {B T n : Nat} {sl : Value} {zs : List Value} (h : w.ownsRow B T 1 sl n zs) {g : Nat} (hg : sl.ownBlock = some g) : ∃ cs, w.heap[g]? = some (.cells cs T (0, 0)) ∧ B ≤ g := by
  rcases h.2 with ⟨rfl, _⟩ | ⟨g', cap, cur, rfl, e2, e3, _⟩
  · simp [Value.ownBlock] at hg
  · simp only [Value.ownBlock, Option.some.injEq] at hg
    subst hg
    exact ⟨cur, e3, e2⟩
/-- A map and the document's, and where they lie. -/
structure PD where
  b : Nat
  p : PM
  en : Nat → Nat
  r : Nat
  tb : Nat
  sl : Value
  m : M
def PD.f (d : PD) : List Nat := fpm d.p d.en d.m ++ fr d.r d.tb d.sl
def PD.At (d : PD) (B : Nat) (w : World) : Prop := Pair d.b d.p d.en d.r d.tb d.sl B d.m w
theorem PD.At.lt {d : PD} {B : Nat} {w : World} (h : d.At B w) : ∀ x, x ∈ d.f → x < w.heap.size := by
  intro x hx
  rcases List.mem_append.1 hx with hx | hx
  · exact h.g.fpm_lt x hx
  · exact h.q.fr_lt x hx
/-- Of what types its blocks are not. -/
theorem PD.At.off {d : PD} {B : Nat} {w : World} (h : d.At B w) {x : Nat} {cs : Array Value} {T : TypeId} (hx : w.heap[x]? = some (.cells cs T (0, 0))) (h1 : T ≠ 78) (h2 : T ≠ 111) (h3 : T ≠ 116) (h4 : T ≠ 141) (h5 : T ≠ 59) (h6 : T ≠ 90) (h7 : T ≠ 88) : x ∉ d.f := by
  intro hm
  rcases List.mem_append.1 hm with hm | hm
  · exact h.g.notFpm hx h1 h2 h3 h4 hm
  · rcases h.q.fr_has hm with ⟨_, e⟩ | ⟨_, e⟩ | ⟨_, e⟩ <;> rw [hx] at e <;> simp only [Option.some.injEq, Obj.cells.injEq] at e
    · exact h5 e.2.1
    · exact h6 e.2.1
    · exact h7 e.2.1
/-- Another map's blocks turn. -/
theorem PD.At.kept {d : PD} {B : Nat} {w w' : World} {F : List Nat} (h : d.At B w) (k : Kept F w w') (h1 : ∀ x, x ∈ d.f → x ∉ F) (h2 : ∀ x cs, w.heap[x]? = some (.cells cs 47 (0, 0)) → x ∉ F) (h3 : ∀ x cs, w.heap[x]? = some (.cells cs 79 (0, 0)) → x ∉ F) : d.At B w' := by
  obtain ⟨cs', g1, _⟩ := h.g.tb
  have hf : ∀ x, x ∈ fpm d.p d.en d.m → x ∉ F := fun x hx => h1 x (List.mem_append_left _ hx)
  have hr : ∀ x, x ∈ fr d.r d.tb d.sl → x ∉ F := fun x hx => h1 x (List.mem_append_right _ hx)
  refine ⟨k.at h.b (h2 _ _ h.b), h.g.kept k (hf _ (by simp [fpm])) (hf _ (by simp [fpm])) (hf _ (by simp [fpm, fp])) (h3 _ _ g1) (fun i t ht => hf _ ?_) (fun j hj => hf _ ?_), h.q.kept k (hr _ (by simp [fr])) (hr _ (by simp [fr])) (fun g hg => hr _ (by simp [fr, hg])), h.inv, Nat.le_trans h.base k.size⟩
  · exact List.mem_cons_of_mem _ (List.mem_cons_of_mem _ (mem_fp_t ht d.en d.m))
  · exact List.mem_cons_of_mem _ (List.mem_cons_of_mem _ (mem_fp_e d.p d.en hj))
theorem PD.At.keptNil {d : PD} {B : Nat} {w w' : World} (h : d.At B w) (k : Kept [] w w') : d.At B w' := h.kept k (by simp) (by simp) (by simp)
/-- A World with the maps ds and L lists, begun at w0. -/
structure VL (wb : Nat) (ds : List PD) (L : Nat) (w0 w : World) : Prop where
  pair : ∀ (k : Nat) (d : PD), ds[k]? = some d → d.At w0.heap.size w
  low : ∀ (k : Nat) (d : PD), ds[k]? = some d → ∀ x, x ∈ d.f → w0.heap.size ≤ x
  apart : ∀ (k k' : Nat) (d d' : PD), ds[k]? = some d → ds[k']? = some d' → k ≠ k' → ∀ x, x ∈ d.f → x ∉ d'.f
  at_ : ∃ ps ls l3 xs ys, w.heap[wb]? = some (.cells #[ps, ls, l3] 64 (0, 0)) ∧ w.ownsRow w0.heap.size 22 1 ps ds.length (ds.map fun d => .pointer (some ⟨d.b, 0, none⟩)) ∧ LAt w0.heap.size ls l3 L xs ys w
  wbz : w0.heap.size ≤ wb
  kept : Kept [] w0 w
theorem VL.keptNil {wb : Nat} {ds : List PD} {L : Nat} {w0 w w' : World} (h : VL wb ds L w0 w) (k : Kept [] w w') : VL wb ds L w0 w' := by
  obtain ⟨ps, ls, l3, xs, ys, h1, h2, h3⟩ := h.at_
  exact ⟨fun j d hd => (h.pair j d hd).keptNil k, h.low, h.apart, ⟨ps, ls, l3, xs, ys, k.at h1 (by simp), row_kept h2 k (by simp), h3.keptNil k⟩, h.wbz, h.kept.trans k⟩
theorem map_set_b {ds : List PD} {k : Nat} {d d' : PD} (hk : ds[k]? = some d) (hb : d'.b = d.b) : (ds.set k d').map (fun d => Value.pointer (some ⟨d.b, 0, none⟩)) = ds.map (fun d => Value.pointer (some ⟨d.b, 0, none⟩)) := by
  apply List.ext_getElem?
  intro j
  rw [List.getElem?_map, List.getElem?_map, List.getElem?_set]
  split
  · rename_i e
    subst e
    rw [hk]
    have : k < ds.length := (List.getElem?_eq_some_iff.1 hk).1
    rw [if_pos this]
    simp only [Option.map_some, hb]
  · rfl
/-- One of the maps goes on. -/
theorem VL.after {wb : Nat} {ds : List PD} {L : Nat} {w0 w w' : World} (h : VL wb ds L w0 w) {k : Nat} {d d' : PD} (hk : ds[k]? = some d) (kp : Kept d.f w w') (hd' : d'.At w0.heap.size w') (hb : d'.b = d.b) (hf : ∀ x, x ∈ d'.f → x ∈ d.f ∨ w.heap.size ≤ x) : VL wb (ds.set k d') L w0 w' := by
  obtain ⟨ps, ls, l3, xs, ys, e1, e2, e3⟩ := h.at_
  have hd := h.pair k d hk
  have hw := h.kept.size
  have get : ∀ (j : Nat) (c : PD), (ds.set k d')[j]? = some c → (j = k ∧ c = d') ∨ (j ≠ k ∧ ds[j]? = some c) := by
    intro j c hc
    rw [List.getElem?_set] at hc
    by_cases e : k = j
    · subst e
      rw [if_pos rfl] at hc
      split at hc
      · exact .inl ⟨rfl, (Option.some.inj hc).symm⟩
      · cases hc
    · rw [if_neg e] at hc
      exact .inr ⟨fun q => e q.symm, hc⟩
  refine ⟨fun j c hc => ?_, fun j c hc x hx => ?_, fun j j' c c' hc hc' hne x hx hx' => ?_, ⟨ps, ls, l3, xs, ys, ?_, ?_, ?_⟩, h.wbz, h.kept.drop kp fun x hx hlt => ?_⟩
  · rcases get j c hc with ⟨_, rfl⟩ | ⟨hj, hc⟩
    · exact hd'
    · exact (h.pair j c hc).kept kp (fun x hx => h.apart j k c d hc hk hj x hx) (fun x cs hx => hd.off hx (by decide) (by decide) (by decide) (by decide) (by decide) (by decide) (by decide)) (fun x cs hx => hd.off hx (by decide) (by decide) (by decide) (by decide) (by decide) (by decide) (by decide))
  · rcases get j c hc with ⟨_, rfl⟩ | ⟨hj, hc⟩
    · rcases hf x hx with q | q
      · exact h.low k d hk x q
      · omega
    · exact h.low j c hc x hx
  · rcases get j c hc with ⟨ej, q1⟩ | ⟨hj, q1⟩
    · rcases get j' c' hc' with ⟨ej', _⟩ | ⟨hj', q2⟩
      · exact hne (ej.trans ej'.symm)
      · rw [q1] at hx
        rcases hf x hx with q | q
        · exact h.apart k j' d c' hk q2 (fun q => hj' q.symm) x q hx'
        · have := (h.pair j' c' q2).lt x hx'; omega
    · rcases get j' c' hc' with ⟨ej', q2⟩ | ⟨hj', q2⟩
      · rw [q2] at hx'
        rcases hf x hx' with q | q
        · exact h.apart j k c d q1 hk hj x hx q
        · have := (h.pair j c q1).lt x hx; omega
      · exact h.apart j j' c c' q1 q2 hne x hx hx'
  · exact kp.at e1 (hd.off e1 (by decide) (by decide) (by decide) (by decide) (by decide) (by decide) (by decide))
  · rw [map_set_b hk hb, List.length_set]
    refine row_kept e2 kp fun g hg => ?_
    obtain ⟨cs, hc, _⟩ := row_own e2 hg
    exact hd.off hc (by decide) (by decide) (by decide) (by decide) (by decide) (by decide) (by decide)
  · exact e3.kept kp (fun y hy cs => ⟨fun q => hd.off q (by decide) (by decide) (by decide) (by decide) (by decide) (by decide) (by decide) hy, fun q => hd.off q (by decide) (by decide) (by decide) (by decide) (by decide) (by decide) (by decide) hy⟩)
  · have := h.low k d hk x hx
    omega
theorem fresh_in {p : PM} {en en' : Nat → Nat} {m m' : M} {r tb : Nat} {sl sl' : Value} {n : Nat}
    (h1 : ∀ j, j < m.nc → en' j = en j) (h2 : ∀ j, m.nc ≤ j → j < m'.nc → n ≤ en' j) (h3 : ∀ g, sl'.ownBlock = some g → sl.ownBlock = some g ∨ n ≤ g) : ∀ x, x ∈ fpm p en' m' ++ fr r tb sl' → x ∈ fpm p en m ++ fr r tb sl ∨ n ≤ x := by
  intro x hx
  simp only [fpm, fp, fr, List.mem_append, List.mem_cons, List.mem_map, List.mem_range] at hx
  rcases hx with (rfl | rfl | rfl | hx | ⟨j, hj, rfl⟩) | rfl | rfl | hx
  · exact .inl (by simp [fpm])
  · exact .inl (by simp [fpm])
  · exact .inl (by simp [fpm, fp])
  · exact .inl (by simp [fpm, fp, hx])
  · by_cases hjn : j < m.nc
    · rw [h1 j hjn]
      exact .inl (List.mem_append_left _ (List.mem_cons_of_mem _ (List.mem_cons_of_mem _ (mem_fp_e p en hjn))))
    · exact .inr (h2 j (by omega) hj)
  · exact .inl (by simp [fr])
  · exact .inl (by simp [fr])
  · rcases h3 x (by simpa using hx) with q | q
    · exact .inl (by simp [fr, q])
    · exact .inr q
theorem VL.row {wb : Nat} {ds : List PD} {L : Nat} {w0 w : World} (h : VL wb ds L w0 w) (h0 : 0 < ds.length) : ∃ pb cap ls l3 xs ys pcs, w.heap[wb]? = some (.cells #[.slice (some ⟨pb, 0, none⟩) ds.length cap, ls, l3] 64 (0, 0)) ∧ w.heap[pb]? = some (.cells pcs 22 (0, 0)) ∧ ds.length ≤ cap ∧
    (∀ (k : Nat) (d : PD), ds[k]? = some d → pcs[k]? = some (.pointer (some ⟨d.b, 0, none⟩))) ∧ LAt w0.heap.size ls l3 L xs ys w := by
  obtain ⟨ps, ls, l3, xs, ys, e1, e2, e3⟩ := h.at_
  rcases e2.2 with ⟨_, q⟩ | ⟨g, cap, cur, rfl, _, a3, a4, _, _, a7⟩
  · omega
  · refine ⟨g, cap, ls, l3, xs, ys, cur, e1, a3, a4, fun k d hk => ?_, e3⟩
    have hkl : k < ds.length := (List.getElem?_eq_some_iff.1 hk).1
    have := congrArg (fun l => l[k]?) a7
    simp only [List.getElem?_take, List.getElem?_map, hk, Option.map_some] at this
    rw [if_pos (by omega)] at this
    simpa using this
end Go.Proofs.YtmnkphenobfbfaaGreat
namespace Go.Proofs.YtmnkphenobfbfaaGreat
open Go.RowKit
set_option maxRecDepth 100000 in
set_option maxHeartbeats 3200000 in
/-- Begin, Step, Close of any of the maps: whatever 'does' does. -/
theorem vdoes (wb n pb cap : Nat) (bs : Nat → Nat) (ls l3 : Value) (pcs : Array Value) (kd mp i y0 y1 y2 y3 : Int) (w : World) (Q : Nat → World → World → Prop) (hk : kd = 2 ∨ kd = 3 ∨ kd = 5) (h0 : 0 < n) (hn : n ≤ 2000000) (hm1 : -9223372036854775808 ≤ mp) (hm2 : mp ≤ 9223372036854775807)
    (hb : w.heap[wb]? = some (.cells #[.slice (some ⟨pb, 0, none⟩) n cap, ls, l3] 64 (0, 0))) (hpb : w.heap[pb]? = some (.cells pcs 22 (0, 0))) (hpc : ∀ k, k < n → pcs[k]? = some (.pointer (some ⟨bs k, 0, none⟩)))
    (hd : ∀ k, k < n → ∀ W, Kept [] w W → Calls Tryz.prog 9 #[.pointer (some ⟨bs k, 0, none⟩), .agg #[.int .i64 kd, .int .i64 mp, .int .i64 i, .int .i64 y0, .int .i64 y1, .int .i64 y2, .int .i64 y3]] W fun e w' => e = .returned (.bool true) ∧ Q k W w') :
    Calls Tryz.prog 21 #[.pointer (some ⟨wb, 0, none⟩), .agg #[.int .i64 kd, .int .i64 mp, .int .i64 i, .int .i64 y0, .int .i64 y1, .int .i64 y2, .int .i64 y3]] w fun e w' => e = .returned (.bool true) ∧ ∃ k W, k < n ∧ Kept [] w W ∧ Q k W w' := by
  have zb := lt_of_block hb
  have e1 : (kd == 1) = false := beq_eq_false_iff_ne.2 (by omega)
  have e4 : (kd == 4) = false := beq_eq_false_iff_ne.2 (by omega)
  have h2 : ¬ kd < 2 := by omega
  have h5 : ¬ 5 < kd := by omega
  have hnz : ((n : Int) == 0) = false := beq_eq_false_iff_ne.2 (by omega)
  have d0 : w.cell? ⟨wb, 0, none⟩ = some (.slice (some ⟨pb, 0, none⟩) n cap) := cell_of hb 0
  have ho : (w.alloc (.cells #[Value.int .i64 kd, .int .i64 mp, .int .i64 i, .int .i64 y0, .int .i64 y1, .int .i64 y2, .int .i64 y3] 34)).heap[w.heap.size]? = some (.cells #[Value.int .i64 kd, .int .i64 mp, .int .i64 i, .int .i64 y0, .int .i64 y1, .int .i64 y2, .int .i64 y3] 34 (0, 0)) := block_alloc_new _ _
  have hK : Kept [] w (w.alloc (.cells #[Value.int .i64 kd, .int .i64 mp, .int .i64 i, .int .i64 y0, .int .i64 y1, .int .i64 y2, .int .i64 y3] 34)) := (Kept.refl _ w).alloc _
  have HD : Hid _ := hd
  clear hk hd
  go_enter Tryz.func21, Tryz.ntmps21
  go_wp2_with fail
  have g0 := cell_of (hK.at hb (by simp)) 0
  have gp := fun k (hk : k < n) => (cell_of (hK.at hpb (by simp)) k).trans (hpc k hk)
  generalize (w.alloc (.cells #[Value.int .i64 kd, .int .i64 mp, .int .i64 i, .int .i64 y0, .int .i64 y1, .int .i64 y2, .int .i64 y3] 34)) = W0 at *
  have d2 : ∀ x, W0.cell? ⟨w.heap.size, x, none⟩ = #[Value.int .i64 kd, .int .i64 mp, .int .i64 i, .int .i64 y0, .int .i64 y1, .int .i64 y2, .int .i64 y3][x]? := cell_of ho
  have GP : Hid _ := gp
  clear gp
  go_region_held3 (fun w' => w'.cell? ⟨wb, 0, none⟩ = some (.slice (some ⟨pb, 0, none⟩) n cap) ∧ (∀ x, w'.cell? ⟨w.heap.size, x, none⟩ = #[Value.int .i64 kd, .int .i64 mp, .int .i64 i, .int .i64 y0, .int .i64 y1, .int .i64 y2, .int .i64 y3][x]?) ∧ (∀ k, k < n → w'.cell? ⟨pb, k, none⟩ = some (.pointer (some ⟨bs k, 0, none⟩))))
    (first | exact ⟨g0, d2, GP.out⟩)
    (first | (go_at_call 40; refine (pickV mp n h0 hn hm1 hm2 _).mono ?_; rintro e w1 ⟨k, hkn, rfl, rfl⟩))
  go_wp2_with fail
  refine (HD.out k hkn _ hK.drew).mono ?_
  rintro e w2 ⟨rfl, hq⟩
  have HQ : Hid _ := hq
  clear hq g0 d2 d0
  go_wp2
  go_ret
  exact ⟨rfl, k, _, hkn, hK.drew, HQ.out⟩
end Go.Proofs.YtmnkphenobfbfaaGreat
namespace Go.Proofs.YtmnkphenobfbfaaGreat
open Go.RowKit
structure VOut (wb : Nat) (ds : List PD) (L c : Nat) (w0 w' : World) : Prop where
  out : ∃ ds' L', L' ≤ L + 2 ∧ ds.length ≤ ds'.length ∧ ds'.length ≤ ds.length + 1 ∧ (∀ (k : Nat) (d : PD), ds'[k]? = some d → d.m.nc ≤ c + 1) ∧ VL wb ds' L' w0 w'
/-- New, refused. -/
theorem vnew_no (wb : Nat) (mp i y0 y1 y2 y3 : Int) (w : World) (hi : i < 1 ∨ 6 < i) :
    Calls Tryz.prog 21 #[.pointer (some ⟨wb, 0, none⟩), .agg #[.int .i64 1, .int .i64 mp, .int .i64 i, .int .i64 y0, .int .i64 y1, .int .i64 y2, .int .i64 y3]] w fun e w' => e = .returned (.bool true) ∧ Kept [] w w' := by
  go_enter Tryz.func21, Tryz.ntmps21
  go_wp2_with fail
  refine (open_no i _ hi).mono ?_
  rintro e w' ⟨rfl, rfl⟩
  go_wp2
  go_ret
  exact ⟨rfl, (Kept.refl [] w).alloc _⟩
structure VNew (wb n : Nat) (ds : List PD) (L : Nat) (w0 w' : World) : Prop where
  out : ∃ d : PD, d.m = M.new n ∧ VL wb (ds ++ [d]) L w0 w'
set_option maxRecDepth 100000 in
set_option maxHeartbeats 3200000 in
/-- New: one map more. -/
theorem vnew_yes (wb n : Nat) (ds : List PD) (L : Nat) (mp y0 y1 y2 y3 : Int) (w0 w : World) (h : VL wb ds L w0 w) (h1 : 1 ≤ n) (h6 : n ≤ 6) (hn : ds.length ≤ 2000000) :
    Calls Tryz.prog 21 #[.pointer (some ⟨wb, 0, none⟩), .agg #[.int .i64 1, .int .i64 mp, .int .i64 n, .int .i64 y0, .int .i64 y1, .int .i64 y2, .int .i64 y3]] w fun e w' => e = .returned (.bool true) ∧ VNew wb n ds L w0 w' := by
  obtain ⟨i1, hi1, hy0, hy1, hy2⟩ := info_parts info22
  obtain ⟨ps, ls, l3, xs, ys, hb, hrow, hl⟩ := h.at_
  have hw := h.kept
  have hz := h.wbz
  have zb := lt_of_block hb
  have hK : Kept [] w (w.alloc (.cells #[.int .i64 1, .int .i64 mp, .int .i64 n, .int .i64 y0, .int .i64 y1, .int .i64 y2, .int .i64 y3] 34)) := (Kept.refl _ w).alloc _
  have HV : Hid _ := h
  have HROW : Hid _ := hrow
  clear h hl hrow
  go_enter Tryz.func21, Tryz.ntmps21
  go_wp2_with fail
  generalize (w.alloc (.cells #[.int .i64 1, .int .i64 mp, .int .i64 n, .int .i64 y0, .int .i64 y1, .int .i64 y2, .int .i64 y3] 34)) = W0 at *
  refine (open_gen n W0 h1 h6).mono ?_
  rintro e w1 ⟨b, p, r, tb, rfl, hT, k1, hzb, hf⟩
  have K1 := hK.trans k1
  have hb1 := K1.at hb (by simp)
  have d0 : w1.cell? ⟨wb, 0, none⟩ = some ps := cell_of hb1 0
  have zb1 := lt_of_block hb1
  have kz := K1.size
  have hz1 := hw.size
  have zW := hK.size
  have row0 : (w1.alloc (.cells #[.pointer (some ⟨b, 0, none⟩)] 22)).ownsRow w0.heap.size 22 1 ps ds.length (ds.map fun d => .pointer (some ⟨d.b, 0, none⟩)) := row_kept (row_kept HROW.out K1 (by simp)) ((Kept.refl [] w1).alloc (.cells #[.pointer (some ⟨b, 0, none⟩)] 22)) (by simp)
  have hno : ps.ownBlock ≠ some wb := fun e => by
    obtain ⟨cs, hc, _⟩ := row_own HROW.out e
    rw [hb] at hc
    simp at hc
  have HF : Hid _ := And.intro hT hf
  have ROW : Hid _ := row0
  clear hT hf row0
  go_wp2_with (at_builtin; go_must (refine wpList_append_lies _ rfl _ _ _ rfl w0.heap.size 22 i1 _ 1 8 Tryz.underlying61 hi1 hy0 hy1 hy2 rfl (by omega) ps ds.length _ rfl ROW.out ⟨w1.heap.size, 0, none⟩ 1 1 [.pointer (some ⟨b, 0, none⟩)] rfl rfl (news1 w1 _ 22) (by simp [Value.oneCell']) (by omega) (by unfold maxLen; omega) (by omega) (by simp; omega) (w1.heap.size + 1) (by simp) ?_); intro g cap w2 hown1 hgrow hat hlt1; have hm1 := (hgrow.block wb (by simp; omega) (fun e => hno e.symm)).trans (block_alloc_lt hb1 _); have s4 := cell_of hm1 0; have sf := frozen_of hm1 0)
  go_ret
  refine ⟨rfl, ⟨⟨b, p, fun _ => 0, r, tb, .slice none 0 0, M.new n⟩, rfl, ?_⟩⟩
  have kg : Kept ps.ownBlock.toList (w1.alloc (.cells #[.pointer (some ⟨b, 0, none⟩)] 22)) w2 := Kept.ofGrown hgrow
  have k12 : Kept ps.ownBlock.toList w1 w2 := ((Kept.refl _ w1).alloc _).trans kg
  have k3 : Kept (wb :: ps.ownBlock.toList) w1 (w2.setCell ⟨wb, 0, none⟩ (.slice (some ⟨g, 0, none⟩) (ds.length + 1) cap)) := (k12.mono (fun x hx => List.mem_cons_of_mem _ hx)).setCell (.inl (by simp)) _
  have V1 := HV.out.keptNil K1
  obtain ⟨ps', ls', l3', xs', ys', c1, c2, c3⟩ := V1.at_
  have hpp : ps' = ps ∧ ls' = ls ∧ l3' = l3 := by
    rw [hb1] at c1
    simp only [Option.some.injEq, Obj.cells.injEq, and_true] at c1
    have := c1
    simp only [Array.mk.injEq, List.cons.injEq, and_true] at this
    exact ⟨this.1.symm, this.2.1.symm, this.2.2.symm⟩
  obtain ⟨rfl, rfl, rfl⟩ := hpp
  have typ : ∀ x, x ∈ wb :: ps'.ownBlock.toList → ∃ cs T, w1.heap[x]? = some (.cells cs T (0, 0)) ∧ (T = 64 ∨ T = 22) := by
    intro x hx
    rcases List.mem_cons.1 hx with rfl | hx
    · exact ⟨_, _, hb1, .inl rfl⟩
    · obtain ⟨cs, hc, _⟩ := row_own c2 (by simpa using hx)
      exact ⟨_, _, hc, .inr rfl⟩
  have offT : ∀ (x : Nat) (cs : Array Value) (T : TypeId), w1.heap[x]? = some (.cells cs T (0, 0)) → T ≠ 64 → T ≠ 22 → x ∉ wb :: ps'.ownBlock.toList := by
    intro x cs T hx n1 n2 hm
    obtain ⟨cs', T', e, hT⟩ := typ x hm
    rw [hx] at e
    simp only [Option.some.injEq, Obj.cells.injEq] at e
    rcases hT with q | q
    · exact n1 (e.2.1.trans q)
    · exact n2 (e.2.1.trans q)
  have offD : ∀ (d : PD), d.At w0.heap.size w1 → ∀ x, x ∈ d.f → x ∉ wb :: ps'.ownBlock.toList := by
    intro d hd x hx hm
    obtain ⟨cs', T', e, hT⟩ := typ x hm
    refine hd.off e ?_ ?_ ?_ ?_ ?_ ?_ ?_ hx <;> rcases hT with rfl | rfl <;> decide
  have keep : ∀ (d : PD), d.At w0.heap.size w1 → d.At w0.heap.size (w2.setCell ⟨wb, 0, none⟩ (.slice (some ⟨g, 0, none⟩) (ds.length + 1) cap)) := fun d hd => hd.kept k3 (offD d hd) (fun x cs hx => offT x cs _ hx (by decide) (by decide)) (fun x cs hx => offT x cs _ hx (by decide) (by decide))
  have hnew : PD.At ⟨b, p, fun _ => 0, r, tb, .slice none 0 0, M.new n⟩ w0.heap.size w1 := HF.out.1 w0.heap.size (by omega)
  have hfr : ∀ x, x ∈ PD.f ⟨b, p, fun _ => 0, r, tb, .slice none 0 0, M.new n⟩ → w.heap.size ≤ x := fun x hx => Nat.le_trans zW (HF.out.2 x hx)
  have get : ∀ (j : Nat) (c : PD), (ds ++ [⟨b, p, fun _ => 0, r, tb, .slice none 0 0, M.new n⟩])[j]? = some c → ds[j]? = some c ∨ (j = ds.length ∧ c = ⟨b, p, fun _ => 0, r, tb, .slice none 0 0, M.new n⟩) := by
    intro j c hc
    rw [List.getElem?_append] at hc
    split at hc
    · exact .inl hc
    · rename_i hj
      have hj0 : j - ds.length = 0 := by
        have := (List.getElem?_eq_some_iff.1 hc).1
        simp at this
        omega
      rw [hj0] at hc
      simp only [List.getElem?_cons_zero, Option.some.injEq] at hc
      exact .inr ⟨by omega, hc.symm⟩
  refine ⟨fun j c hc => ?_, fun j c hc x hx => ?_, fun j j' c c' hc hc' hne x hx hx' => ?_, ⟨Value.slice (some ⟨g, 0, none⟩) (ds.length + 1) cap, ls', l3', xs', ys', ?_, ?_, ?_⟩, hz, ?_⟩
  · rcases get j c hc with hc | ⟨_, rfl⟩
    · exact keep c (V1.pair j c hc)
    · exact keep _ hnew
  · rcases get j c hc with hc | ⟨_, rfl⟩
    · exact HV.out.low j c hc x hx
    · exact Nat.le_trans hz1 (hfr x hx)
  · rcases get j c hc with hc | ⟨ej, rfl⟩
    · rcases get j' c' hc' with hc' | ⟨ej', rfl⟩
      · exact HV.out.apart j j' c c' hc hc' hne x hx hx'
      · have := (HV.out.pair j c hc).lt x hx
        have := hfr x hx'
        omega
    · rcases get j' c' hc' with hc' | ⟨ej', rfl⟩
      · have := (HV.out.pair j' c' hc').lt x hx'
        have := hfr x hx
        omega
      · omega
  · rw [block_set_same hm1]; rfl
  · have hg : g ≠ wb := fun e => by
      subst e
      rcases hown1.2 with ⟨q, _⟩ | ⟨g', cap', cur, q, _, e3, _⟩
      · simp at q
      · simp only [Value.slice.injEq, Option.some.injEq, Addr.mk.injEq] at q
        rw [← q.1.1] at e3
        rw [hm1] at e3
        simp at e3
    have := row_kept hown1 ((Kept.refl [wb] w2).setCell (p := ⟨wb, 0, none⟩) (.inl (by simp)) (.slice (some ⟨g, 0, none⟩) (ds.length + 1) cap)) (fun g' hg' => by
      simp only [Value.ownBlock, Option.some.injEq] at hg'
      subst hg'
      simpa using hg)
    simpa using this
  · refine c3.kept k3 (fun y hy cs => ⟨fun q => ?_, fun q => ?_⟩)
    · exact offT y cs _ q (by decide) (by decide) hy
    · exact offT y cs _ q (by decide) (by decide) hy
  · refine (hw.trans K1).drop k3 (fun x hx hlt => ?_)
    rcases List.mem_cons.1 hx with rfl | hx
    · omega
    · obtain ⟨_, _, q⟩ := row_own c2 (by simpa using hx)
      omega
end Go.Proofs.YtmnkphenobfbfaaGreat
namespace Go.Proofs.YtmnkphenobfbfaaGreat
open Go.RowKit
theorem flat_len (l : List (Int × Int × Int)) : (flat l).length = l.length * 3 := by
  induction l with
  | nil => rfl
  | cons t l ih => simp only [flat, List.length_cons, ih]; omega
theorem rowI_size (f : Nat → Int) (X : Nat → Int × Int) : (rowI f X 8).toArray.size = cnt f 8 * 3 := by
  rw [List.size_toArray, rowI_flat, flat_len, tri_len]
theorem Good.lt {w : World} {x : Value} {m : Int} (h : Good w x m) {g : Nat} (hg : x.ownBlock = some g) : g < w.heap.size := by
  obtain ⟨g', n, cap, cs, rfl, _, h3, _⟩ := h.good
  simp only [Value.ownBlock, Option.some.injEq] at hg
  subst hg
  exact lt_of_block h3
theorem rows25_took {wb B L b : Nat} {cells : Array Value} {ls l3 : Value} {xs ys : List Value} {w : World} {X : Array Value} (hb : w.heap[wb]? = some (.cells cells 64 (0, 0))) (h : LAt B ls l3 L xs ys w) (hl : w.heap[b]? = some (.cells X 84 (0, 0))) :
    ∀ y, y ∈ b :: wb :: (ls.ownBlock.toList ++ l3.ownBlock.toList) → ∃ cs T, w.heap[y]? = some (.cells cs T (0, 0)) ∧ (T = 84 ∨ T = 64 ∨ T = 25) := by
  intro y hy
  rcases List.mem_cons.1 hy with rfl | hy
  · exact ⟨_, _, hl, .inl rfl⟩
  · obtain ⟨cs, q | q⟩ := rows25_of hb h y hy
    · exact ⟨cs, _, q, .inr (.inl rfl)⟩
    · exact ⟨cs, _, q, .inr (.inr rfl)⟩
/-- A list more. -/
theorem VL.took {wb : Nat} {ds : List PD} {L : Nat} {w0 W w' : World} (h : VL wb ds L w0 W) {ps ls l3 ls' l3' : Value} {xs ys xs' ys' : List Value} {b : Nat} {X : Array Value} (e1 : W.heap[wb]? = some (.cells #[ps, ls, l3] 64 (0, 0)))
    (e2 : W.ownsRow w0.heap.size 22 1 ps ds.length (ds.map fun d => .pointer (some ⟨d.b, 0, none⟩))) (e3 : LAt w0.heap.size ls l3 L xs ys W) (hb : W.heap[b]? = some (.cells X 84 (0, 0))) (hbz : w0.heap.size ≤ b)
    (k : Kept (b :: wb :: (ls.ownBlock.toList ++ l3.ownBlock.toList)) W w') (h4 : w'.heap[wb]? = some (.cells #[ps, ls', l3'] 64 (0, 0))) (l4 : LAt w0.heap.size ls' l3' (L + 1) xs' ys' w') :
    VL wb ds (L + 1) w0 w' ∧ w'.ownsRow w0.heap.size 22 1 ps ds.length (ds.map fun d => .pointer (some ⟨d.b, 0, none⟩)) := by
  have typ := rows25_took e1 e3 hb
  have offT : ∀ (x : Nat) (cs : Array Value) (T : TypeId), W.heap[x]? = some (.cells cs T (0, 0)) → T ≠ 84 → T ≠ 64 → T ≠ 25 → x ∉ b :: wb :: (ls.ownBlock.toList ++ l3.ownBlock.toList) := by
    intro x cs T hx n1 n2 n3 hm
    obtain ⟨cs', T', e, hT⟩ := typ x hm
    rw [hx] at e
    simp only [Option.some.injEq, Obj.cells.injEq] at e
    rcases hT with q | q | q
    · exact n1 (e.2.1.trans q)
    · exact n2 (e.2.1.trans q)
    · exact n3 (e.2.1.trans q)
  have row : w'.ownsRow w0.heap.size 22 1 ps ds.length (ds.map fun d => .pointer (some ⟨d.b, 0, none⟩)) := row_kept e2 k fun g hg => by
    obtain ⟨cs, hc, _⟩ := row_own e2 hg
    exact offT g cs _ hc (by decide) (by decide) (by decide)
  refine ⟨⟨fun j d hd => (h.pair j d hd).kept k (fun x hx hm => ?_) (fun x cs hx => offT x cs _ hx (by decide) (by decide) (by decide)) (fun x cs hx => offT x cs _ hx (by decide) (by decide) (by decide)), h.low, h.apart, ⟨ps, ls', l3', xs', ys', h4, row, l4⟩, h.wbz, h.kept.drop k fun x hx hlt => ?_⟩, row⟩
  · obtain ⟨cs', T', e, hT⟩ := typ x hm
    refine (h.pair j d hd).off e ?_ ?_ ?_ ?_ ?_ ?_ ?_ hx <;> rcases hT with rfl | rfl | rfl <;> decide
  · have hz := h.wbz
    simp at hx
    rcases hx with rfl | rfl | hx | hx
    · omega
    · omega
    · obtain ⟨_, _, q⟩ := own_lt e3.row hx; omega
    · obtain ⟨_, _, q⟩ := own_lt e3.row3 hx; omega
theorem set_self {ds : List PD} {k : Nat} {d : PD} (hk : ds[k]? = some d) : ds.set k d = ds := by
  have hl := (List.getElem?_eq_some_iff.1 hk).1
  apply List.ext_getElem?
  intro j
  rw [List.getElem?_set]
  by_cases e : k = j
  · rw [if_pos e, if_pos (by omega), ← e, hk]
  · rw [if_neg e]
structure VLooked (wb : Nat) (ds : List PD) (L : Nat) (w0 w' : World) : Prop where
  out : VL wb ds (L + 2) w0 w'
set_option maxRecDepth 100000 in
set_option maxHeartbeats 3200000 in
theorem vlook (wb : Nat) (ds : List PD) (L : Nat) (mp i y0 y1 y2 y3 : Int) (w0 w : World) (h : VL wb ds L w0 w) (h0 : 0 < ds.length) (hn : ds.length ≤ 2000000) (hm1 : -9223372036854775808 ≤ mp) (hm2 : mp ≤ 9223372036854775807) (hL : L + 1 ≤ 4000000) :
    Calls Tryz.prog 21 #[.pointer (some ⟨wb, 0, none⟩), .agg #[Value.int .i64 4, .int .i64 mp, .int .i64 i, .int .i64 y0, .int .i64 y1, .int .i64 y2, .int .i64 y3]] w fun e w' => e = .returned (.bool true) ∧ VLooked wb ds L w0 w' := by
  obtain ⟨pb, cap, ls, l3, xs, ys, pcs, hb, hpb, -, hpc, hl⟩ := h.row h0
  have hrow : w.ownsRow w0.heap.size 22 1 (.slice (some ⟨pb, 0, none⟩) ds.length cap) ds.length (ds.map fun d => .pointer (some ⟨d.b, 0, none⟩)) := by
    obtain ⟨ps, ls', l3', xs', ys', a1, a2, _⟩ := h.at_
    rw [hb] at a1
    simp only [Option.some.injEq, Obj.cells.injEq, and_true] at a1
    simp only [Array.mk.injEq, List.cons.injEq, and_true] at a1
    rw [a1.1]; exact a2
  have hnz : ((ds.length : Int) == 0) = false := beq_eq_false_iff_ne.2 (by omega)
  have hB := h.kept.size
  have zb := lt_of_block hb
  have d0 : w.cell? ⟨wb, 0, none⟩ = some (.slice (some ⟨pb, 0, none⟩) ds.length cap) := cell_of hb 0
  have ho := block_alloc_new w (.cells #[Value.int .i64 4, .int .i64 mp, .int .i64 i, .int .i64 y0, .int .i64 y1, .int .i64 y2, .int .i64 y3] 34)
  have hK : Kept [] w (w.alloc (.cells #[Value.int .i64 4, .int .i64 mp, .int .i64 i, .int .i64 y0, .int .i64 y1, .int .i64 y2, .int .i64 y3] 34)) := (Kept.refl _ w).alloc _
  have HL : Hid _ := hl
  have HV : Hid _ := h
  have HROW : Hid _ := hrow
  clear hl h hrow
  go_enter Tryz.func21, Tryz.ntmps21
  go_wp2_with fail
  have g0 := cell_of (hK.at hb (by simp)) 0
  have gp : ∀ (k : Nat) (d : PD), ds[k]? = some d → (w.alloc (.cells #[Value.int .i64 4, .int .i64 mp, .int .i64 i, .int .i64 y0, .int .i64 y1, .int .i64 y2, .int .i64 y3] 34)).cell? ⟨pb, k, none⟩ = some (.pointer (some ⟨d.b, 0, none⟩)) := fun k d hk => (cell_of (hK.at hpb (by simp)) k).trans (hpc k d hk)
  generalize (w.alloc (.cells #[Value.int .i64 4, .int .i64 mp, .int .i64 i, .int .i64 y0, .int .i64 y1, .int .i64 y2, .int .i64 y3] 34)) = W0 at *
  have d2 : ∀ x, W0.cell? ⟨w.heap.size, x, none⟩ = #[Value.int .i64 4, .int .i64 mp, .int .i64 i, .int .i64 y0, .int .i64 y1, .int .i64 y2, .int .i64 y3][x]? := cell_of ho
  have gq : ∀ k, k < ds.length → W0.cell? ⟨pb, k, none⟩ = some (.pointer (some ⟨((ds[k]?).map PD.b).getD 0, 0, none⟩)) := by
    intro k hk
    rw [List.getElem?_eq_getElem hk]
    exact gp k _ (List.getElem?_eq_getElem hk)
  have GP : Hid _ := gq
  clear gp gq
  go_region_held3 (fun w' => w'.cell? ⟨wb, 0, none⟩ = some (.slice (some ⟨pb, 0, none⟩) ds.length cap) ∧ (∀ x, w'.cell? ⟨w.heap.size, x, none⟩ = #[Value.int .i64 4, .int .i64 mp, .int .i64 i, .int .i64 y0, .int .i64 y1, .int .i64 y2, .int .i64 y3][x]?) ∧ (∀ k, k < ds.length → w'.cell? ⟨pb, k, none⟩ = some (.pointer (some ⟨((ds[k]?).map PD.b).getD 0, 0, none⟩))))
    (first | exact ⟨g0, d2, GP.out⟩)
    (first | (go_at_call 40; refine (pickV mp ds.length h0 hn hm1 hm2 _).mono ?_; rintro e w1 ⟨k, hkn, rfl, rfl⟩))
  go_wp2_with fail
  have hk4 : ds[k]? = some ds[k] := List.getElem?_eq_getElem hkn
  generalize ds[k] = d at hk4 ⊢
  have hd := HV.out.pair k d hk4
  refine (pair_seen (hd.keptNil hK.drew)).mono ?_
  rintro e w2 ⟨b1, b2, rfl, hb1, hb2, hz1, hz2, hz3, hT2, k2⟩
  clear g0 d2 d0
  have K2 : Kept d.f w w2 := (hK.drew.mono (by simp)).trans (k2.mono fun x hx => List.mem_append_left _ hx)
  have V2 : VL wb ds L w0 w2 := by
    have := HV.out.after hk4 K2 hT2 rfl (fun x hx => .inl hx)
    rwa [set_self hk4] at this
  have hbW := K2.at hb (hd.off hb (by decide) (by decide) (by decide) (by decide) (by decide) (by decide) (by decide))
  have lW : LAt w0.heap.size ls l3 L xs ys w2 := HL.out.kept K2 (fun y hy cs => ⟨fun q => hd.off q (by decide) (by decide) (by decide) (by decide) (by decide) (by decide) (by decide) hy, fun q => hd.off q (by decide) (by decide) (by decide) (by decide) (by decide) (by decide) (by decide) hy⟩)
  have rW := row_kept HROW.out K2 (fun g hg => by obtain ⟨cs, hc, _⟩ := row_own HROW.out hg; exact hd.off hc (by decide) (by decide) (by decide) (by decide) (by decide) (by decide) (by decide))
  have zw : w.heap.size ≤ b1 := Nat.le_trans hK.drew.size hz1
  have zw2 : w.heap.size ≤ b2 := Nat.le_trans hK.drew.size hz2
  have hx1 : ∀ (k : Nat) (x : Value), xs[k]? = some x → ∀ g, x.ownBlock = some g → g < w.heap.size := fun k x hk g hg => (HL.out.good k x hk).lt hg
  have hx2 : ∀ (k : Nat) (y : Value), ys[k]? = some y → ∀ g, y.ownBlock = some g → g < w.heap.size := fun k y hk g hg => (HL.out.good3 k y hk).lt hg
  generalize hVB : (Obj.cells #[Value.slice (some ⟨b1, 0, none⟩) (cnt d.m.read 8) (cnt d.m.read 8), .bool d.m.am, .bool d.m.hd, .slice (some ⟨b2, 0, none⟩) (cnt d.m.dirty 8) (cnt d.m.dirty 8), .int .i64 d.m.mis, .int .i64 d.m.hol] 27 (0, 0)) = VB at *
  have hv := block_alloc_new w2 VB
  have a1 := block_alloc_lt hb1 VB
  have a2 := block_alloc_lt hb2 VB
  have aW := block_alloc_lt hbW VB
  have kv : Kept [] w2 (w2.alloc VB) := (Kept.refl [] w2).alloc VB
  have lV := lW.keptNil kv
  have rV := row_kept rW kv (by simp)
  have V3 := V2.keptNil kv
  have zV := Nat.le_trans hB (K2.alloc VB).size
  subst hVB
  have HVV : Hid _ := And.intro V3 (And.intro rV lV)
  have HX1 : Hid _ := hx1
  have HX2 : Hid _ := hx2
  clear lV rV V3 lW rW V2 hT2 hx1 hx2 kv
  go_wp2_with fail
  generalize (w2.alloc (.cells #[Value.slice (some ⟨b1, 0, none⟩) (cnt d.m.read 8) (cnt d.m.read 8), .bool d.m.am, .bool d.m.hd, .slice (some ⟨b2, 0, none⟩) (cnt d.m.dirty 8) (cnt d.m.dirty 8), .int .i64 d.m.mis, .int .i64 d.m.hol] 27)) = W3 at *
  refine (takes_gen wb w0.heap.size L b1 (cnt d.m.read 8) (cnt_le _ _) _ ls l3 xs ys W3 aW HVV.out.2.2 (by omega) zV _ (rowI_size _ _) a1 (fun k x hk hg => by have := HX1.out k x hk b1 hg; omega) (fun k y hk hg => by have := HX2.out k y hk b1 hg; omega)).mono ?_
  rintro e w4 ⟨rfl, T4⟩
  obtain ⟨ls4, l34, ys4, h4, l4, k4, y4⟩ := T4.out
  have off4 : ∀ (x : Nat) (cs : Array Value) (T : TypeId), W3.heap[x]? = some (.cells cs T (0, 0)) → x ≠ b1 → T ≠ 64 → T ≠ 25 → x ∉ b1 :: wb :: (ls.ownBlock.toList ++ l3.ownBlock.toList) := by
    intro x cs T hx hne h1 h2 hm
    rcases List.mem_cons.1 hm with e | hm
    · exact hne e
    · obtain ⟨c', q | q⟩ := rows25_of aW HVV.out.2.2 x hm
      · rw [hx] at q; simp only [Option.some.injEq, Obj.cells.injEq] at q; exact h1 q.2.1
      · rw [hx] at q; simp only [Option.some.injEq, Obj.cells.injEq] at q; exact h2 q.2.1
  have hvn : w2.heap.size ≠ b1 := by have := lt_of_block hb1; omega
  have hv4 := k4.at hv (off4 _ _ _ hv hvn (by decide) (by decide))
  have a24 := k4.at a2 (off4 _ _ _ a2 (Ne.symm hz3) (by decide) (by decide))
  have t4 := HVV.out.1.took aW HVV.out.2.1 HVV.out.2.2 a1 (by omega) k4 h4 l4
  have c3 : ∀ o, w4.cell? ⟨w2.heap.size, o, none⟩ = #[Value.slice (some ⟨b1, 0, none⟩) (cnt d.m.read 8) (cnt d.m.read 8), .bool d.m.am, .bool d.m.hd, .slice (some ⟨b2, 0, none⟩) (cnt d.m.dirty 8) (cnt d.m.dirty 8), .int .i64 d.m.mis, .int .i64 d.m.hol][o]? := cell_of hv4
  have z4 := Nat.le_trans zV k4.size
  have z24 := lt_of_block a2
  have HW : Hid _ := And.intro l4 t4
  have HY : Hid _ := y4
  clear l4 t4 T4 y4 off4
  go_wp2_with fail
  refine (takes_gen wb w0.heap.size (L + 1) b2 (cnt d.m.dirty 8) (cnt_le _ _) _ ls4 l34 _ ys4 w4 h4 HW.out.1 (by omega) z4 _ (rowI_size _ _) a24 (fun k x hk hg => by
      have hm := List.mem_of_getElem? hk
      simp only [List.mem_append, List.mem_singleton] at hm
      rcases hm with hm | rfl
      · obtain ⟨k', hk'⟩ := List.getElem?_of_mem hm
        have := HX1.out k' x hk' b2 hg; omega
      · simp only [Value.ownBlock, Option.some.injEq] at hg; exact hz3 hg) (fun k y hk hg => by
      rcases HY.out k y hk with ⟨k', hk'⟩ | q
      · have := HX2.out k' y hk' b2 hg; omega
      · have := q b2 hg; omega)).mono ?_
  rintro e w5 ⟨rfl, T5⟩
  obtain ⟨ls5, l35, ys5, h5, l5, k5, -⟩ := T5.out
  have HX : Hid (VLooked wb ds L w0 w5) := ⟨(HW.out.2.1.took h4 HW.out.2.2 HW.out.1 a24 (by omega) k5 h5 l5).1⟩
  clear l5 T5 c3
  go_wp2
  go_ret
  exact ⟨rfl, HX.out⟩
end Go.Proofs.YtmnkphenobfbfaaGreat
namespace Go.Proofs.YtmnkphenobfbfaaGreat
open Go.RowKit
theorem vget {ds : List PD} {k : Nat} {d d' : PD} {j : Nat} {c : PD} (hk : ds[k]? = some d) (hc : (ds.set k d')[j]? = some c) : c = d' ∨ ds[j]? = some c := by
  have hk' := (List.getElem?_eq_some_iff.1 hk).1
  rw [List.getElem?_set] at hc
  by_cases e : k = j
  · rw [if_pos e] at hc
    subst e
    rw [if_pos hk'] at hc
    exact .inl (Option.some.inj hc).symm
  · rw [if_neg e] at hc
    exact .inr hc
/-- A step of a World. -/
theorem vgo (wb : Nat) (ds : List PD) (L c : Nat) (kd mp i y0 y1 y2 y3 : Int) (w0 w : World) (h : VL wb ds L w0 w) (hc : ∀ (k : Nat) (d : PD), ds[k]? = some d → d.m.nc ≤ c) (hcc : c < 1000000) (hn : ds.length ≤ 1000000) (hL : L + 1 ≤ 4000000) (hm1 : -9223372036854775808 ≤ mp) (hm2 : mp ≤ 9223372036854775807) (hne : kd ≠ 1 → 0 < ds.length) :
    Calls Tryz.prog 21 #[.pointer (some ⟨wb, 0, none⟩), .agg #[.int .i64 kd, .int .i64 mp, .int .i64 i, .int .i64 y0, .int .i64 y1, .int .i64 y2, .int .i64 y3]] w fun e w' => e = .returned (.bool true) ∧ VOut wb ds L c w0 w' := by
  have same : ∀ w', VL wb ds L w0 w' → VOut wb ds L c w0 w' := fun w' hw => ⟨ds, L, by omega, Nat.le_refl _, by omega, fun k d hk => by have := hc k d hk; omega, hw⟩
  by_cases h1 : kd = 1
  · subst h1
    by_cases hi : i < 1 ∨ 6 < i
    · refine (vnew_no wb mp i y0 y1 y2 y3 w hi).mono ?_
      rintro e w' ⟨rfl, k⟩
      exact ⟨rfl, same w' (h.keptNil k)⟩
    · obtain ⟨n, rfl⟩ := Int.eq_ofNat_of_zero_le (show 0 ≤ i by omega)
      refine (vnew_yes wb n ds L mp y0 y1 y2 y3 w0 w h (by omega) (by omega) (by omega)).mono ?_
      rintro e w' ⟨rfl, hv⟩
      obtain ⟨d, hd, hV⟩ := hv.out
      refine ⟨rfl, ⟨ds ++ [d], L, by omega, by simp, by simp, fun k c' hk => ?_, hV⟩⟩
      rw [List.getElem?_append] at hk
      split at hk
      · have := hc k c' hk; omega
      · have hm := List.mem_of_getElem? hk
        simp only [List.mem_singleton] at hm
        rw [hm, hd]
        exact Nat.zero_le _
  · by_cases ho : kd < 2 ∨ 5 < kd
    · refine (wstep_other wb kd mp i y0 y1 y2 y3 w h1 ho).mono ?_
      rintro e w' ⟨rfl, k⟩
      exact ⟨rfl, same w' (h.keptNil k)⟩
    · have h0 := hne h1
      by_cases h4 : kd = 4
      · subst h4
        refine (vlook wb ds L mp i y0 y1 y2 y3 w0 w h h0 (by omega) hm1 hm2 hL).mono ?_
        rintro e w' ⟨rfl, hl⟩
        exact ⟨rfl, ⟨ds, L + 2, Nat.le_refl _, Nat.le_refl _, by omega, fun k d hk => by have := hc k d hk; omega, hl.out⟩⟩
      · obtain ⟨pb, cap, ls, l3, xs, ys, pcs, e1, e2, -, e4, -⟩ := h.row h0
        have ex : ∀ k, k < ds.length → ∃ d, ds[k]? = some d := fun k hk => ⟨_, List.getElem?_eq_getElem hk⟩
        have hbs : ∀ k, k < ds.length → pcs[k]? = some (.pointer (some ⟨((ds[k]?).map PD.b).getD 0, 0, none⟩)) := by
          intro k hk
          obtain ⟨d, hd⟩ := ex k hk
          rw [hd]
          exact e4 k d hd
        have fin : ∀ {k : Nat} {d d' : PD} {W w' : World}, ds[k]? = some d → Kept [] w W → Kept d.f W w' → d'.At w0.heap.size w' → d'.b = d.b → (∀ x, x ∈ d'.f → x ∈ d.f ∨ W.heap.size ≤ x) → d'.m.nc ≤ c + 1 → VOut wb ds L c w0 w' := by
          intro k d d' W w' hk hW hK hd' hb hf hnc
          refine ⟨ds.set k d', L, by omega, by simp, by simp, fun j q hq => ?_, (h.keptNil hW).after hk hK hd' hb hf⟩
          rcases vget hk hq with rfl | hq
          · exact hnc
          · have := hc j q hq; omega
        by_cases hk2 : kd = 2
        · subst hk2
          refine (vdoes wb ds.length pb cap _ ls l3 pcs 2 mp i y0 y1 y2 y3 w (fun k W w' => ∀ d, ds[k]? = some d → PD.At { d with m := (d.m.begin i y0 y1 y2 y3).2 } w0.heap.size w' ∧ Kept d.f W w') (by omega) h0 (by omega) hm1 hm2 e1 e2 hbs (fun k hk W hW => ?_)).mono ?_
          · obtain ⟨d, hd⟩ := ex k hk
            rw [hd]
            refine (pair_begin ((h.pair k d hd).keptNil hW) mp i y0 y1 y2 y3).mono ?_
            rintro e w' ⟨rfl, hp, hK⟩
            refine ⟨rfl, fun d' hd' => ?_⟩
            obtain rfl := Option.some.inj hd'
            exact ⟨hp, hK⟩
          · rintro e w' ⟨rfl, k, W, hk, hW, hQ⟩
            obtain ⟨d, hd⟩ := ex k hk
            obtain ⟨hp, hK⟩ := hQ d hd
            have hnc := begin_nc d.m i y0 y1 y2 y3
            refine ⟨rfl, fin hd hW hK hp rfl (fresh_in (fun _ _ => rfl) (fun j a b => absurd b (by rw [hnc]; omega)) (fun g hg => .inl hg)) ?_⟩
            have := hc k d hd
            show (d.m.begin i y0 y1 y2 y3).2.nc ≤ c + 1
            omega
        · by_cases hk3 : kd = 3
          · subst hk3
            refine (vdoes wb ds.length pb cap _ ls l3 pcs 3 mp i y0 y1 y2 y3 w (fun k W w' => ∀ d, ds[k]? = some d → (∃ en' sl', PD.At ⟨d.b, d.p, en', d.r, d.tb, sl', (d.m.step i).o.m⟩ w0.heap.size w' ∧ (∀ j, j < d.m.nc → en' j = d.en j) ∧ (∀ j, d.m.nc ≤ j → j < (d.m.step i).o.m.nc → W.heap.size ≤ en' j) ∧ (∀ g, sl'.ownBlock = some g → d.sl.ownBlock = some g ∨ W.heap.size ≤ g)) ∧ Kept d.f W w') (by omega) h0 (by omega) hm1 hm2 e1 e2 hbs (fun k hk W hW => ?_)).mono ?_
            · obtain ⟨d, hd⟩ := ex k hk
              rw [hd]
              have hcd := hc k d hd
              refine (pair_step ((h.pair k d hd).keptNil hW) (by omega) mp i y0 y1 y2 y3).mono ?_
              rintro e w' ⟨rfl, hp, hK⟩
              refine ⟨rfl, fun d' hd' => ?_⟩
              obtain rfl := Option.some.inj hd'
              exact ⟨hp, hK⟩
            · rintro e w' ⟨rfl, k, W, hk, hW, hQ⟩
              obtain ⟨d, hd⟩ := ex k hk
              obtain ⟨⟨en', sl', hp, q1, q2, q3⟩, hK⟩ := hQ d hd
              have hnc := step_nc d.m i
              refine ⟨rfl, fin hd hW hK hp rfl (fresh_in q1 q2 q3) ?_⟩
              have := hc k d hd
              show (d.m.step i).o.m.nc ≤ c + 1
              omega
          · obtain rfl : kd = 5 := by omega
            refine (vdoes wb ds.length pb cap _ ls l3 pcs 5 mp i y0 y1 y2 y3 w (fun k W w' => ∀ d, ds[k]? = some d → PD.At { d with m := { d.m with cl := true } } w0.heap.size w' ∧ Kept d.f W w') (by omega) h0 (by omega) hm1 hm2 e1 e2 hbs (fun k hk W hW => ?_)).mono ?_
            · obtain ⟨d, hd⟩ := ex k hk
              rw [hd]
              refine (pair_close ((h.pair k d hd).keptNil hW) mp i y0 y1 y2 y3).mono ?_
              rintro e w' ⟨rfl, hp, hK⟩
              refine ⟨rfl, fun d' hd' => ?_⟩
              obtain rfl := Option.some.inj hd'
              exact ⟨hp, hK⟩
            · rintro e w' ⟨rfl, k, W, hk, hW, hQ⟩
              obtain ⟨d, hd⟩ := ex k hk
              obtain ⟨hp, hK⟩ := hQ d hd
              refine ⟨rfl, fin hd hW hK hp rfl (fun x hx => .inl hx) ?_⟩
              have := hc k d hd
              show d.m.nc ≤ c + 1
              omega
theorem VL.empty {wb : Nat} {w0 w : World} (hb : w.heap[wb]? = some (.cells #[.slice none 0 0, .slice none 0 0, .slice none 0 0] 64 (0, 0))) (hw : Kept [] w0 w) (hz : w0.heap.size ≤ wb) : VL wb [] 0 w0 w :=
  ⟨fun k d hd => by simp at hd, fun k d hd => by simp at hd, fun k k' d d' hd => by simp at hd, ⟨_, _, _, [], [], hb, ⟨rfl, .inl ⟨rfl, rfl⟩⟩, ⟨⟨rfl, .inl ⟨rfl, rfl⟩⟩, ⟨rfl, .inl ⟨rfl, rfl⟩⟩, fun g hg => by simp [Value.ownBlock] at hg, fun k x hk => by simp at hk, fun k x hk => by simp at hk⟩⟩, hz, hw⟩
end Go.Proofs.YtmnkphenobfbfaaGreat
