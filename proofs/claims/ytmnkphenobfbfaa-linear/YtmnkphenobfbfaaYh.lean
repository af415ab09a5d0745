import Derived.Test.YtmnkphenobfbfaaYa
namespace Go.Proofs.Ytmnkphenobfbfaa
open Go.RowKit
/-- What 'Waits' knows of its map. -/
structure WM (m : M) : Prop where
  cl : m.cl = false
  nth : m.nth = 3
  ah : m.AH
theorem made_cl : M.made.cl = false := by decide +kernel
theorem made_nth : M.made.nth = 3 := by decide +kernel
theorem ah_new (n : Nat) : (M.new n).AH := by
  refine ⟨fun h => Bool.noConfusion (h : false = true), fun i _ h _ => ?_, fun i _ _ h => ?_⟩
  · have h' : (0 : Int) = 1 := h
    omega
  · have h' : (0 : Int) = 52 ∨ (0 : Int) = 62 := h
    omega
theorem ah_step {m : M} (h : m.AH) (hI : m.Inv) (i : Int) : (m.step i).o.m.AH := by
  unfold M.step
  by_cases hc : m.cl = true
  · rw [if_pos hc]; exact h
  rw [if_neg hc]
  by_cases hi : i < 0 ∨ (m.nth : Int) ≤ i
  · rw [if_pos hi]; exact h
  rw [if_neg hi]
  by_cases ha : (m.ths i.toNat).at_ = 0
  · rw [if_pos ha]; exact h
  rw [if_neg ha]
  cases hd : m.does i.toNat with
  | none => exact h
  | some o => exact ah_does h hI (by omega) ha hd
theorem runs_keeps (P : M → Prop) (hP : ∀ m (t : Int), m.Inv → P m → P (m.step t).o.m) (t : Int) : ∀ (n : Nat) (m : M), m.Inv → P m → P (m.runs t n).2.2.2.2 := by
  intro n
  induction n with
  | zero => intro m _ h; exact h
  | succ n ih =>
    intro m hI h
    have h1 := hP m t hI h
    unfold M.runs
    split
    · split
      · exact h1
      · exact ih _ (inv_step hI t) h1
    · exact h1
theorem inv_runs (t : Int) : ∀ (n : Nat) (m : M), m.Inv → (m.runs t n).2.2.2.2.Inv := fun n m hI => runs_keeps (fun m => m.Inv) (fun _ t _ h => inv_step h t) t n m hI hI
theorem made_ah : M.made.AH := by
  have i1 : M.made1.Inv := inv_begin (inv_new 3) 2 1 7 9 0
  have a1 : M.made1.AH := ah_begin (ah_new 3) (inv_new 3) 2 1 7 9 0
  have i2 : M.made2.Inv := inv_runs 2 30 _ i1
  have a2 : M.made2.AH := runs_keeps (fun m => m.AH) (fun _ t hI h => ah_step h hI t) 2 30 _ i1 a1
  have i3 : M.made3.Inv := inv_begin i2 0 0 7 0 0
  have a3 : M.made3.AH := ah_begin a2 i2 0 0 7 0 0
  exact runs_keeps (fun m => m.AH) (fun _ t hI h => ah_step h hI t) 0 30 _ i3 a3
/-- What 'Waits' asks of a Begin and a Step. -/
theorem waits_begin {m : M} (h : WM m) (hI : m.Inv) (t : Nat) (ht : t < 3) {keys : Nat} {kind key val old : Int} (ho : OpIn keys kind key val old) (h8 : keys ≤ 8) :
    ((m.begin t kind key val old).1 = 0 ∨ (m.begin t kind key val old).1 = 2) ∧ WM (m.begin t kind key val old).2 ∧ ¬ ((m.begin t kind key val old).2.ths t).at_ = 0 := by
  have hok := ho.ok h8
  have hah := ah_begin h.ah hI t kind key val old
  unfold M.begin at hah ⊢
  rw [if_neg (by rw [h.cl]; simp)] at hah ⊢
  rw [if_neg (by rw [h.nth]; rintro (q | q | q); omega; omega; exact q hok)] at hah ⊢
  by_cases ha : 0 < (m.ths (t : Int).toNat).at_
  · rw [if_pos ha]
    simp only [Int.toNat_natCast] at ha
    exact ⟨.inr rfl, h, by simp only; omega⟩
  · rw [if_neg ha] at hah ⊢
    refine ⟨.inl rfl, ⟨h.cl, h.nth, hah⟩, ?_⟩
    simp only [Int.toNat_natCast]
    rw [thr_ths]
    simp
/-- A step: it is done, or blocked by another. -/
theorem waits_step {m : M} (h : WM m) (hI : m.Inv) (t : Nat) (ht : t < 3) (ha : ¬ (m.ths t).at_ = 0) :
    WM (m.step t).o.m ∧ (((m.step t).err = 4 ∧ (m.step t).o.m = m ∧ 0 ≤ m.hol ∧ ¬ m.hol = t) ∨ ((m.step t).err = 0 ∧ ((m.step t).o.m.hol = m.hol ∨ m.hol < 0 ∨ m.hol = t))) := by
  have hah := ah_step h.ah hI t
  have hi : t < m.nth := by rw [h.nth]; exact ht
  unfold M.step at hah ⊢
  rw [if_neg (by rw [h.cl]; simp), if_neg (by rw [h.nth]; omega)] at hah ⊢
  simp only [Int.toNat_natCast] at hah ⊢
  rw [if_neg ha] at hah ⊢
  cases hd : m.does t with
  | none =>
    refine ⟨h, .inl ⟨rfl, rfl, ?_⟩⟩
    unfold M.does at hd
    by_cases e : (m.ths t).at_ = m.lockAt t
    · rw [if_pos e] at hd
      by_cases hf : 0 ≤ m.hol
      · refine ⟨hf, fun q => ?_⟩
        have := (hI.lock t hi).2 q
        have ho := (hI.th _ hi).resolve_left ha
        have hop := ho.op
        unfold OpOk at hop
        rw [e] at this
        unfold M.lockAt at this
        unfold Locked at this
        split at this <;> omega
      · rw [if_neg hf] at hd; cases hd
    · rw [if_neg e] at hd
      split at hd
      · cases hd
      · split at hd
        · cases hd
        · split at hd <;> cases hd
  | some o =>
    rw [hd] at hah
    have hs := so_does hd
    exact ⟨⟨hs.cl.trans h.cl, hs.nth.trans h.nth, hah⟩, .inr ⟨rfl, hol_does hI hi ha hd⟩⟩
theorem r64_div {x : Int} (h : R64 x) (d : Nat) (hd : 0 < d) : R64 (x.tdiv d) := by
  obtain ⟨h1, h2⟩ := h
  have key : ∀ y : Int, 0 ≤ y → 0 ≤ y / (d : Int) ∧ y / (d : Int) ≤ y := fun y hy => ⟨Int.ediv_nonneg hy (by omega), Int.ediv_le_self _ hy⟩
  by_cases hx : 0 ≤ x
  · rw [Int.tdiv_eq_ediv_of_nonneg hx]
    have := key x hx
    exact ⟨by omega, by omega⟩
  · have hn : 0 ≤ -x := by omega
    have e : x.tdiv d = -((-x) / (d : Int)) := by
      rw [← Int.tdiv_eq_ediv_of_nonneg hn, Int.neg_tdiv, Int.neg_neg]
    rw [e]
    have := key (-x) hn
    exact ⟨by omega, by omega⟩
theorem pk_nat (x : Int) (n : Nat) (h : 0 < n) : ∃ t : Nat, t < n ∧ pk x n = (t : Int) := by
  have := pk_ok x h
  exact ⟨(pk x n).toNat, by omega, by omega⟩
set_option maxRecDepth 100000 in
set_option maxHeartbeats 40000000 in
theorem waits_yes (S : Value) (n : Nat) (w0 : World) (hS : RawAt w0 S n) (hn : n ≤ 9223372036854775807) : Calls Try.prog 6 #[S] w0 fun e w' => e = .returned (.bool true) ∧ Kept [] w0 w' := by
  have HS : Hid _ := hS
  have shape : ∃ a c, S = .slice a n c ∧ n ≤ c := by
    obtain ⟨a, c, h1, h2, _⟩ := hS.lies
    exact ⟨a, c, h1, h2⟩
  obtain ⟨sa, sc, rfl, hsc⟩ := shape
  clear hS
  go_enter Try.func6, Try.ntmps6
  go_wp2_with fail
  refine (k_made w0).mono ?_
  rintro e w1 ⟨b, rfl, hK1⟩
  go_wp2_with fail
  go_loopw [4] (fun x W => ∃ (k : Nat) (m : M), k ≤ n ∧ k ≤ 300 ∧ x = .int .i64 k ∧ KAt b m w0 W ∧ WM m) (fun x _ => 300 - (intOf x).toNat)
  case atStart => exact ⟨0, M.made, by omega, by omega, rfl, hK1, ⟨made_cl, made_nth, made_ah⟩⟩
  case round =>
    clear hK1
    obtain ⟨k, m, hk, hk3, rfl, hK, hW⟩ := hrel
    by_cases hlt : k < n
    · have hlt' : (k : Int) < n := by omega
      by_cases hl3 : k < 300
      · have hl3' : (k : Int) < 300 := by omega
        have hkt : ((k : Int)).toNat = k := by simp
        obtain ⟨_, _, hs1, _, hs3⟩ := (HS.out.kept hK.kept).lies
        cases hs1
        obtain ⟨sb, so, x, rfl, hltb, hr, hx⟩ := hs3 k hlt
        have HR : Hid _ := hr
        have HK : Hid _ := And.intro hK hW
        clear hs3 hr hK hW
        go_wp2_with fail
        refine (k_pick x 3 (by omega) (by omega) HR.out _).mono ?_
        rintro e w2 ⟨rfl, rfl⟩
        obtain ⟨t, ht, et⟩ := pk_nat x 3 (by omega)
        rw [et]
        have hd3 : R64 (x.tdiv 3) := r64_div HR.out 3 (by omega)
        have hd3a := hd3.1
        have hd3b := hd3.2
        go_wp2_with fail
        refine (k_op (x.tdiv 3) 4 (by omega) (by omega) hd3 _).mono ?_
        clear hd3a hd3b
        rintro e w3 ⟨kind, key, val, old, hop, rfl, k3⟩
        clear hx
        go_wp2_with fail
        refine (k_begin (HK.out.1.keptNil k3) t kind key val old).mono ?_
        rintro e w4 ⟨rfl, h4, -⟩
        obtain ⟨hb, hW4, hat4⟩ := waits_begin HK.out.2 HK.out.1.inv t ht hop (by omega)
        generalize hm4 : (m.begin t kind key val old).2 = m4 at *
        generalize (m.begin t kind key val old).1 = er at *
        have hIF : (er != 0 && er != 2) = false := by rcases hb with rfl | rfl <;> rfl
        obtain ⟨hW5, hst⟩ := waits_step hW4 h4.inv t ht hat4
        have H4 : Hid _ := And.intro h4 (And.intro hW5 hst)
        clear HK hb hm4 hat4 hW4 hst hW5 h4
        have key2 : ∀ (P : Prop), (er = 0 → P) → (er = 2 → P) → P := fun P a b => by
          by_cases e : er = 0
          · exact a e
          · refine b ?_
            simp only [Bool.and_eq_false_iff, bne_eq_false_iff_eq] at hIF
            exact hIF.resolve_left e
        refine key2 _ (fun q => ?_) (fun q => ?_)
        all_goals
          subst q
          clear key2 hIF
          go_wp2_with fail
          refine (k_look H4.out.1).mono ?_
          rintro e w5 ⟨b1, b2, rfl, l1, l2, h5, -⟩
          unfold view
          have g5 := block_alloc_new w5 (.cells #[.slice (some ⟨b1, 0, none⟩) (cnt m4.read 8) (cnt m4.read 8), .bool m4.am, .bool m4.hd, .slice (some ⟨b2, 0, none⟩) (cnt m4.dirty 8) (cnt m4.dirty 8), .int .i64 m4.mis, .int .i64 m4.hol] 35)
          have l15 := block_alloc_lt l1 (.cells #[.slice (some ⟨b1, 0, none⟩) (cnt m4.read 8) (cnt m4.read 8), .bool m4.am, .bool m4.hd, .slice (some ⟨b2, 0, none⟩) (cnt m4.dirty 8) (cnt m4.dirty 8), .int .i64 m4.mis, .int .i64 m4.hol] 35)
          have l25 := block_alloc_lt l2 (.cells #[.slice (some ⟨b1, 0, none⟩) (cnt m4.read 8) (cnt m4.read 8), .bool m4.am, .bool m4.hd, .slice (some ⟨b2, 0, none⟩) (cnt m4.dirty 8) (cnt m4.dirty 8), .int .i64 m4.mis, .int .i64 m4.hol] 35)
          have h5' := h5.keptNil ((Kept.refl [] w5).alloc (.cells #[.slice (some ⟨b1, 0, none⟩) (cnt m4.read 8) (cnt m4.read 8), .bool m4.am, .bool m4.hd, .slice (some ⟨b2, 0, none⟩) (cnt m4.dirty 8) (cnt m4.dirty 8), .int .i64 m4.mis, .int .i64 m4.hol] 35))
          have HQ : Hid _ := And.intro g5 (And.intro l15 (And.intro l25 h5'))
          clear g5 l15 l25 h5' l1 l2 h5
          go_wp2_with fail
          generalize (w5.alloc (.cells #[.slice (some ⟨b1, 0, none⟩) (cnt m4.read 8) (cnt m4.read 8), .bool m4.am, .bool m4.hd, .slice (some ⟨b2, 0, none⟩) (cnt m4.dirty 8) (cnt m4.dirty 8), .int .i64 m4.mis, .int .i64 m4.hol] 35)) = W5 at *
          refine (k_step HQ.out.2.2.2 t).mono ?_
          rintro e w6 ⟨rfl, h6, o6⟩
          simp only [ans]
          have hres := H4.out.2.2
          have g6 := o6.at_ _ _ _ HQ.out.1 (by decide) (by decide) (by decide) (by decide)
          have l16 := o6.at_ _ _ _ HQ.out.2.1 (by decide) (by decide) (by decide) (by decide)
          have l26 := o6.at_ _ _ _ HQ.out.2.2.1 (by decide) (by decide) (by decide) (by decide)
          have hW6 := H4.out.2.1
          clear HQ o6 H4
          generalize m4.step t = a at *
          obtain ⟨err, od, of, ov, m6⟩ := a
          simp only at hres hW6 h6 ⊢
          have kr : Kept [] w6 (w6.alloc (.cells #[.bool od, .bool of, .int .i64 ov] 30)) := (Kept.refl [] w6).alloc _
          have HQ : Hid _ := And.intro (kr.at g6 (by simp)) (And.intro (kr.at l16 (by simp)) (And.intro (kr.at l26 (by simp)) (And.intro (h6.keptNil kr) (And.intro hW6 hres))))
          clear g6 l16 l26 h6 hW6 hres kr
          go_wp2_with fail
          generalize (w6.alloc (.cells #[.bool od, .bool of, .int .i64 ov] 30)) = W6 at *
          refine (k_look HQ.out.2.2.2.1).mono ?_
          rintro e w7 ⟨c1, c2, rfl, l3, l4, h7, o7⟩
          unfold view
          have g7 := o7.at_ _ _ _ HQ.out.1 (by decide) (by decide) (by decide) (by decide)
          have l17 := o7.at_ _ _ _ HQ.out.2.1 (by decide) (by decide) (by decide) (by decide)
          have l27 := o7.at_ _ _ _ HQ.out.2.2.1 (by decide) (by decide) (by decide) (by decide)
          have hW7 := HQ.out.2.2.2.2.1
          have hres := HQ.out.2.2.2.2.2
          have z5 := lt_of_block g7
          have kv : Kept [] w7 (w7.alloc (.cells #[.slice (some ⟨c1, 0, none⟩) (cnt m6.read 8) (cnt m6.read 8), .bool m6.am, .bool m6.hd, .slice (some ⟨c2, 0, none⟩) (cnt m6.dirty 8) (cnt m6.dirty 8), .int .i64 m6.mis, .int .i64 m6.hol] 35)) := (Kept.refl [] w7).alloc _
          have g8 := kv.at g7 (by simp)
          have n8 := block_alloc_new w7 (.cells #[.slice (some ⟨c1, 0, none⟩) (cnt m6.read 8) (cnt m6.read 8), .bool m6.am, .bool m6.hd, .slice (some ⟨c2, 0, none⟩) (cnt m6.dirty 8) (cnt m6.dirty 8), .int .i64 m6.mis, .int .i64 m6.hol] 35)
          have hne : w5.heap.size ≠ w7.heap.size := by omega
          have c8 : ∀ o, (w7.alloc (.cells #[.slice (some ⟨c1, 0, none⟩) (cnt m6.read 8) (cnt m6.read 8), .bool m6.am, .bool m6.hd, .slice (some ⟨c2, 0, none⟩) (cnt m6.dirty 8) (cnt m6.dirty 8), .int .i64 m6.mis, .int .i64 m6.hol] 35)).cell? ⟨w5.heap.size, o, none⟩ = #[Value.slice (some ⟨b1, 0, none⟩) (cnt m4.read 8) (cnt m4.read 8), .bool m4.am, .bool m4.hd, .slice (some ⟨b2, 0, none⟩) (cnt m4.dirty 8) (cnt m4.dirty 8), .int .i64 m4.mis, .int .i64 m4.hol][o]? := cell_of g8
          have d8 : ∀ o, (w7.alloc (.cells #[.slice (some ⟨c1, 0, none⟩) (cnt m6.read 8) (cnt m6.read 8), .bool m6.am, .bool m6.hd, .slice (some ⟨c2, 0, none⟩) (cnt m6.dirty 8) (cnt m6.dirty 8), .int .i64 m6.mis, .int .i64 m6.hol] 35)).cell? ⟨w7.heap.size, o, none⟩ = #[Value.slice (some ⟨c1, 0, none⟩) (cnt m6.read 8) (cnt m6.read 8), .bool m6.am, .bool m6.hd, .slice (some ⟨c2, 0, none⟩) (cnt m6.dirty 8) (cnt m6.dirty 8), .int .i64 m6.mis, .int .i64 m6.hol][o]? := cell_of n8
          have HL : Hid _ := And.intro (kv.at l17 (by simp)) (And.intro (kv.at l27 (by simp)) (And.intro (kv.at l3 (by simp)) (kv.at l4 (by simp))))
          have H8 : Hid _ := And.intro (h7.keptNil kv) hW7
          clear HQ g7 l17 l27 l3 l4 o7 kv
          have hah := hW7.ah.ah
          have hl2 := h7.inv.hol.2
          rw [hW7.nth] at hl2
          clear h7 hW7
          have hl3 : ¬ 2 < m6.hol := by omega
          clear hl2
          rcases hres with ⟨rfl, rfl, hb1, hb2⟩ | ⟨rfl, hb1⟩
          · have run := fun (W : World) (hW : Kept [] (w7.alloc (.cells #[.slice (some ⟨c1, 0, none⟩) (cnt m6.read 8) (cnt m6.read 8), .bool m6.am, .bool m6.hd, .slice (some ⟨c2, 0, none⟩) (cnt m6.dirty 8) (cnt m6.dirty 8), .int .i64 m6.mis, .int .i64 m6.hol] 35)) W) => k_alike m6 b1 b2 c1 c2 W (Kept.at hW HL.out.1 (by simp)) (Kept.at hW HL.out.2.1 (by simp)) (Kept.at hW HL.out.2.2.1 (by simp)) (Kept.at hW HL.out.2.2.2 (by simp))
            unfold view at run
            have RUN : Hid _ := run
            have hb1' : ¬ m6.hol < 0 := by omega
            have hb3 : (m6.hol == (t : Int)) = false := beq_eq_false_iff_ne.2 hb2
            have G8 : Hid _ := And.intro g8 n8
            clear run HL hb2 hb1 g8 n8
            go_wp2_with fail
            refine (RUN.out _ (Kept.refl [] _)).mono ?_
            rintro e w9 ⟨rfl, k9⟩
            have c9 := cell_of (k9.at G8.out.1 (by simp))
            have d9 := cell_of (k9.at G8.out.2 (by simp))
            have HX : Hid _ := And.intro (H8.out.1.keptNil k9) H8.out.2
            clear c8 d8 G8 H8 RUN k9
            by_cases ham : m6.am = true
            · have hhd := hah ham
              rw [ham, hhd] at c9 d9
              clear hah
              go_wp2
              go_roundw
              case rel => exact ⟨k + 1, m6, by omega, by omega, by go_num, HX.out.1, HX.out.2⟩
              case measure => simp [intOf]; omega
            · have ham' : m6.am = false := by simpa using ham
              rw [ham'] at c9 d9
              clear hah
              go_wp2
              go_roundw
              case rel => exact ⟨k + 1, m6, by omega, by omega, by go_num, HX.out.1, HX.out.2⟩
              case measure => simp [intOf]; omega
          · have HX : Hid _ := H8
            clear HL g8 n8 H8
            have am6 : (m6.am = true ∧ m6.hd = true) ∨ m6.am = false := by
              by_cases ham : m6.am = true
              · exact .inl ⟨ham, hah ham⟩
              · exact .inr (by simpa using ham)
            clear hah
            generalize m6.am = xa at *
            generalize m6.hd = xh at *
            generalize m6.hol = ho6 at *
            generalize m4.hol = ho4 at *
            have fin : ∀ (P : Prop), (ho6 = ho4 → P) → (ho4 < 0 → P) → (¬ ho4 < 0 → ho4 = (t : Int) → P) → P := fun P p1 p2 p3 => by
              by_cases q : ho4 < 0
              · exact p2 q
              · rcases hb1 with e | e | e
                · exact p1 e
                · exact absurd e q
                · exact p3 q e
            clear hb1
            rcases am6 with ⟨rfl, rfl⟩ | rfl
            all_goals
              refine fin _ (fun q => ?_) (fun q => ?_) (fun q q2 => ?_)
              · subst q
                clear fin
                go_wp2
                go_roundw
                case rel => exact ⟨k + 1, m6, by omega, by omega, by go_num, HX.out.1, HX.out.2⟩
                case measure => simp [intOf]; omega
              · clear fin
                by_cases hq : ho6 = ho4
                · subst hq
                  go_wp2
                  go_roundw
                  case rel => exact ⟨k + 1, m6, by omega, by omega, by go_num, HX.out.1, HX.out.2⟩
                  case measure => simp [intOf]; omega
                · have hq' : (ho6 == ho4) = false := beq_eq_false_iff_ne.2 hq
                  go_wp2
                  go_roundw
                  case rel => exact ⟨k + 1, m6, by omega, by omega, by go_num, HX.out.1, HX.out.2⟩
                  case measure => simp [intOf]; omega
              · subst q2
                clear fin
                by_cases hq : ho6 = (t : Int)
                · subst hq
                  go_wp2
                  go_roundw
                  case rel => exact ⟨k + 1, m6, by omega, by omega, by go_num, HX.out.1, HX.out.2⟩
                  case measure => simp [intOf]; omega
                · have hq' : (ho6 == (t : Int)) = false := beq_eq_false_iff_ne.2 hq
                  go_wp2
                  go_roundw
                  case rel => exact ⟨k + 1, m6, by omega, by omega, by go_num, HX.out.1, HX.out.2⟩
                  case measure => simp [intOf]; omega
      · have hl3' : ¬ (k : Int) < 300 := by omega
        go_wp2
        go_ret
        exact ⟨rfl, hK.kept⟩
    · have hlt' : ¬ (k : Int) < n := by omega
      go_wp2
      go_ret
      exact ⟨rfl, hK.kept⟩
end Go.Proofs.Ytmnkphenobfbfaa
