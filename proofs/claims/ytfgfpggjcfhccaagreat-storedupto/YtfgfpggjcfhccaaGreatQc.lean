import Derived.Test.YtfgfpggjcfhccaaGreatQb
namespace Go.Proofs.YtfgfpggjcfhccaaGreat
open Go.RowKit
theorem ptrE_isSome (en : Nat → Nat) (x : Int) : (ptrE en x).isSome = decide (0 ≤ x) := by
  by_cases h : x < 0
  · rw [ptrE_none h]
    simp only [Option.isSome_none]
    exact (decide_eq_false (by omega)).symm
  · rw [ptrE_some (Int.not_lt.1 h)]
    simp only [Option.isSome_some]
    exact (decide_eq_true (by omega)).symm
theorem sh_congr {a b : Sh} (h1 : ∀ k, k < 8 → a.R k = b.R k) (h2 : a.am = b.am) (h3 : ∀ k, k < 8 → a.D k = b.D k) (h4 : a.hd = b.hd) (h5 : a.mis = b.mis) (h6 : a.hol = b.hol) : a.cells = b.cells := by
  simp only [Sh.cells, h1 0 (by omega), h1 1 (by omega), h1 2 (by omega), h1 3 (by omega), h1 4 (by omega), h1 5 (by omega), h1 6 (by omega), h1 7 (by omega), h2, h3 0 (by omega), h3 1 (by omega), h3 2 (by omega), h3 3 (by omega), h3 4 (by omega), h3 5 (by omega), h3 6 (by omega), h3 7 (by omega), h4, h5, h6]
theorem nextP_eq (en : Nat → Nat) (f : Nat → Int) (n k : Nat) : nextP (fun k => ptrE en (f k)) n k = nextKey f n k := by
  induction n generalizing k with
  | zero => rfl
  | succ n ih => simp only [nextP, nextKey, ptrE_isSome, decide_eq_true_eq, ih]
theorem cntP_eq (en : Nat → Nat) (f : Nat → Int) (n : Nat) : cntP (fun k => ptrE en (f k)) n = cnt f n := by
  induction n with
  | zero => rfl
  | succ n ih => simp only [cntP, cnt, ptrE_isSome, decide_eq_true_eq, ih]
theorem q_s9 {p : PM} {en : Nat → Nat} {l : Int} {m : M} {w : World} (h : GAt p en l m w) (hI : m.Inv) {i t : Nat} (ht : p.ts[i]? = some t) (ho : ThOk m (m.ths i)) (hk : (m.ths i).kind = 1) (hat : (m.ths i).at_ = 9) : GDoes 102 p en l m t (m.store i) w := by
  obtain ⟨cp, hcp, hb⟩ := h.ts i t ht
  have hop := ho.op
  have _ := hk
  unfold OpOk at hop
  rw [tcOf_busy (by omega)] at hb
  have hk0 : 0 ≤ (m.ths i).key := hop.2.2.1
  have hk7 : (m.ths i).key < 8 := by omega
  have hst : m.store i = { m with hd := true, dirty := fun _ => -1 }.scan i 0 := by simp [M.store, hat]
  rw [hst]
  have hsh : shOf en { m with hd := true, dirty := fun _ => -1 } = { shOf en m with D := fun _ => none, hd := true } := by simp [shOf, ptrE]
  have run := p_s9 _ (shOf en m) t w hb h.s
  unfold M.scan
  by_cases hx : nextKey m.read (8 - 0) 0 < 8
  · rw [if_pos hx]
    simp only [GDoes, M.goes, scan_thr]
    refine Calls.mono run ?_
    rintro e w' ⟨rfl, h1, s1, k1⟩
    exact gsome (o := ⟨false, false, 0, _⟩) (h.goTS hI ht k1 { m with hd := true, dirty := fun _ => -1 } rfl rfl rfl rfl rfl _ (nextKey m.read (8 - 0) 0) (fun _ => rfl) h1 (by simp [tcOf, thNext, fnOf, hk, Tc.scan, shOf, nextP_eq, hx]) s1 hsh) rfl k1 (sub2 ht en m)
  · rw [if_neg hx]
    simp only [GDoes, M.goes, scan_thr]
    refine Calls.mono run ?_
    rintro e w' ⟨rfl, h1, s1, k1⟩
    exact gsome (o := ⟨false, false, 0, _⟩) (h.goTS hI ht k1 { m with hd := true, dirty := fun _ => -1 } rfl rfl rfl rfl rfl _ cp (by simp) h1 (by simp [tcOf, thNext, fnOf, hk, Tc.scan, shOf, nextP_eq, hx]) s1 hsh) rfl k1 (sub2 ht en m)
theorem q_s10 {p : PM} {en : Nat → Nat} {l : Int} {m : M} {w : World} (h : GAt p en l m w) (hI : m.Inv) {i t : Nat} (ht : p.ts[i]? = some t) (ho : ThOk m (m.ths i)) (hk : (m.ths i).kind = 1) (hat : (m.ths i).at_ = 10) : GDoes 115 p en l m t (m.store i) w := by
  obtain ⟨cp, hcp, hb⟩ := h.ts i t ht
  have hop := ho.op
  have _ := hk
  unfold OpOk at hop
  rw [tcOf_busy (by omega)] at hb
  have hk0 : 0 ≤ (m.ths i).key := hop.2.2.1
  have hk7 : (m.ths i).key < 8 := by omega
  have hst : m.store i = (m.copied i).scan i (m.nxt i + 1) := by simp [M.store, hat]
  rw [hst]
  have hcpn := hcp hat
  subst hcpn
  have hnx := ho.nx hk hat
  have hn0 : 0 ≤ (m.ths i).next := hnx.1
  have hn7 : (m.ths i).next < 8 := hnx.2.1
  have hr0 : 0 ≤ m.read (m.nxt i) := hnx.2.2
  have hl : m.nxt i < 8 := by unfold M.nxt; omega
  have hel : (m.read (m.nxt i)).toNat < m.nc := by have := hI.rd _ hl; omega
  have hE := h.es _ hel
  have hcel := hI.cel _ hel
  have hR : (shOf en m).R (m.ths i).next.toNat = some ⟨en (m.read (m.nxt i)).toNat, 0, none⟩ := ptrE_some hr0
  have hsh : shOf en { m with dirty := put m.dirty (m.nxt i) (m.read (m.nxt i)) } = { shOf en m with D := fun j => if j = (m.ths i).next.toNat then some ⟨en (m.read (m.nxt i)).toNat, 0, none⟩ else (shOf en m).D j } := by
    rw [shOf_put, ptrE_some hr0]
    rfl
  have hnp : nextP (shOf en m).R (8 - ((m.ths i).next.toNat + 1)) ((m.ths i).next.toNat + 1) = nextKey m.read (8 - (m.nxt i + 1)) (m.nxt i + 1) := nextP_eq en m.read _ _
  by_cases h0 : (m.cells (m.read (m.nxt i)).toNat).st = 0
  · have run := p_s10_value _ (shOf en m) t _ _ _ w hb h.s hE hn0 hn7 hR h0
    have hc : m.copied i = { m with dirty := put m.dirty (m.nxt i) (m.read (m.nxt i)) } := by unfold M.copied; rw [if_pos h0]
    rw [hc]
    unfold M.scan
    by_cases hx : nextKey m.read (8 - (m.nxt i + 1)) (m.nxt i + 1) < 8
    · rw [if_pos hx]
      simp only [GDoes, M.goes, scan_thr]
      refine Calls.mono run ?_
      rintro e w' ⟨rfl, h1, s1, k1⟩
      refine gsome (o := ⟨false, false, 0, _⟩) (h.goTS hI ht k1 { m with dirty := put m.dirty (m.nxt i) (m.read (m.nxt i)) } rfl rfl rfl rfl rfl _ (nextKey m.read (8 - (m.nxt i + 1)) (m.nxt i + 1)) (fun _ => rfl) h1 ?_ s1 hsh) rfl k1 (sub2 ht en m)
      show _ = Tc.scan _ t (shOf en m).R ((m.ths i).next.toNat + 1)
      unfold Tc.scan
      rw [hnp, if_pos hx]
      simp [tcOf, thNext, fnOf, hk]
    · rw [if_neg hx]
      simp only [GDoes, M.goes, scan_thr]
      refine Calls.mono run ?_
      rintro e w' ⟨rfl, h1, s1, k1⟩
      refine gsome (o := ⟨false, false, 0, _⟩) (h.goTS hI ht k1 { m with dirty := put m.dirty (m.nxt i) (m.read (m.nxt i)) } rfl rfl rfl rfl rfl _ (m.ths i).next (by simp) h1 ?_ s1 hsh) rfl k1 (sub2 ht en m)
      show _ = Tc.scan _ t (shOf en m).R ((m.ths i).next.toNat + 1)
      unfold Tc.scan
      rw [hnp, if_neg hx]
      simp [tcOf, thNext, fnOf, hk]
  · by_cases h1' : (m.cells (m.read (m.nxt i)).toNat).st = 1
    · have run := p_s10_empty _ (shOf en m) t _ _ _ w hb h.s hE hn0 hn7 hR h1'
      have hc : m.copied i = { m with cells := put m.cells (m.read (m.nxt i)).toNat ⟨2, 0⟩ } := by unfold M.copied; rw [if_neg h0, if_pos h1']
      rw [hc]
      unfold M.scan
      by_cases hx : nextKey m.read (8 - (m.nxt i + 1)) (m.nxt i + 1) < 8
      · rw [if_pos hx]
        simp only [GDoes, M.goes, scan_thr]
        refine Calls.mono run ?_
        rintro e w' ⟨rfl, h1, e1, k1⟩
        refine gsome (o := ⟨false, false, 0, _⟩) (h.goTE hI ht hel k1 2 0 _ (nextKey m.read (8 - (m.nxt i + 1)) (m.nxt i + 1)) (fun _ => rfl) h1 ?_ e1) rfl k1 (sub3 ht en hel)
        show _ = Tc.scan _ t (shOf en m).R ((m.ths i).next.toNat + 1)
        unfold Tc.scan
        rw [hnp, if_pos hx]
        simp [tcOf, thNext, fnOf, hk]
      · rw [if_neg hx]
        simp only [GDoes, M.goes, scan_thr]
        refine Calls.mono run ?_
        rintro e w' ⟨rfl, h1, e1, k1⟩
        refine gsome (o := ⟨false, false, 0, _⟩) (h.goTE hI ht hel k1 2 0 _ (m.ths i).next (by simp) h1 ?_ e1) rfl k1 (sub3 ht en hel)
        show _ = Tc.scan _ t (shOf en m).R ((m.ths i).next.toNat + 1)
        unfold Tc.scan
        rw [hnp, if_neg hx]
        simp [tcOf, thNext, fnOf, hk]
    · have run := p_s10_gone _ (shOf en m) t _ _ _ w hb h.s hE hn0 hn7 hR h0 h1'
      have hc : m.copied i = m := by unfold M.copied; rw [if_neg h0, if_neg h1']
      rw [hc]
      unfold M.scan
      by_cases hx : nextKey m.read (8 - (m.nxt i + 1)) (m.nxt i + 1) < 8
      · rw [if_pos hx]
        simp only [GDoes, M.goes, scan_thr]
        refine Calls.mono run ?_
        rintro e w' ⟨rfl, h1, k1⟩
        refine gsome (o := ⟨false, false, 0, _⟩) (h.goT hI ht k1 _ (nextKey m.read (8 - (m.nxt i + 1)) (m.nxt i + 1)) (fun _ => rfl) h1 ?_) rfl k1 (sub1 ht en m)
        show _ = Tc.scan _ t (shOf en m).R ((m.ths i).next.toNat + 1)
        unfold Tc.scan
        rw [hnp, if_pos hx]
        simp [tcOf, thNext, fnOf, hk]
      · rw [if_neg hx]
        simp only [GDoes, M.goes, scan_thr]
        refine Calls.mono run ?_
        rintro e w' ⟨rfl, h1, k1⟩
        refine gsome (o := ⟨false, false, 0, _⟩) (h.goT hI ht k1 _ (m.ths i).next (by simp) h1 ?_) rfl k1 (sub1 ht en m)
        show _ = Tc.scan _ t (shOf en m).R ((m.ths i).next.toNat + 1)
        unfold Tc.scan
        rw [hnp, if_neg hx]
        simp [tcOf, thNext, fnOf, hk]
theorem q_s12 {p : PM} {en : Nat → Nat} {l : Int} {m : M} {w : World} (h : GAt p en l m w) (hI : m.Inv) {i t : Nat} (ht : p.ts[i]? = some t) (ho : ThOk m (m.ths i)) (hk : (m.ths i).kind = 1) (hat : (m.ths i).at_ = 12) : GDoes 101 p en l m t (m.store i) w := by
  obtain ⟨cp, hcp, hb⟩ := h.ts i t ht
  have hop := ho.op
  have _ := hk
  unfold OpOk at hop
  rw [tcOf_busy (by omega)] at hb
  have hk0 : 0 ≤ (m.ths i).key := hop.2.2.1
  have hk7 : (m.ths i).key < 8 := by omega
  have hst : m.store i = { m.adds 0 (m.ths i).val with dirty := put m.dirty (m.key i) m.nc }.goes i 14 := by simp [M.store, hat]
  rw [hst]
  simp only [GDoes, M.goes]
  refine Calls.mono (p_s12 _ (shOf en m) t w hb h.s hk0 hk7) ?_
  rintro e w' ⟨g, rfl, h1, s1, e1, hg, k1⟩
  have hold : ∀ j, j < m.nc → put en m.nc g j = en j := fun j hj => put_other _ _ (by omega)
  have hpt : ∀ x : Int, x < m.nc → ptrE (put en m.nc g) x = ptrE en x := by
    intro x hx
    by_cases hx0 : x < 0
    · rw [ptrE_none hx0, ptrE_none hx0]
    · rw [ptrE_some (Int.not_lt.1 hx0), ptrE_some (Int.not_lt.1 hx0), hold _ (by omega)]
  obtain ⟨cp0, _, hb0⟩ := h.ts i t ht
  refine ⟨rfl, put en m.nc g, ?_, hold, ?_, k1.mono (sub2 ht en m)⟩
  · refine h.go ht k1 (fun x hx => by simp only [List.mem_cons, List.not_mem_nil, or_false] at hx; exact hx.imp id .inl) rfl rfl hold ?_ ?_ (fun j hj => put_other _ _ hj) (hI.es i) ⟨cp, ?_, ?_⟩ ?_ ?_
    · intro j h1 h2
      have h2' : j < m.nc + 1 := h2
      obtain rfl : j = m.nc := by omega
      rw [put_same]; exact hg
    · intro j j' a b c d _
      have b' : j < m.nc + 1 := b
      have d' : j' < m.nc + 1 := d
      omega
    · rw [thr_ths]; simp
    · rw [thr_ths]
      have : tcOf (put en m.nc g) i p.s t ⟨(m.ths i).kind, (m.ths i).key, (m.ths i).val, (m.ths i).old, 14, (m.ths i).e, (m.ths i).sst, (m.ths i).sv, (m.ths i).next⟩ cp = ⟨i, p.s, (m.ths i).kind, (m.ths i).key, (m.ths i).val, (m.ths i).old, ptrE en (m.ths i).e, (m.ths i).sst, (m.ths i).sv, cp, .func (.func 106) #[.pointer (some ⟨t, 0, none⟩)] #[]⟩ := by
        simp [tcOf, thNext, fnOf, hk, hpt _ ho.e.2]
      exact h1.trans (congrArg (fun q => some (Obj.cells (Tc.cells q) 116 (0, 0))) this.symm)
    · refine s1.trans (congrArg (fun q => some (Obj.cells q 111 (0, 0))) (sh_congr ?_ rfl ?_ rfl rfl rfl))
      · intro k hk8
        exact (hpt _ (hI.rd k hk8).2).symm
      · intro k hk8
        show (if k = (m.ths i).key.toNat then some ⟨g, 0, none⟩ else ptrE en (m.dirty k)) = ptrE (put en m.nc g) (put m.dirty (m.key i) (m.nc : Int) k)
        by_cases q : k = m.key i
        · subst q
          rw [put_same, show ptrE (put en m.nc g) (m.nc : Int) = some ⟨g, 0, none⟩ by rw [ptrE_some (by omega), Int.toNat_natCast, put_same]]
          exact if_pos rfl
        · rw [put_other _ _ q, hpt _ (hI.dt k hk8).2]
          exact if_neg q
    · intro j hj
      have hj' : j < m.nc + 1 := hj
      show w'.heap[put en m.nc g j]? = some (.cells #[.int .i64 (put m.cells m.nc ⟨0, (m.ths i).val⟩ j).st, .int .i64 (put m.cells m.nc ⟨0, (m.ths i).val⟩ j).v] 141 (0, 0))
      by_cases q : j = m.nc
      · subst q
        rw [put_same, put_same]; exact e1
      · rw [put_other _ _ q, put_other _ _ q]
        have hjn : j < m.nc := by omega
        refine k1.at (h.es j hjn) ?_
        simp only [List.mem_cons, List.not_mem_nil, or_false, not_or]
        exact ⟨ne_of_blocks (h.es j hjn) hb0 (by simp), ne_of_blocks (h.es j hjn) h.s (by simp)⟩
  · intro j h1 h2
    have h2' : j < m.nc + 1 := h2
    obtain rfl : j = m.nc := by omega
    rw [put_same]; exact hg
theorem q_s4 {p : PM} {en : Nat → Nat} {l : Int} {m : M} {w : World} (h : GAt p en l m w) (hI : m.Inv) {i t : Nat} (ht : p.ts[i]? = some t) (ho : ThOk m (m.ths i)) (hk : (m.ths i).kind = 1) (hat : (m.ths i).at_ = 4) (hf : m.hol < 0) : GDoes 83 p en l m t ({ m with hol := i }.goes i 5) w := by
  obtain ⟨cp, hcp, hb⟩ := h.ts i t ht
  have hop := ho.op
  have _ := hk
  unfold OpOk at hop
  rw [tcOf_busy (by omega)] at hb
  have hk0 : 0 ≤ (m.ths i).key := hop.2.2.1
  have hk7 : (m.ths i).key < 8 := by omega
  have hh : m.hol = -1 := by have := hI.hol; omega
  simp only [GDoes, M.goes]
  refine Calls.mono (p_s4_yes _ (shOf en m) t w hb h.s hh) ?_
  rintro e w' ⟨rfl, h1, s1, k1⟩
  exact gsome (o := ⟨false, false, 0, _⟩) (h.goTS hI ht k1 { m with hol := i } rfl rfl rfl rfl rfl _ cp (by simp) h1 (by simp [tcOf, thNext, fnOf, hk]) s1 (rfl)) rfl k1 (sub2 ht en m)
theorem q_s4_no {p : PM} {en : Nat → Nat} {l : Int} {m : M} {w : World} (h : GAt p en l m w) {i t : Nat} (ht : p.ts[i]? = some t) (ho : ThOk m (m.ths i)) (hk : (m.ths i).kind = 1) (hat : (m.ths i).at_ = 4) (hf : 0 ≤ m.hol) : Calls Tryz.prog 83 #[.pointer (some ⟨t, 0, none⟩)] w fun e w' => e = .returned (ans false false 0 4) ∧ Kept [] w w' := by
  obtain ⟨cp, hcp, hb⟩ := h.ts i t ht
  have hop := ho.op
  have _ := hk
  unfold OpOk at hop
  rw [tcOf_busy (by omega)] at hb
  have hk0 : 0 ≤ (m.ths i).key := hop.2.2.1
  have hk7 : (m.ths i).key < 8 := by omega
  exact p_s4_no _ (shOf en m) t w hb h.s (by show ¬ m.hol = -1; omega)
theorem q_l2 {p : PM} {en : Nat → Nat} {l : Int} {m : M} {w : World} (h : GAt p en l m w) (hI : m.Inv) {i t : Nat} (ht : p.ts[i]? = some t) (ho : ThOk m (m.ths i)) (hk : (m.ths i).kind = 0) (hat : (m.ths i).at_ = 2) (hf : m.hol < 0) : GDoes 82 p en l m t ({ m with hol := i }.goes i 3) w := by
  obtain ⟨cp, hcp, hb⟩ := h.ts i t ht
  have hop := ho.op
  have _ := hk
  unfold OpOk at hop
  rw [tcOf_busy (by omega)] at hb
  have hk0 : 0 ≤ (m.ths i).key := hop.2.2.1
  have hk7 : (m.ths i).key < 8 := by omega
  have hh : m.hol = -1 := by have := hI.hol; omega
  simp only [GDoes, M.goes]
  refine Calls.mono (p_l2_yes _ (shOf en m) t w hb h.s hh) ?_
  rintro e w' ⟨rfl, h1, s1, k1⟩
  exact gsome (o := ⟨false, false, 0, _⟩) (h.goTS hI ht k1 { m with hol := i } rfl rfl rfl rfl rfl _ cp (by simp) h1 (by simp [tcOf, thNext, fnOf, hk]) s1 (rfl)) rfl k1 (sub2 ht en m)
theorem q_l2_no {p : PM} {en : Nat → Nat} {l : Int} {m : M} {w : World} (h : GAt p en l m w) {i t : Nat} (ht : p.ts[i]? = some t) (ho : ThOk m (m.ths i)) (hk : (m.ths i).kind = 0) (hat : (m.ths i).at_ = 2) (hf : 0 ≤ m.hol) : Calls Tryz.prog 82 #[.pointer (some ⟨t, 0, none⟩)] w fun e w' => e = .returned (ans false false 0 4) ∧ Kept [] w w' := by
  obtain ⟨cp, hcp, hb⟩ := h.ts i t ht
  have hop := ho.op
  have _ := hk
  unfold OpOk at hop
  rw [tcOf_busy (by omega)] at hb
  have hk0 : 0 ≤ (m.ths i).key := hop.2.2.1
  have hk7 : (m.ths i).key < 8 := by omega
  exact p_l2_no _ (shOf en m) t w hb h.s (by show ¬ m.hol = -1; omega)
theorem q_l1 {p : PM} {en : Nat → Nat} {l : Int} {m : M} {w : World} (h : GAt p en l m w) (hI : m.Inv) {i t : Nat} (ht : p.ts[i]? = some t) (ho : ThOk m (m.ths i)) (hk : (m.ths i).kind = 0) (hat : (m.ths i).at_ = 1) : GDoes 68 p en l m t (m.load i) w := by
  obtain ⟨cp, hcp, hb⟩ := h.ts i t ht
  have hop := ho.op
  have _ := hk
  unfold OpOk at hop
  rw [tcOf_busy (by omega)] at hb
  have hk0 : 0 ≤ (m.ths i).key := hop.2.2.1
  have hk7 : (m.ths i).key < 8 := by omega
  have hst : m.load i = m.first i 7 := by simp [M.load, hat]
  rw [hst]
  unfold M.first
  by_cases hr : 0 ≤ m.read (m.key i)
  · rw [if_pos hr]
    simp only [GDoes, M.goes, sets_thr]
    refine Calls.mono (p_l1_in _ (shOf en m) t ⟨en (m.read (m.key i)).toNat, 0, none⟩ w hb h.s hk0 hk7 (ptrE_some hr)) ?_
    rintro e w' ⟨rfl, h1, k1⟩
    exact gsome (o := ⟨false, false, 0, _⟩) (h.goT hI ht k1 _ cp (by simp) h1 (by simp [tcOf, thNext, fnOf, hk, ptrE_some hr])) rfl k1 (sub1 ht en m)
  · rw [if_neg hr]
    have hr' := Int.not_le.1 hr
    by_cases ha : m.am = true
    · rw [if_pos ha]
      simp only [GDoes, M.goes, sets_thr]
      refine Calls.mono (p_l1_on _ (shOf en m) t w hb h.s hk0 hk7 (ptrE_none hr') ha) ?_
      rintro e w' ⟨rfl, h1, k1⟩
      exact gsome (o := ⟨false, false, 0, _⟩) (h.goT hI ht k1 _ cp (by simp) h1 (by simp [tcOf, thNext, fnOf, hk, ptrE_none hr'])) rfl k1 (sub1 ht en m)
    · rw [if_neg ha]
      simp only [GDoes, M.ends, sets_thr]
      refine Calls.mono (p_l1_end _ (shOf en m) t w hb h.s hk0 hk7 (ptrE_none hr') (by show m.am = false; simpa using ha)) ?_
      rintro e w' ⟨rfl, h1, k1⟩
      exact gsome (o := ⟨true, false, 0, _⟩) (h.goT hI ht k1 _ 0 (by simp) h1 (by simp [tcOf, Tc.idle])) rfl k1 (sub1 ht en m)
theorem q_l3 {p : PM} {en : Nat → Nat} {l : Int} {m : M} {w : World} (h : GAt p en l m w) (hI : m.Inv) {i t : Nat} (ht : p.ts[i]? = some t) (ho : ThOk m (m.ths i)) (hk : (m.ths i).kind = 0) (hat : (m.ths i).at_ = 3) : GDoes 88 p en l m t (m.load i) w := by
  obtain ⟨cp, hcp, hb⟩ := h.ts i t ht
  have hop := ho.op
  have _ := hk
  unfold OpOk at hop
  rw [tcOf_busy (by omega)] at hb
  have hk0 : 0 ≤ (m.ths i).key := hop.2.2.1
  have hk7 : (m.ths i).key < 8 := by omega
  have hst : m.load i = m.third i 6 := by simp [M.load, hat]
  rw [hst]
  unfold M.third
  by_cases hr : 0 ≤ m.read (m.key i)
  · rw [if_pos hr]
    simp only [GDoes, M.goes, sets_thr]
    refine Calls.mono (p_l3_in _ (shOf en m) t ⟨en (m.read (m.key i)).toNat, 0, none⟩ w hb h.s hk0 hk7 (ptrE_some hr)) ?_
    rintro e w' ⟨rfl, h1, k1⟩
    exact gsome (o := ⟨false, false, 0, _⟩) (h.goT hI ht k1 _ cp (by simp) h1 (by simp [tcOf, thNext, fnOf, hk, ptrE_some hr])) rfl k1 (sub1 ht en m)
  · rw [if_neg hr]
    have hr' := Int.not_le.1 hr
    by_cases ha : m.am = true
    · rw [if_pos ha]
      simp only [GDoes, M.goes, sets_thr]
      refine Calls.mono (p_l3_on _ (shOf en m) t w hb h.s hk0 hk7 (ptrE_none hr') ha) ?_
      rintro e w' ⟨rfl, h1, k1⟩
      exact gsome (o := ⟨false, false, 0, _⟩) (h.goT hI ht k1 _ cp (by simp) h1 (by simp [tcOf, thNext, fnOf, hk, ptrE_none hr'])) rfl k1 (sub1 ht en m)
    · rw [if_neg ha]
      simp only [GDoes, M.goes, sets_thr]
      refine Calls.mono (p_l3_out _ (shOf en m) t w hb h.s hk0 hk7 (ptrE_none hr') (by show m.am = false; simpa using ha)) ?_
      rintro e w' ⟨rfl, h1, k1⟩
      exact gsome (o := ⟨false, false, 0, _⟩) (h.goT hI ht k1 _ cp (by simp) h1 (by simp [tcOf, thNext, fnOf, hk, ptrE_none hr'])) rfl k1 (sub1 ht en m)
theorem q_l4 {p : PM} {en : Nat → Nat} {l : Int} {m : M} {w : World} (h : GAt p en l m w) (hI : m.Inv) {i t : Nat} (ht : p.ts[i]? = some t) (ho : ThOk m (m.ths i)) (hk : (m.ths i).kind = 0) (hat : (m.ths i).at_ = 4) : GDoes 93 p en l m t (m.load i) w := by
  obtain ⟨cp, hcp, hb⟩ := h.ts i t ht
  have hop := ho.op
  have _ := hk
  unfold OpOk at hop
  rw [tcOf_busy (by omega)] at hb
  have hk0 : 0 ≤ (m.ths i).key := hop.2.2.1
  have hk7 : (m.ths i).key < 8 := by omega
  have hst : m.load i = (m.sets i (m.dirty (m.key i))).goes i 5 := by simp [M.load, hat]
  rw [hst]
  simp only [GDoes, M.goes, sets_thr]
  refine Calls.mono (p_l4 _ (shOf en m) t w hb h.s hk0 hk7) ?_
  rintro e w' ⟨rfl, h1, k1⟩
  exact gsome (o := ⟨false, false, 0, _⟩) (h.goT hI ht k1 _ cp (by simp) h1 (by simp [tcOf, thNext, fnOf, hk, shOf, M.key])) rfl k1 (sub1 ht en m)
theorem q_l5 {p : PM} {en : Nat → Nat} {l : Int} {m : M} {w : World} (h : GAt p en l m w) (hI : m.Inv) {i t : Nat} (ht : p.ts[i]? = some t) (ho : ThOk m (m.ths i)) (hk : (m.ths i).kind = 0) (hat : (m.ths i).at_ = 5) : GDoes 99 p en l m t (m.load i) w := by
  obtain ⟨cp, hcp, hb⟩ := h.ts i t ht
  have hop := ho.op
  have _ := hk
  unfold OpOk at hop
  rw [tcOf_busy (by omega)] at hb
  have hk0 : 0 ≤ (m.ths i).key := hop.2.2.1
  have hk7 : (m.ths i).key < 8 := by omega
  have hst : m.load i = if m.mis + 1 < cnt m.dirty 8 then { m with mis := m.mis + 1 }.goes i 6 else { m with mis := m.mis + 1 }.goes i 51 := by simp [M.load, M.missed, hat]
  rw [hst]
  have hm0 := hI.mis.1
  have hm1 : m.mis < 1000000 := by rcases hI.mis.2 with c | ⟨c, _, _⟩ <;> omega
  have hcnt : (cntP (shOf en m).D 8 : Int) = cnt m.dirty 8 := by rw [show cntP (shOf en m).D 8 = cnt m.dirty 8 from cntP_eq en m.dirty 8]
  by_cases hx : m.mis + 1 < cnt m.dirty 8
  · rw [if_pos hx]
    simp only [GDoes, M.goes]
    refine Calls.mono (p_l5_few _ (shOf en m) t w hb h.s hm0 hm1 (by rw [hcnt]; exact hx)) ?_
    rintro e w' ⟨rfl, h1, s1, k1⟩
    exact gsome (o := ⟨false, false, 0, _⟩) (h.goTS hI ht k1 { m with mis := m.mis + 1 } rfl rfl rfl rfl rfl _ cp (by simp) h1 (by simp [tcOf, thNext, fnOf, hk]) s1 (rfl)) rfl k1 (sub2 ht en m)
  · rw [if_neg hx]
    simp only [GDoes, M.goes]
    refine Calls.mono (p_l5_all _ (shOf en m) t w hb h.s hm0 hm1 (by rw [hcnt]; exact hx)) ?_
    rintro e w' ⟨rfl, h1, s1, k1⟩
    exact gsome (o := ⟨false, false, 0, _⟩) (h.goTS hI ht k1 { m with mis := m.mis + 1 } rfl rfl rfl rfl rfl _ cp (by simp) h1 (by simp [tcOf, thNext, fnOf, hk]) s1 (rfl)) rfl k1 (sub2 ht en m)
theorem q_l51 {p : PM} {en : Nat → Nat} {l : Int} {m : M} {w : World} (h : GAt p en l m w) (hI : m.Inv) {i t : Nat} (ht : p.ts[i]? = some t) (ho : ThOk m (m.ths i)) (hk : (m.ths i).kind = 0) (hat : (m.ths i).at_ = 51) : GDoes 104 p en l m t (m.load i) w := by
  obtain ⟨cp, hcp, hb⟩ := h.ts i t ht
  have hop := ho.op
  have _ := hk
  unfold OpOk at hop
  rw [tcOf_busy (by omega)] at hb
  have hk0 : 0 ≤ (m.ths i).key := hop.2.2.1
  have hk7 : (m.ths i).key < 8 := by omega
  have hst : m.load i = { m with read := m.dirty, am := false }.goes i 52 := by simp [M.load, M.missed, hat]
  rw [hst]
  simp only [GDoes, M.goes]
  refine Calls.mono (p_l51 _ (shOf en m) t w hb h.s) ?_
  rintro e w' ⟨rfl, h1, s1, k1⟩
  exact gsome (o := ⟨false, false, 0, _⟩) (h.goTS hI ht k1 { m with read := m.dirty, am := false } rfl rfl rfl rfl rfl _ cp (by simp) h1 (by simp [tcOf, thNext, fnOf, hk]) s1 (rfl)) rfl k1 (sub2 ht en m)
theorem q_l52 {p : PM} {en : Nat → Nat} {l : Int} {m : M} {w : World} (h : GAt p en l m w) (hI : m.Inv) {i t : Nat} (ht : p.ts[i]? = some t) (ho : ThOk m (m.ths i)) (hk : (m.ths i).kind = 0) (hat : (m.ths i).at_ = 52) : GDoes 112 p en l m t (m.load i) w := by
  obtain ⟨cp, hcp, hb⟩ := h.ts i t ht
  have hop := ho.op
  have _ := hk
  unfold OpOk at hop
  rw [tcOf_busy (by omega)] at hb
  have hk0 : 0 ≤ (m.ths i).key := hop.2.2.1
  have hk7 : (m.ths i).key < 8 := by omega
  have hst : m.load i = { m with hd := false, dirty := fun _ => -1 }.goes i 53 := by simp [M.load, M.missed, hat]
  rw [hst]
  simp only [GDoes, M.goes]
  refine Calls.mono (p_l52 _ (shOf en m) t w hb h.s) ?_
  rintro e w' ⟨rfl, h1, s1, k1⟩
  exact gsome (o := ⟨false, false, 0, _⟩) (h.goTS hI ht k1 { m with hd := false, dirty := fun _ => -1 } rfl rfl rfl rfl rfl _ cp (by simp) h1 (by simp [tcOf, thNext, fnOf, hk]) s1 (by simp [shOf, ptrE])) rfl k1 (sub2 ht en m)
theorem q_l53 {p : PM} {en : Nat → Nat} {l : Int} {m : M} {w : World} (h : GAt p en l m w) (hI : m.Inv) {i t : Nat} (ht : p.ts[i]? = some t) (ho : ThOk m (m.ths i)) (hk : (m.ths i).kind = 0) (hat : (m.ths i).at_ = 53) : GDoes 116 p en l m t (m.load i) w := by
  obtain ⟨cp, hcp, hb⟩ := h.ts i t ht
  have hop := ho.op
  have _ := hk
  unfold OpOk at hop
  rw [tcOf_busy (by omega)] at hb
  have hk0 : 0 ≤ (m.ths i).key := hop.2.2.1
  have hk7 : (m.ths i).key < 8 := by omega
  have hst : m.load i = { m with mis := 0 }.goes i 6 := by simp [M.load, M.missed, hat]
  rw [hst]
  simp only [GDoes, M.goes]
  refine Calls.mono (p_l53 _ (shOf en m) t w hb h.s) ?_
  rintro e w' ⟨rfl, h1, s1, k1⟩
  exact gsome (o := ⟨false, false, 0, _⟩) (h.goTS hI ht k1 { m with mis := 0 } rfl rfl rfl rfl rfl _ cp (by simp) h1 (by simp [tcOf, thNext, fnOf, hk]) s1 (rfl)) rfl k1 (sub2 ht en m)
theorem q_l6 {p : PM} {en : Nat → Nat} {l : Int} {m : M} {w : World} (h : GAt p en l m w) (hI : m.Inv) {i t : Nat} (ht : p.ts[i]? = some t) (ho : ThOk m (m.ths i)) (hk : (m.ths i).kind = 0) (hat : (m.ths i).at_ = 6) : GDoes 92 p en l m t (m.load i) w := by
  obtain ⟨cp, hcp, hb⟩ := h.ts i t ht
  have hop := ho.op
  have _ := hk
  unfold OpOk at hop
  rw [tcOf_busy (by omega)] at hb
  have hk0 : 0 ≤ (m.ths i).key := hop.2.2.1
  have hk7 : (m.ths i).key < 8 := by omega
  have hst : m.load i = m.frees i 7 := by simp [M.load, hat]
  rw [hst]
  unfold M.frees
  by_cases hr : (m.ths i).e < 0
  · rw [if_pos hr]
    simp only [GDoes, M.ends]
    refine Calls.mono (p_l6_end _ (shOf en m) t w hb h.s (ptrE_none hr)) ?_
    rintro e w' ⟨rfl, h1, s1, k1⟩
    exact gsome (o := ⟨true, false, 0, _⟩) (h.goTS hI ht k1 { m with hol := -1 } rfl rfl rfl rfl rfl _ 0 (by simp) h1 (by simp [tcOf, Tc.idle]) s1 rfl) rfl k1 (sub2 ht en m)
  · rw [if_neg hr]
    simp only [GDoes, M.goes]
    refine Calls.mono (p_l6_on _ (shOf en m) t _ w hb h.s (ptrE_some (Int.not_lt.1 hr))) ?_
    rintro e w' ⟨rfl, h1, s1, k1⟩
    exact gsome (o := ⟨false, false, 0, _⟩) (h.goTS hI ht k1 { m with hol := -1 } rfl rfl rfl rfl rfl _ cp (by simp) h1 (by simp [tcOf, thNext, fnOf, hk]) s1 (rfl)) rfl k1 (sub2 ht en m)
theorem q_l7 {p : PM} {en : Nat → Nat} {l : Int} {m : M} {w : World} (h : GAt p en l m w) (hI : m.Inv) {i t : Nat} (ht : p.ts[i]? = some t) (ho : ThOk m (m.ths i)) (hk : (m.ths i).kind = 0) (hat : (m.ths i).at_ = 7) : GDoes 80 p en l m t (m.load i) w := by
  obtain ⟨cp, hcp, hb⟩ := h.ts i t ht
  have hop := ho.op
  have _ := hk
  unfold OpOk at hop
  rw [tcOf_busy (by omega)] at hb
  have hk0 : 0 ≤ (m.ths i).key := hop.2.2.1
  have hk7 : (m.ths i).key < 8 := by omega
  have he0 : 0 ≤ (m.ths i).e := ho.ne (by simp [NeedsE, hk, hat])
  have hel : (m.ths i).e.toNat < m.nc := by have := ho.e; omega
  have hE := h.es _ hel
  have hcel := hI.cel _ hel
  have hst : m.load i = m.ends i ((m.cells (m.ths i).e.toNat).st == 0) (m.cells (m.ths i).e.toNat).v := by simp [M.load, hat]
  rw [hst]
  by_cases hx : (m.cells (m.ths i).e.toNat).st = 0
  · rw [hx]
    simp only [GDoes, M.ends]
    refine Calls.mono (p_l7_value _ t _ _ _ w hb hE (ptrE_some he0) hx) ?_
    rintro e w' ⟨rfl, h1, k1⟩
    exact gsome (o := ⟨true, true, _, _⟩) (h.goT hI ht k1 _ 0 (by simp) h1 (by simp [tcOf, Tc.idle])) rfl k1 (sub1 ht en m)
  · have hy : (m.cells (m.ths i).e.toNat).v = 0 := by unfold CelOk at hcel; omega
    have hbq : ((m.cells (m.ths i).e.toNat).st == 0) = false := by simpa using hx
    rw [hy, hbq]
    simp only [GDoes, M.ends]
    refine Calls.mono (p_l7_none _ t _ _ _ w hb hE (ptrE_some he0) hx) ?_
    rintro e w' ⟨rfl, h1, k1⟩
    exact gsome (o := ⟨true, false, 0, _⟩) (h.goT hI ht k1 _ 0 (by simp) h1 (by simp [tcOf, Tc.idle])) rfl k1 (sub1 ht en m)
end Go.Proofs.YtfgfpggjcfhccaaGreat
