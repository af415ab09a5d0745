import Derived.Test.YtfgfpggjcfhccaaGreatQa
namespace Go.Proofs.YtfgfpggjcfhccaaGreat
open Go.RowKit
theorem sub1 {p : PM} {i t : Nat} (ht : p.ts[i]? = some t) (en : Nat → Nat) (m : M) : ∀ x, x ∈ [t] → x ∈ fp p en m := by
  intro x hx
  obtain rfl : x = t := by simpa using hx
  exact mem_fp_t ht en m
theorem sub2 {p : PM} {i t : Nat} (ht : p.ts[i]? = some t) (en : Nat → Nat) (m : M) : ∀ x, x ∈ [t, p.s] → x ∈ fp p en m := by
  intro x hx
  simp only [List.mem_cons, List.not_mem_nil, or_false] at hx
  rcases hx with rfl | rfl
  · exact mem_fp_t ht en m
  · exact mem_fp_s p en m
theorem sub3 {p : PM} {i t : Nat} (ht : p.ts[i]? = some t) (en : Nat → Nat) {m : M} {a : Nat} (ha : a < m.nc) : ∀ x, x ∈ [t, en a] → x ∈ fp p en m := by
  intro x hx
  simp only [List.mem_cons, List.not_mem_nil, or_false] at hx
  rcases hx with rfl | rfl
  · exact mem_fp_t ht en m
  · exact mem_fp_e p en ha
theorem q_s1 {p : PM} {en : Nat → Nat} {l : Int} {m : M} {w : World} (h : GAt p en l m w) (hI : m.Inv) {i t : Nat} (ht : p.ts[i]? = some t) (ho : ThOk m (m.ths i)) (hk : (m.ths i).kind = 1) (hat : (m.ths i).at_ = 1) : GDoes 69 p en l m t (m.store i) w := by
  obtain ⟨cp, hcp, hb⟩ := h.ts i t ht
  have hop := ho.op
  have _ := hk
  unfold OpOk at hop
  rw [tcOf_busy (by omega)] at hb
  have hk0 : 0 ≤ (m.ths i).key := hop.2.2.1
  have hk7 : (m.ths i).key < 8 := by omega
  have hst : m.store i = (m.sets i (m.read (m.key i))).goes i (if m.read (m.key i) < 0 then 4 else 2) := by simp [M.store, hat]
  rw [hst]
  by_cases hr : m.read (m.key i) < 0
  · rw [if_pos hr]
    simp only [GDoes, M.goes, sets_thr]
    refine Calls.mono (p_s1_no _ (shOf en m) t w hb h.s hk0 hk7 (ptrE_none hr)) ?_
    rintro e w' ⟨rfl, h1, k1⟩
    exact gsome (o := ⟨false, false, 0, _⟩) (h.goT hI ht k1 _ cp (by simp) h1 (by simp [tcOf, thNext, fnOf, hk, ptrE_none hr])) rfl k1 (sub1 ht en m)
  · rw [if_neg hr]
    simp only [GDoes, M.goes, sets_thr]
    refine Calls.mono (p_s1_in _ (shOf en m) t ⟨en (m.read (m.key i)).toNat, 0, none⟩ w hb h.s hk0 hk7 (ptrE_some (Int.not_lt.1 hr))) ?_
    rintro e w' ⟨rfl, h1, k1⟩
    exact gsome (o := ⟨false, false, 0, _⟩) (h.goT hI ht k1 _ cp (by simp) h1 (by simp [tcOf, thNext, fnOf, hk, ptrE_some (Int.not_lt.1 hr)])) rfl k1 (sub1 ht en m)
theorem q_s5 {p : PM} {en : Nat → Nat} {l : Int} {m : M} {w : World} (h : GAt p en l m w) (hI : m.Inv) {i t : Nat} (ht : p.ts[i]? = some t) (ho : ThOk m (m.ths i)) (hk : (m.ths i).kind = 1) (hat : (m.ths i).at_ = 5) : GDoes 89 p en l m t (m.store i) w := by
  obtain ⟨cp, hcp, hb⟩ := h.ts i t ht
  have hop := ho.op
  have _ := hk
  unfold OpOk at hop
  rw [tcOf_busy (by omega)] at hb
  have hk0 : 0 ≤ (m.ths i).key := hop.2.2.1
  have hk7 : (m.ths i).key < 8 := by omega
  have hst : m.store i = (m.sets i (m.read (m.key i))).goes i (if m.read (m.key i) < 0 then 8 else 6) := by simp [M.store, hat]
  rw [hst]
  by_cases hr : m.read (m.key i) < 0
  · rw [if_pos hr]
    simp only [GDoes, M.goes, sets_thr]
    refine Calls.mono (p_s5_no _ (shOf en m) t w hb h.s hk0 hk7 (ptrE_none hr)) ?_
    rintro e w' ⟨rfl, h1, k1⟩
    exact gsome (o := ⟨false, false, 0, _⟩) (h.goT hI ht k1 _ cp (by simp) h1 (by simp [tcOf, thNext, fnOf, hk, ptrE_none hr])) rfl k1 (sub1 ht en m)
  · rw [if_neg hr]
    simp only [GDoes, M.goes, sets_thr]
    refine Calls.mono (p_s5_in _ (shOf en m) t ⟨en (m.read (m.key i)).toNat, 0, none⟩ w hb h.s hk0 hk7 (ptrE_some (Int.not_lt.1 hr))) ?_
    rintro e w' ⟨rfl, h1, k1⟩
    exact gsome (o := ⟨false, false, 0, _⟩) (h.goT hI ht k1 _ cp (by simp) h1 (by simp [tcOf, thNext, fnOf, hk, ptrE_some (Int.not_lt.1 hr)])) rfl k1 (sub1 ht en m)
theorem q_s2 {p : PM} {en : Nat → Nat} {l : Int} {m : M} {w : World} (h : GAt p en l m w) (hI : m.Inv) {i t : Nat} (ht : p.ts[i]? = some t) (ho : ThOk m (m.ths i)) (hk : (m.ths i).kind = 1) (hat : (m.ths i).at_ = 2) : GDoes 84 p en l m t (m.store i) w := by
  obtain ⟨cp, hcp, hb⟩ := h.ts i t ht
  have hop := ho.op
  have _ := hk
  unfold OpOk at hop
  rw [tcOf_busy (by omega)] at hb
  have hk0 : 0 ≤ (m.ths i).key := hop.2.2.1
  have hk7 : (m.ths i).key < 8 := by omega
  have he0 : 0 ≤ (m.ths i).e := ho.ne (by simp [NeedsE, hk, hat])
  have hel : (m.ths i).e.toNat < m.nc := by have := ho.e; omega
  have hE := h.es _ hel
  have hcel := hI.cel _ hel
  have hst : m.store i = (m.sees i (m.cells (m.ths i).e.toNat).st (m.cells (m.ths i).e.toNat).v).goes i (if (m.cells (m.ths i).e.toNat).st = 2 then 4 else 3) := by simp [M.store, hat]
  rw [hst]
  by_cases hx : (m.cells (m.ths i).e.toNat).st = 2
  · rw [if_pos hx]
    simp only [GDoes, M.goes, sees_thr]
    refine Calls.mono (p_s2_out _ t _ _ _ w hb hE (ptrE_some he0) hx) ?_
    rintro e w' ⟨rfl, h1, k1⟩
    exact gsome (o := ⟨false, false, 0, _⟩) (h.goT hI ht k1 _ cp (by simp) h1 (by simp [tcOf, thNext, fnOf, hk])) rfl k1 (sub1 ht en m)
  · rw [if_neg hx]
    simp only [GDoes, M.goes, sees_thr]
    refine Calls.mono (p_s2_on _ t _ _ _ w hb hE (ptrE_some he0) hx) ?_
    rintro e w' ⟨rfl, h1, k1⟩
    exact gsome (o := ⟨false, false, 0, _⟩) (h.goT hI ht k1 _ cp (by simp) h1 (by simp [tcOf, thNext, fnOf, hk])) rfl k1 (sub1 ht en m)
theorem q_s3 {p : PM} {en : Nat → Nat} {l : Int} {m : M} {w : World} (h : GAt p en l m w) (hI : m.Inv) {i t : Nat} (ht : p.ts[i]? = some t) (ho : ThOk m (m.ths i)) (hk : (m.ths i).kind = 1) (hat : (m.ths i).at_ = 3) : GDoes 90 p en l m t (m.store i) w := by
  obtain ⟨cp, hcp, hb⟩ := h.ts i t ht
  have hop := ho.op
  have _ := hk
  unfold OpOk at hop
  rw [tcOf_busy (by omega)] at hb
  have hk0 : 0 ≤ (m.ths i).key := hop.2.2.1
  have hk7 : (m.ths i).key < 8 := by omega
  have he0 : 0 ≤ (m.ths i).e := ho.ne (by simp [NeedsE, hk, hat])
  have hel : (m.ths i).e.toNat < m.nc := by have := ho.e; omega
  have hE := h.es _ hel
  have hcel := hI.cel _ hel
  have hst : m.store i = if (m.cells (m.ths i).e.toNat).st = (m.ths i).sst ∧ (m.cells (m.ths i).e.toNat).v = (m.ths i).sv then { m with cells := put m.cells (m.ths i).e.toNat ⟨0, (m.ths i).val⟩ }.ends i true (m.ths i).val else m.goes i 2 := by simp [M.store, hat]
  rw [hst]
  by_cases hx : (m.cells (m.ths i).e.toNat).st = (m.ths i).sst ∧ (m.cells (m.ths i).e.toNat).v = (m.ths i).sv
  · rw [if_pos hx]
    simp only [GDoes, M.ends]
    refine Calls.mono (p_s3_yes _ t _ _ _ w hb hE (ptrE_some he0) hx.1 hx.2) ?_
    rintro e w' ⟨rfl, h1, e1, k1⟩
    exact gsome (o := ⟨true, true, (m.ths i).val, _⟩) (h.goTE hI ht hel k1 0 (m.ths i).val _ 0 (by simp) h1 (by simp [tcOf, Tc.idle]) e1) rfl k1 (sub3 ht en hel)
  · rw [if_neg hx]
    simp only [GDoes, M.goes]
    refine Calls.mono (p_s3_no _ t _ _ _ w hb hE (ptrE_some he0) hx) ?_
    rintro e w' ⟨rfl, h1, k1⟩
    exact gsome (o := ⟨false, false, 0, _⟩) (h.goT hI ht k1 _ cp (by simp) h1 (by simp [tcOf, thNext, fnOf, hk])) rfl k1 (sub1 ht en m)
theorem q_s6 {p : PM} {en : Nat → Nat} {l : Int} {m : M} {w : World} (h : GAt p en l m w) (hI : m.Inv) {i t : Nat} (ht : p.ts[i]? = some t) (ho : ThOk m (m.ths i)) (hk : (m.ths i).kind = 1) (hat : (m.ths i).at_ = 6) : GDoes 95 p en l m t (m.store i) w := by
  obtain ⟨cp, hcp, hb⟩ := h.ts i t ht
  have hop := ho.op
  have _ := hk
  unfold OpOk at hop
  rw [tcOf_busy (by omega)] at hb
  have hk0 : 0 ≤ (m.ths i).key := hop.2.2.1
  have hk7 : (m.ths i).key < 8 := by omega
  have he0 : 0 ≤ (m.ths i).e := ho.ne (by simp [NeedsE, hk, hat])
  have hel : (m.ths i).e.toNat < m.nc := by have := ho.e; omega
  have hE := h.es _ hel
  have hcel := hI.cel _ hel
  have hst : m.store i = if (m.cells (m.ths i).e.toNat).st = 2 then { m with cells := put m.cells (m.ths i).e.toNat ⟨1, 0⟩ }.goes i 7 else m.goes i 13 := by simp [M.store, hat]
  rw [hst]
  by_cases hx : (m.cells (m.ths i).e.toNat).st = 2
  · rw [if_pos hx]
    have hy : (m.cells (m.ths i).e.toNat).v = 0 := by unfold CelOk at hcel; omega
    simp only [GDoes, M.goes]
    refine Calls.mono (p_s6_on _ t _ _ _ w hb hE (ptrE_some he0) hx hy) ?_
    rintro e w' ⟨rfl, h1, e1, k1⟩
    exact gsome (o := ⟨false, false, 0, _⟩) (h.goTE hI ht hel k1 1 0 _ cp (by simp) h1 (by simp [tcOf, thNext, fnOf, hk]) e1) rfl k1 (sub3 ht en hel)
  · rw [if_neg hx]
    simp only [GDoes, M.goes]
    refine Calls.mono (p_s6_out _ t _ _ _ w hb hE (ptrE_some he0) hx) ?_
    rintro e w' ⟨rfl, h1, k1⟩
    exact gsome (o := ⟨false, false, 0, _⟩) (h.goT hI ht k1 _ cp (by simp) h1 (by simp [tcOf, thNext, fnOf, hk])) rfl k1 (sub1 ht en m)
theorem q_s13 {p : PM} {en : Nat → Nat} {l : Int} {m : M} {w : World} (h : GAt p en l m w) (hI : m.Inv) {i t : Nat} (ht : p.ts[i]? = some t) (ho : ThOk m (m.ths i)) (hk : (m.ths i).kind = 1) (hat : (m.ths i).at_ = 13) : GDoes 100 p en l m t (m.store i) w := by
  obtain ⟨cp, hcp, hb⟩ := h.ts i t ht
  have hop := ho.op
  have _ := hk
  unfold OpOk at hop
  rw [tcOf_busy (by omega)] at hb
  have hk0 : 0 ≤ (m.ths i).key := hop.2.2.1
  have hk7 : (m.ths i).key < 8 := by omega
  have he0 : 0 ≤ (m.ths i).e := ho.ne (by simp [NeedsE, hk, hat])
  have hel : (m.ths i).e.toNat < m.nc := by have := ho.e; omega
  have hE := h.es _ hel
  have hcel := hI.cel _ hel
  have hst : m.store i = { m with cells := put m.cells (m.ths i).e.toNat ⟨0, (m.ths i).val⟩ }.goes i 14 := by simp [M.store, hat]
  rw [hst]
  simp only [GDoes, M.goes]
  refine Calls.mono (p_s13 _ t _ _ _ w hb hE (ptrE_some he0)) ?_
  rintro e w' ⟨rfl, h1, e1, k1⟩
  exact gsome (o := ⟨false, false, 0, _⟩) (h.goTE hI ht hel k1 0 (m.ths i).val _ cp (by simp) h1 (by simp [tcOf, thNext, fnOf, hk]) e1) rfl k1 (sub3 ht en hel)
theorem q_s14 {p : PM} {en : Nat → Nat} {l : Int} {m : M} {w : World} (h : GAt p en l m w) (hI : m.Inv) {i t : Nat} (ht : p.ts[i]? = some t) (ho : ThOk m (m.ths i)) (hk : (m.ths i).kind = 1) (hat : (m.ths i).at_ = 14) : GDoes 106 p en l m t (m.store i) w := by
  obtain ⟨cp, hcp, hb⟩ := h.ts i t ht
  have hop := ho.op
  have _ := hk
  unfold OpOk at hop
  rw [tcOf_busy (by omega)] at hb
  have hk0 : 0 ≤ (m.ths i).key := hop.2.2.1
  have hk7 : (m.ths i).key < 8 := by omega
  have hst : m.store i = { m with hol := -1 }.ends i true (m.ths i).val := by simp [M.store, hat]
  rw [hst]
  simp only [GDoes, M.ends]
  refine Calls.mono (p_s14 _ (shOf en m) t w hb h.s) ?_
  rintro e w' ⟨rfl, h1, s1, k1⟩
  exact gsome (o := ⟨true, true, (m.ths i).val, _⟩) (h.goTS hI ht k1 { m with hol := -1 } rfl rfl rfl rfl rfl _ 0 (by simp) h1 (by simp [tcOf, Tc.idle]) s1 rfl) rfl k1 (sub2 ht en m)
theorem q_s11 {p : PM} {en : Nat → Nat} {l : Int} {m : M} {w : World} (h : GAt p en l m w) (hI : m.Inv) {i t : Nat} (ht : p.ts[i]? = some t) (ho : ThOk m (m.ths i)) (hk : (m.ths i).kind = 1) (hat : (m.ths i).at_ = 11) : GDoes 114 p en l m t (m.store i) w := by
  obtain ⟨cp, hcp, hb⟩ := h.ts i t ht
  have hop := ho.op
  have _ := hk
  unfold OpOk at hop
  rw [tcOf_busy (by omega)] at hb
  have hk0 : 0 ≤ (m.ths i).key := hop.2.2.1
  have hk7 : (m.ths i).key < 8 := by omega
  have hst : m.store i = { m with am := true }.goes i 12 := by simp [M.store, hat]
  rw [hst]
  simp only [GDoes, M.goes]
  refine Calls.mono (p_s11 _ (shOf en m) t w hb h.s) ?_
  rintro e w' ⟨rfl, h1, s1, k1⟩
  exact gsome (o := ⟨false, false, 0, _⟩) (h.goTS hI ht k1 { m with am := true } rfl rfl rfl rfl rfl _ cp (by simp) h1 (by simp [tcOf, thNext, fnOf, hk]) s1 (rfl)) rfl k1 (sub2 ht en m)
theorem shOf_put (en : Nat → Nat) (m : M) (k : Nat) (x : Int) : shOf en { m with dirty := put m.dirty k x } = { shOf en m with D := fun j => if j = k then ptrE en x else (shOf en m).D j } := by
  simp only [shOf, Sh.mk.injEq, true_and, and_true]
  funext j
  simp only [put]
  split <;> rfl
theorem q_s7 {p : PM} {en : Nat → Nat} {l : Int} {m : M} {w : World} (h : GAt p en l m w) (hI : m.Inv) {i t : Nat} (ht : p.ts[i]? = some t) (ho : ThOk m (m.ths i)) (hk : (m.ths i).kind = 1) (hat : (m.ths i).at_ = 7) : GDoes 103 p en l m t (m.store i) w := by
  obtain ⟨cp, hcp, hb⟩ := h.ts i t ht
  have hop := ho.op
  have _ := hk
  unfold OpOk at hop
  rw [tcOf_busy (by omega)] at hb
  have hk0 : 0 ≤ (m.ths i).key := hop.2.2.1
  have hk7 : (m.ths i).key < 8 := by omega
  have hst : m.store i = { m with dirty := put m.dirty (m.key i) (m.ths i).e }.goes i 13 := by simp [M.store, hat]
  rw [hst]
  simp only [GDoes, M.goes]
  refine Calls.mono (p_s7 _ (shOf en m) t w hb h.s hk0 hk7) ?_
  rintro e w' ⟨rfl, h1, s1, k1⟩
  exact gsome (o := ⟨false, false, 0, _⟩) (h.goTS hI ht k1 { m with dirty := put m.dirty (m.key i) (m.ths i).e } rfl rfl rfl rfl rfl _ cp (by simp) h1 (by simp [tcOf, thNext, fnOf, hk]) s1 (shOf_put en m _ _)) rfl k1 (sub2 ht en m)
theorem q_s8 {p : PM} {en : Nat → Nat} {l : Int} {m : M} {w : World} (h : GAt p en l m w) (hI : m.Inv) {i t : Nat} (ht : p.ts[i]? = some t) (ho : ThOk m (m.ths i)) (hk : (m.ths i).kind = 1) (hat : (m.ths i).at_ = 8) : GDoes 94 p en l m t (m.store i) w := by
  obtain ⟨cp, hcp, hb⟩ := h.ts i t ht
  have hop := ho.op
  have _ := hk
  unfold OpOk at hop
  rw [tcOf_busy (by omega)] at hb
  have hk0 : 0 ≤ (m.ths i).key := hop.2.2.1
  have hk7 : (m.ths i).key < 8 := by omega
  have hst : m.store i = (m.sets i (m.dirty (m.key i))).goes i (if m.dirty (m.key i) < 0 then (if m.am then 12 else 9) else 13) := by simp [M.store, hat]
  rw [hst]
  by_cases hr : m.dirty (m.key i) < 0
  · rw [if_pos hr]
    by_cases ha : m.am = true
    · rw [if_pos ha]
      simp only [GDoes, M.goes, sets_thr]
      refine Calls.mono (p_s8_am _ (shOf en m) t w hb h.s hk0 hk7 (ptrE_none hr) ha) ?_
      rintro e w' ⟨rfl, h1, k1⟩
      exact gsome (o := ⟨false, false, 0, _⟩) (h.goT hI ht k1 _ cp (by simp) h1 (by simp [tcOf, thNext, fnOf, hk, ptrE_none hr])) rfl k1 (sub1 ht en m)
    · rw [if_neg ha]
      simp only [GDoes, M.goes, sets_thr]
      refine Calls.mono (p_s8_no _ (shOf en m) t w hb h.s hk0 hk7 (ptrE_none hr) (by show m.am = false; simpa using ha)) ?_
      rintro e w' ⟨rfl, h1, k1⟩
      exact gsome (o := ⟨false, false, 0, _⟩) (h.goT hI ht k1 _ cp (by simp) h1 (by simp [tcOf, thNext, fnOf, hk, ptrE_none hr])) rfl k1 (sub1 ht en m)
  · rw [if_neg hr]
    simp only [GDoes, M.goes, sets_thr]
    refine Calls.mono (p_s8_in _ (shOf en m) t ⟨en (m.dirty (m.key i)).toNat, 0, none⟩ w hb h.s hk0 hk7 (ptrE_some (Int.not_lt.1 hr))) ?_
    rintro e w' ⟨rfl, h1, k1⟩
    exact gsome (o := ⟨false, false, 0, _⟩) (h.goT hI ht k1 _ cp (by simp) h1 (by simp [tcOf, thNext, fnOf, hk, ptrE_some (Int.not_lt.1 hr)])) rfl k1 (sub1 ht en m)
end Go.Proofs.YtfgfpggjcfhccaaGreat
