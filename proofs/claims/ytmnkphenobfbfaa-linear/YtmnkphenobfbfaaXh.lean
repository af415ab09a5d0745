import Derived.Test.YtmnkphenobfbfaaXa
import Derived.Test.YtmnkphenobfbfaaXe
import Derived.Test.YtmnkphenobfbfaaXg
import Derived.Test.YtmnkphenobfbfaaXf
import Derived.Test.YtmnkphenobfbfaaGa
import Derived.FnLit
namespace Go.Proofs.Ytmnkphenobfbfaa
open Go.RowKit
/-! The program's map, over the document's machine. -/
/-- An entry's place as a pointer. -/
def ptrE (en : Nat → Nat) (x : Int) : Option Addr := if x < 0 then none else some ⟨en x.toNat, 0, none⟩
theorem ptrE_none {en : Nat → Nat} {x : Int} (h : x < 0) : ptrE en x = none := by simp [ptrE, h]
theorem ptrE_some {en : Nat → Nat} {x : Int} (h : 0 ≤ x) : ptrE en x = some ⟨en x.toNat, 0, none⟩ := by
  have : ¬ x < 0 := by omega
  simp [ptrE, this]
def thNext (t : Nat) (kind at_ : Int) : Value := .func (.func (fnOf kind at_)) #[.pointer (some ⟨t, 0, none⟩)] #[]
/-- A thread's cells. -/
def tcOf (en : Nat → Nat) (i s t : Nat) (h : Thr) (cp : Int) : Tc :=
  if h.at_ = 0 then ⟨i, s, 0, 0, 0, 0, none, 0, 0, 0, .nilFunc⟩
  else ⟨i, s, h.kind, h.key, h.val, h.old, ptrE en h.e, h.sst, h.sv, cp, thNext t h.kind h.at_⟩
theorem tcOf_idle {en : Nat → Nat} {i s t : Nat} {h : Thr} {cp : Int} (e : h.at_ = 0) : tcOf en i s t h cp = ⟨i, s, 0, 0, 0, 0, none, 0, 0, 0, .nilFunc⟩ := if_pos e
theorem tcOf_busy {en : Nat → Nat} {i s t : Nat} {h : Thr} {cp : Int} (e : ¬ h.at_ = 0) : tcOf en i s t h cp = ⟨i, s, h.kind, h.key, h.val, h.old, ptrE en h.e, h.sst, h.sv, cp, thNext t h.kind h.at_⟩ := if_neg e
theorem tcOf_i (en : Nat → Nat) (i s t : Nat) (h : Thr) (cp : Int) : (tcOf en i s t h cp).i = i := by unfold tcOf; split <;> rfl
theorem tcOf_s (en : Nat → Nat) (i s t : Nat) (h : Thr) (cp : Int) : (tcOf en i s t h cp).s = s := by unfold tcOf; split <;> rfl
def shOf (en : Nat → Nat) (m : M) : Sh := ⟨fun k => ptrE en (m.read k), m.am, fun k => ptrE en (m.dirty k), m.hd, m.mis, m.hol⟩
/-- The program's map lies at p, its entries at en; 'l': the word of the calls' lock. -/
structure GAt (p : PM) (en : Nat → Nat) (l : Int) (m : M) (w : World) : Prop where
  len : p.ts.length = m.nth
  nth : m.nth ≤ 6
  cap : p.ts.length ≤ p.cap
  mp : w.heap[p.m]? = some (.cells (pmCells p l) 74 (0, 0))
  c : w.heap[p.c]? = some (.chan 0 #[] m.cl 0 0 false)
  s : w.heap[p.s]? = some (.cells (shOf en m).cells 97 (0, 0))
  tb : ∃ cs : Array Value, w.heap[p.tb]? = some (.cells cs 75 (0, 0)) ∧ ∀ (i t : Nat), p.ts[i]? = some t → cs[i]? = some (.pointer (some ⟨t, 0, none⟩))
  ts : ∀ (i t : Nat), p.ts[i]? = some t → ∃ cp, ((m.ths i).at_ = 10 → cp = (m.ths i).next) ∧ w.heap[t]? = some (.cells (tcOf en i p.s t (m.ths i) cp).cells 103 (0, 0))
  es : ∀ j, j < m.nc → w.heap[en j]? = some (.cells #[.int .i64 (m.cells j).st, .int .i64 (m.cells j).v] 124 (0, 0))
  inj : ∀ j j', j < m.nc → j' < m.nc → en j = en j' → j = j'
/-- The blocks that a step may write. -/
def fp (p : PM) (en : Nat → Nat) (m : M) : List Nat := p.s :: (p.ts ++ (List.range m.nc).map en)
theorem mem_fp_s (p : PM) (en : Nat → Nat) (m : M) : p.s ∈ fp p en m := by simp [fp]
theorem mem_fp_t {p : PM} {i t : Nat} (h : p.ts[i]? = some t) (en : Nat → Nat) (m : M) : t ∈ fp p en m := by
  have := List.mem_of_getElem? h
  simp [fp, this]
theorem mem_fp_e (p : PM) (en : Nat → Nat) {m : M} {j : Nat} (h : j < m.nc) : en j ∈ fp p en m := by
  simp only [fp, List.mem_cons, List.mem_append, List.mem_map, List.mem_range]
  exact .inr (.inr ⟨j, h, rfl⟩)
theorem tc_head {tc tc' : Tc} (h : tc.cells = tc'.cells) : tc.i = tc'.i := by
  have e : tc.cells[0]? = tc'.cells[0]? := by rw [h]
  simp only [Tc.cells, List.getElem?_toArray, List.getElem?_cons_zero, Option.some.injEq, Value.int.injEq, true_and] at e
  omega
/-- All blocks of the map that a step writes, and what they hold behind it. -/
theorem GAt.go {p : PM} {en en' : Nat → Nat} {l : Int} {m m' : M} {w w' : World} {F : List Nat} (h : GAt p en l m w) {i t : Nat} (ht : p.ts[i]? = some t) (k : Kept F w w')
    (hF : ∀ x, x ∈ F → x = t ∨ x = p.s ∨ ∃ j, j < m.nc ∧ x = en j)
    (e1 : m'.nth = m.nth) (e2 : m'.cl = m.cl) (e4 : ∀ j, j < m.nc → en' j = en j) (e5 : ∀ j, m.nc ≤ j → j < m'.nc → w.heap.size ≤ en' j) (e6 : ∀ j j', m.nc ≤ j → j < m'.nc → m.nc ≤ j' → j' < m'.nc → en' j = en' j' → j = j')
    (e7 : ∀ j, j ≠ i → m'.ths j = m.ths j) (e8 : ∀ j, j < m.nth → j ≠ i → (m.ths j).at_ = 0 ∨ (m.ths j).e < m.nc)
    (bt : ∃ cp, ((m'.ths i).at_ = 10 → cp = (m'.ths i).next) ∧ w'.heap[t]? = some (.cells (tcOf en' i p.s t (m'.ths i) cp).cells 103 (0, 0)))
    (bs : w'.heap[p.s]? = some (.cells (shOf en' m').cells 97 (0, 0)))
    (be : ∀ j, j < m'.nc → w'.heap[en' j]? = some (.cells #[.int .i64 (m'.cells j).st, .int .i64 (m'.cells j).v] 124 (0, 0))) : GAt p en' l m' w' := by
  obtain ⟨cs', g1, g2⟩ := h.tb
  obtain ⟨cp0, _, hb0⟩ := h.ts i t ht
  have off : ∀ {b : Nat} {o : Obj}, w.heap[b]? = some o → (∀ cs, o ≠ .cells cs 103 (0, 0)) → (∀ cs, o ≠ .cells cs 97 (0, 0)) → (∀ cs, o ≠ .cells cs 124 (0, 0)) → w'.heap[b]? = some o := by
    intro b o hb n1 n2 n3
    refine k.at hb fun hx => ?_
    rcases hF b hx with rfl | rfl | ⟨j, hj, rfl⟩
    · exact n1 _ (Option.some.inj (hb.symm.trans hb0))
    · exact n2 _ (Option.some.inj (hb.symm.trans h.s))
    · exact n3 _ (Option.some.inj (hb.symm.trans (h.es j hj)))
  refine ⟨by rw [e1]; exact h.len, by rw [e1]; exact h.nth, h.cap, off h.mp (by simp) (by simp) (by simp), ?_, bs, ⟨cs', off g1 (by simp) (by simp) (by simp), g2⟩, fun j t' hj => ?_, be, ?_⟩
  · rw [e2]; exact off h.c (by simp) (by simp) (by simp)
  · by_cases hji : j = i
    · subst hji
      have : t' = t := Option.some.inj (hj.symm.trans ht)
      subst this
      exact bt
    · obtain ⟨cp, hcp, hb⟩ := h.ts j t' hj
      refine ⟨cp, by rw [e7 j hji]; exact hcp, ?_⟩
      have hpe : tcOf en' j p.s t' (m'.ths j) cp = tcOf en j p.s t' (m.ths j) cp := by
        rw [e7 j hji]
        unfold tcOf
        split
        · rfl
        · rename_i hat
          have hlt := (e8 j (by rw [← h.len]; exact (List.getElem?_eq_some_iff.1 hj).1) hji).resolve_left hat
          have : ptrE en' (m.ths j).e = ptrE en (m.ths j).e := by
            unfold ptrE
            split
            · rfl
            · rw [e4 _ (by omega)]
          rw [this]
      rw [hpe]
      refine k.at hb fun hx => ?_
      rcases hF t' hx with rfl | rfl | ⟨a, ha, rfl⟩
      · have e := hb.symm.trans hb0
        simp only [Option.some.injEq, Obj.cells.injEq, and_true] at e
        have := tc_head e
        rw [tcOf_i, tcOf_i] at this
        exact hji this
      · exact absurd (hb.symm.trans h.s) (by simp)
      · exact absurd (hb.symm.trans (h.es a ha)) (by simp)
  · intro j j' hj hj' ee
    by_cases a : j < m.nc
    · by_cases b : j' < m.nc
      · rw [e4 j a, e4 j' b] at ee
        exact h.inj j j' a b ee
      · have := e5 j' (by omega) hj'
        have := lt_of_block (h.es j a)
        rw [e4 j a] at ee
        omega
    · by_cases b : j' < m.nc
      · have := e5 j (by omega) hj
        have := lt_of_block (h.es j' b)
        rw [e4 j' b] at ee
        omega
      · exact e6 j j' (by omega) hj (by omega) hj' ee
theorem M.Inv.es {m : M} (hI : m.Inv) (i : Nat) : ∀ j, j < m.nth → j ≠ i → (m.ths j).at_ = 0 ∨ (m.ths j).e < m.nc :=
  fun j hj _ => (hI.th j hj).imp id fun a => a.e.2
/-- Nothing but the thread. -/
theorem GAt.goT {p : PM} {en : Nat → Nat} {l : Int} {m : M} {w w' : World} (h : GAt p en l m w) (hI : m.Inv) {i t : Nat} (ht : p.ts[i]? = some t) (k : Kept [t] w w') (th : Thr) (cp : Int) (hcp : th.at_ = 10 → cp = th.next) {tc : Tc}
    (hb : w'.heap[t]? = some (.cells tc.cells 103 (0, 0))) (he : tcOf en i p.s t th cp = tc) : GAt p en l (m.thr i th) w' := by
  obtain ⟨cp0, _, hb0⟩ := h.ts i t ht
  refine h.go ht k (fun x hx => .inl (by simpa using hx)) rfl rfl (fun _ _ => rfl) (fun j h1 h2 => absurd h2 (by show ¬ j < m.nc; omega)) (fun j _ h1 h2 _ _ _ => absurd h2 (by show ¬ j < m.nc; omega)) (fun j hj => put_other _ _ hj) (hI.es i) ⟨cp, ?_, ?_⟩ (k.at h.s (by simpa using ne_of_blocks h.s hb0 (by simp))) (fun j hj => k.at (h.es j hj) (by simpa using ne_of_blocks (h.es j hj) hb0 (by simp)))
  · rw [thr_ths]; exact hcp
  · rw [thr_ths, he]; exact hb
/-- The thread, and what is shared. -/
theorem GAt.goTS {p : PM} {en : Nat → Nat} {l : Int} {m : M} {w w' : World} (h : GAt p en l m w) (hI : m.Inv) {i t : Nat} (ht : p.ts[i]? = some t) (k : Kept [t, p.s] w w') (m' : M) (e1 : m'.nth = m.nth) (e2 : m'.cl = m.cl) (e3 : m'.nc = m.nc) (e4 : m'.cells = m.cells) (e5 : m'.ths = m.ths) (th : Thr) (cp : Int) (hcp : th.at_ = 10 → cp = th.next) {tc : Tc}
    (hb : w'.heap[t]? = some (.cells tc.cells 103 (0, 0))) (he : tcOf en i p.s t th cp = tc) {sh : Sh} (hs : w'.heap[p.s]? = some (.cells sh.cells 97 (0, 0))) (hse : shOf en m' = sh) : GAt p en l (m'.thr i th) w' := by
  obtain ⟨cp0, _, hb0⟩ := h.ts i t ht
  refine h.go ht k (fun x hx => by simp only [List.mem_cons, List.not_mem_nil, or_false] at hx; exact hx.imp id .inl) e1 e2 (fun _ _ => rfl) (fun j h1 h2 => absurd h2 (by show ¬ j < m'.nc; omega)) (fun j _ h1 h2 _ _ _ => absurd h2 (by show ¬ j < m'.nc; omega)) (fun j hj => ?_) (hI.es i) ⟨cp, ?_, ?_⟩ ?_ (fun j hj => ?_)
  · show put m'.ths i th j = m.ths j
    rw [put_other _ _ hj, e5]
  · rw [thr_ths]; exact hcp
  · rw [thr_ths, he]; exact hb
  · show w'.heap[p.s]? = some (.cells (shOf en m').cells 97 (0, 0))
    rw [hse]; exact hs
  · have hj' : j < m.nc := by rw [← e3]; exact hj
    show w'.heap[en j]? = some (.cells #[.int .i64 (m'.cells j).st, .int .i64 (m'.cells j).v] 124 (0, 0))
    rw [e4]
    refine k.at (h.es j hj') ?_
    simp only [List.mem_cons, List.not_mem_nil, or_false, not_or]
    exact ⟨ne_of_blocks (h.es j hj') hb0 (by simp), ne_of_blocks (h.es j hj') h.s (by simp)⟩
/-- The thread, and an entry. -/
theorem GAt.goTE {p : PM} {en : Nat → Nat} {l : Int} {m : M} {w w' : World} (h : GAt p en l m w) (hI : m.Inv) {i t : Nat} (ht : p.ts[i]? = some t) {a : Nat} (ha : a < m.nc) (k : Kept [t, en a] w w') (x y : Int) (th : Thr) (cp : Int) (hcp : th.at_ = 10 → cp = th.next) {tc : Tc}
    (hb : w'.heap[t]? = some (.cells tc.cells 103 (0, 0))) (he : tcOf en i p.s t th cp = tc) (hE : w'.heap[en a]? = some (.cells #[.int .i64 x, .int .i64 y] 124 (0, 0))) : GAt p en l ({ m with cells := put m.cells a ⟨x, y⟩ }.thr i th) w' := by
  obtain ⟨cp0, _, hb0⟩ := h.ts i t ht
  refine h.go ht k (fun x hx => by simp only [List.mem_cons, List.not_mem_nil, or_false] at hx; exact hx.imp id fun q => .inr ⟨a, ha, q⟩) rfl rfl (fun _ _ => rfl) (fun j h1 h2 => absurd h2 (by show ¬ j < m.nc; omega)) (fun j _ h1 h2 _ _ _ => absurd h2 (by show ¬ j < m.nc; omega)) (fun j hj => put_other _ _ hj) (hI.es i) ⟨cp, ?_, ?_⟩ ?_ (fun j hj => ?_)
  · rw [thr_ths]; exact hcp
  · rw [thr_ths, he]; exact hb
  · refine k.at h.s ?_
    simp only [List.mem_cons, List.not_mem_nil, or_false, not_or]
    exact ⟨ne_of_blocks h.s hb0 (by simp), ne_of_blocks h.s (h.es a ha) (by simp)⟩
  · have hj' : j < m.nc := hj
    show w'.heap[en j]? = some (.cells #[.int .i64 (put m.cells a ⟨x, y⟩ j).st, .int .i64 (put m.cells a ⟨x, y⟩ j).v] 124 (0, 0))
    by_cases q : j = a
    · subst q; rw [put_same]; exact hE
    · rw [put_other _ _ q]
      refine k.at (h.es j hj') ?_
      simp only [List.mem_cons, List.not_mem_nil, or_false, not_or]
      exact ⟨ne_of_blocks (h.es j hj') hb0 (by simp), fun e => q (h.inj j a hj' ha e)⟩
/-- What a step that is done leaves. -/
def GSome (p : PM) (en : Nat → Nat) (l : Int) (m : M) (w : World) (o : Out) (e : Ending) (w' : World) : Prop :=
  e = .returned (ans o.d o.f o.v 0) ∧ ∃ en', GAt p en' l o.m w' ∧ (∀ j, j < m.nc → en' j = en j) ∧ (∀ j, m.nc ≤ j → j < o.m.nc → w.heap.size ≤ en' j) ∧ Kept (fp p en m) w w'
def GDoes (n : Nat) (p : PM) (en : Nat → Nat) (l : Int) (m : M) (t : Nat) (o : Out) (w : World) : Prop :=
  Calls Try.prog n #[.pointer (some ⟨t, 0, none⟩)] w (GSome p en l m w o)
theorem gsome {p : PM} {en : Nat → Nat} {l : Int} {m : M} {w w' : World} {o : Out} {F : List Nat} (g : GAt p en l o.m w') (hn : o.m.nc = m.nc) (k : Kept F w w') (hF : ∀ x, x ∈ F → x ∈ fp p en m) : GSome p en l m w o (.returned (ans o.d o.f o.v 0)) w' :=
  ⟨rfl, en, g, fun _ _ => rfl, fun j h1 h2 => absurd h2 (by omega), k.mono hF⟩
end Go.Proofs.Ytmnkphenobfbfaa
namespace Go.Proofs.Ytmnkphenobfbfaa
open Go.RowKit
theorem sub1 {p : PM} {i t : Nat} (ht : p.ts[i]? = some t) (en : Nat → Nat) (m : M) : ∀ x, x ∈ [t] → x ∈ fp p en m := by
  intro x hx
  obtain rfl : x = t := by simpa using hx
  exact mem_fp_t ht en m
theorem sub2 {p : PM} {i t : Nat} (ht : p.ts[i]? = some t) (en : Nat → Nat) (m : M) : ∀ x, x ∈ [t, p.s] → x ∈ fp p en m := by
  intro x hx
  simp only [List.mem_cons, List.not_mem_nil, or_false] at hx
  rcases hx with rfl | rfl
  · exact mem_fp_t ht en m
  · exact mem_fp_s p en m
theorem sub3 {p : PM} {i t : Nat} (ht : p.ts[i]? = some t) (en : Nat → Nat) {m : M} {a : Nat} (ha : a < m.nc) : ∀ x, x ∈ [t, en a] → x ∈ fp p en m := by
  intro x hx
  simp only [List.mem_cons, List.not_mem_nil, or_false] at hx
  rcases hx with rfl | rfl
  · exact mem_fp_t ht en m
  · exact mem_fp_e p en ha
theorem q_s1 {p : PM} {en : Nat → Nat} {l : Int} {m : M} {w : World} (h : GAt p en l m w) (hI : m.Inv) {i t : Nat} (ht : p.ts[i]? = some t) (ho : ThOk m (m.ths i)) (hk : (m.ths i).kind = 1) (hat : (m.ths i).at_ = 1) : GDoes 50 p en l m t (m.store i) w := by
  obtain ⟨cp, hcp, hb⟩ := h.ts i t ht
  have hop := ho.op
  have _ := hk
  unfold OpOk at hop
  rw [tcOf_busy (by omega)] at hb
  have hk0 : 0 ≤ (m.ths i).key := hop.2.2.1
  have hk7 : (m.ths i).key < 8 := by omega
  have hst : m.store i = (m.sets i (m.read (m.key i))).goes i (if m.read (m.key i) < 0 then 4 else 2) := by simp [M.store, hat]
  rw [hst]
  by_cases hr : m.read (m.key i) < 0
  · rw [if_pos hr]
    simp only [GDoes, M.goes, sets_thr]
    refine Calls.mono (p_s1_no _ (shOf en m) t w hb h.s hk0 hk7 (ptrE_none hr)) ?_
    rintro e w' ⟨rfl, h1, k1⟩
    exact gsome (o := ⟨false, false, 0, _⟩) (h.goT hI ht k1 _ cp (by simp) h1 (by simp [tcOf, thNext, fnOf, hk, ptrE_none hr])) rfl k1 (sub1 ht en m)
  · rw [if_neg hr]
    simp only [GDoes, M.goes, sets_thr]
    refine Calls.mono (p_s1_in _ (shOf en m) t ⟨en (m.read (m.key i)).toNat, 0, none⟩ w hb h.s hk0 hk7 (ptrE_some (Int.not_lt.1 hr))) ?_
    rintro e w' ⟨rfl, h1, k1⟩
    exact gsome (o := ⟨false, false, 0, _⟩) (h.goT hI ht k1 _ cp (by simp) h1 (by simp [tcOf, thNext, fnOf, hk, ptrE_some (Int.not_lt.1 hr)])) rfl k1 (sub1 ht en m)
theorem q_s5 {p : PM} {en : Nat → Nat} {l : Int} {m : M} {w : World} (h : GAt p en l m w) (hI : m.Inv) {i t : Nat} (ht : p.ts[i]? = some t) (ho : ThOk m (m.ths i)) (hk : (m.ths i).kind = 1) (hat : (m.ths i).at_ = 5) : GDoes 68 p en l m t (m.store i) w := by
  obtain ⟨cp, hcp, hb⟩ := h.ts i t ht
  have hop := ho.op
  have _ := hk
  unfold OpOk at hop
  rw [tcOf_busy (by omega)] at hb
  have hk0 : 0 ≤ (m.ths i).key := hop.2.2.1
  have hk7 : (m.ths i).key < 8 := by omega
  have hst : m.store i = (m.sets i (m.read (m.key i))).goes i (if m.read (m.key i) < 0 then 8 else 6) := by simp [M.store, hat]
  rw [hst]
  by_cases hr : m.read (m.key i) < 0
  · rw [if_pos hr]
    simp only [GDoes, M.goes, sets_thr]
    refine Calls.mono (p_s5_no _ (shOf en m) t w hb h.s hk0 hk7 (ptrE_none hr)) ?_
    rintro e w' ⟨rfl, h1, k1⟩
    exact gsome (o := ⟨false, false, 0, _⟩) (h.goT hI ht k1 _ cp (by simp) h1 (by simp [tcOf, thNext, fnOf, hk, ptrE_none hr])) rfl k1 (sub1 ht en m)
  · rw [if_neg hr]
    simp only [GDoes, M.goes, sets_thr]
    refine Calls.mono (p_s5_in _ (shOf en m) t ⟨en (m.read (m.key i)).toNat, 0, none⟩ w hb h.s hk0 hk7 (ptrE_some (Int.not_lt.1 hr))) ?_
    rintro e w' ⟨rfl, h1, k1⟩
    exact gsome (o := ⟨false, false, 0, _⟩) (h.goT hI ht k1 _ cp (by simp) h1 (by simp [tcOf, thNext, fnOf, hk, ptrE_some (Int.not_lt.1 hr)])) rfl k1 (sub1 ht en m)
theorem q_s2 {p : PM} {en : Nat → Nat} {l : Int} {m : M} {w : World} (h : GAt p en l m w) (hI : m.Inv) {i t : Nat} (ht : p.ts[i]? = some t) (ho : ThOk m (m.ths i)) (hk : (m.ths i).kind = 1) (hat : (m.ths i).at_ = 2) : GDoes 63 p en l m t (m.store i) w := by
  obtain ⟨cp, hcp, hb⟩ := h.ts i t ht
  have hop := ho.op
  have _ := hk
  unfold OpOk at hop
  rw [tcOf_busy (by omega)] at hb
  have hk0 : 0 ≤ (m.ths i).key := hop.2.2.1
  have hk7 : (m.ths i).key < 8 := by omega
  have he0 : 0 ≤ (m.ths i).e := ho.ne (by simp [NeedsE, hk, hat])
  have hel : (m.ths i).e.toNat < m.nc := by have := ho.e; omega
  have hE := h.es _ hel
  have hcel := hI.cel _ hel
  have hst : m.store i = (m.sees i (m.cells (m.ths i).e.toNat).st (m.cells (m.ths i).e.toNat).v).goes i (if (m.cells (m.ths i).e.toNat).st = 2 then 4 else 3) := by simp [M.store, hat]
  rw [hst]
  by_cases hx : (m.cells (m.ths i).e.toNat).st = 2
  · rw [if_pos hx]
    simp only [GDoes, M.goes, sees_thr]
    refine Calls.mono (p_s2_out _ t _ _ _ w hb hE (ptrE_some he0) hx) ?_
    rintro e w' ⟨rfl, h1, k1⟩
    exact gsome (o := ⟨false, false, 0, _⟩) (h.goT hI ht k1 _ cp (by simp) h1 (by simp [tcOf, thNext, fnOf, hk])) rfl k1 (sub1 ht en m)
  · rw [if_neg hx]
    simp only [GDoes, M.goes, sees_thr]
    refine Calls.mono (p_s2_on _ t _ _ _ w hb hE (ptrE_some he0) hx) ?_
    rintro e w' ⟨rfl, h1, k1⟩
    exact gsome (o := ⟨false, false, 0, _⟩) (h.goT hI ht k1 _ cp (by simp) h1 (by simp [tcOf, thNext, fnOf, hk])) rfl k1 (sub1 ht en m)
theorem q_s3 {p : PM} {en : Nat → Nat} {l : Int} {m : M} {w : World} (h : GAt p en l m w) (hI : m.Inv) {i t : Nat} (ht : p.ts[i]? = some t) (ho : ThOk m (m.ths i)) (hk : (m.ths i).kind = 1) (hat : (m.ths i).at_ = 3) : GDoes 69 p en l m t (m.store i) w := by
  obtain ⟨cp, hcp, hb⟩ := h.ts i t ht
  have hop := ho.op
  have _ := hk
  unfold OpOk at hop
  rw [tcOf_busy (by omega)] at hb
  have hk0 : 0 ≤ (m.ths i).key := hop.2.2.1
  have hk7 : (m.ths i).key < 8 := by omega
  have he0 : 0 ≤ (m.ths i).e := ho.ne (by simp [NeedsE, hk, hat])
  have hel : (m.ths i).e.toNat < m.nc := by have := ho.e; omega
  have hE := h.es _ hel
  have hcel := hI.cel _ hel
  have hst : m.store i = if (m.cells (m.ths i).e.toNat).st = (m.ths i).sst ∧ (m.cells (m.ths i).e.toNat).v = (m.ths i).sv then { m with cells := put m.cells (m.ths i).e.toNat ⟨0, (m.ths i).val⟩ }.ends i true (m.ths i).val else m.goes i 2 := by simp [M.store, hat]
  rw [hst]
  by_cases hx : (m.cells (m.ths i).e.toNat).st = (m.ths i).sst ∧ (m.cells (m.ths i).e.toNat).v = (m.ths i).sv
  · rw [if_pos hx]
    simp only [GDoes, M.ends]
    refine Calls.mono (p_s3_yes _ t _ _ _ w hb hE (ptrE_some he0) hx.1 hx.2) ?_
    rintro e w' ⟨rfl, h1, e1, k1⟩
    exact gsome (o := ⟨true, true, (m.ths i).val, _⟩) (h.goTE hI ht hel k1 0 (m.ths i).val _ 0 (by simp) h1 (by simp [tcOf, Tc.idle]) e1) rfl k1 (sub3 ht en hel)
  · rw [if_neg hx]
    simp only [GDoes, M.goes]
    refine Calls.mono (p_s3_no _ t _ _ _ w hb hE (ptrE_some he0) hx) ?_
    rintro e w' ⟨rfl, h1, k1⟩
    exact gsome (o := ⟨false, false, 0, _⟩) (h.goT hI ht k1 _ cp (by simp) h1 (by simp [tcOf, thNext, fnOf, hk])) rfl k1 (sub1 ht en m)
theorem q_s6 {p : PM} {en : Nat → Nat} {l : Int} {m : M} {w : World} (h : GAt p en l m w) (hI : m.Inv) {i t : Nat} (ht : p.ts[i]? = some t) (ho : ThOk m (m.ths i)) (hk : (m.ths i).kind = 1) (hat : (m.ths i).at_ = 6) : GDoes 77 p en l m t (m.store i) w := by
  obtain ⟨cp, hcp, hb⟩ := h.ts i t ht
  have hop := ho.op
  have _ := hk
  unfold OpOk at hop
  rw [tcOf_busy (by omega)] at hb
  have hk0 : 0 ≤ (m.ths i).key := hop.2.2.1
  have hk7 : (m.ths i).key < 8 := by omega
  have he0 : 0 ≤ (m.ths i).e := ho.ne (by simp [NeedsE, hk, hat])
  have hel : (m.ths i).e.toNat < m.nc := by have := ho.e; omega
  have hE := h.es _ hel
  have hcel := hI.cel _ hel
  have hst : m.store i = if (m.cells (m.ths i).e.toNat).st = 2 then { m with cells := put m.cells (m.ths i).e.toNat ⟨1, 0⟩ }.goes i 7 else m.goes i 13 := by simp [M.store, hat]
  rw [hst]
  by_cases hx : (m.cells (m.ths i).e.toNat).st = 2
  · rw [if_pos hx]
    have hy : (m.cells (m.ths i).e.toNat).v = 0 := by unfold CelOk at hcel; omega
    simp only [GDoes, M.goes]
    refine Calls.mono (p_s6_on _ t _ _ _ w hb hE (ptrE_some he0) hx hy) ?_
    rintro e w' ⟨rfl, h1, e1, k1⟩
    exact gsome (o := ⟨false, false, 0, _⟩) (h.goTE hI ht hel k1 1 0 _ cp (by simp) h1 (by simp [tcOf, thNext, fnOf, hk]) e1) rfl k1 (sub3 ht en hel)
  · rw [if_neg hx]
    simp only [GDoes, M.goes]
    refine Calls.mono (p_s6_out _ t _ _ _ w hb hE (ptrE_some he0) hx) ?_
    rintro e w' ⟨rfl, h1, k1⟩
    exact gsome (o := ⟨false, false, 0, _⟩) (h.goT hI ht k1 _ cp (by simp) h1 (by simp [tcOf, thNext, fnOf, hk])) rfl k1 (sub1 ht en m)
theorem q_s13 {p : PM} {en : Nat → Nat} {l : Int} {m : M} {w : World} (h : GAt p en l m w) (hI : m.Inv) {i t : Nat} (ht : p.ts[i]? = some t) (ho : ThOk m (m.ths i)) (hk : (m.ths i).kind = 1) (hat : (m.ths i).at_ = 13) : GDoes 85 p en l m t (m.store i) w := by
  obtain ⟨cp, hcp, hb⟩ := h.ts i t ht
  have hop := ho.op
  have _ := hk
  unfold OpOk at hop
  rw [tcOf_busy (by omega)] at hb
  have hk0 : 0 ≤ (m.ths i).key := hop.2.2.1
  have hk7 : (m.ths i).key < 8 := by omega
  have he0 : 0 ≤ (m.ths i).e := ho.ne (by simp [NeedsE, hk, hat])
  have hel : (m.ths i).e.toNat < m.nc := by have := ho.e; omega
  have hE := h.es _ hel
  have hcel := hI.cel _ hel
  have hst : m.store i = { m with cells := put m.cells (m.ths i).e.toNat ⟨0, (m.ths i).val⟩ }.goes i 14 := by simp [M.store, hat]
  rw [hst]
  simp only [GDoes, M.goes]
  refine Calls.mono (p_s13 _ t _ _ _ w hb hE (ptrE_some he0)) ?_
  rintro e w' ⟨rfl, h1, e1, k1⟩
  exact gsome (o := ⟨false, false, 0, _⟩) (h.goTE hI ht hel k1 0 (m.ths i).val _ cp (by simp) h1 (by simp [tcOf, thNext, fnOf, hk]) e1) rfl k1 (sub3 ht en hel)
theorem q_s14 {p : PM} {en : Nat → Nat} {l : Int} {m : M} {w : World} (h : GAt p en l m w) (hI : m.Inv) {i t : Nat} (ht : p.ts[i]? = some t) (ho : ThOk m (m.ths i)) (hk : (m.ths i).kind = 1) (hat : (m.ths i).at_ = 14) : GDoes 92 p en l m t (m.store i) w := by
  obtain ⟨cp, hcp, hb⟩ := h.ts i t ht
  have hop := ho.op
  have _ := hk
  unfold OpOk at hop
  rw [tcOf_busy (by omega)] at hb
  have hk0 : 0 ≤ (m.ths i).key := hop.2.2.1
  have hk7 : (m.ths i).key < 8 := by omega
  have hst : m.store i = { m with hol := -1 }.ends i true (m.ths i).val := by simp [M.store, hat]
  rw [hst]
  simp only [GDoes, M.ends]
  refine Calls.mono (p_s14 _ (shOf en m) t w hb h.s) ?_
  rintro e w' ⟨rfl, h1, s1, k1⟩
  exact gsome (o := ⟨true, true, (m.ths i).val, _⟩) (h.goTS hI ht k1 { m with hol := -1 } rfl rfl rfl rfl rfl _ 0 (by simp) h1 (by simp [tcOf, Tc.idle]) s1 rfl) rfl k1 (sub2 ht en m)
theorem q_s11 {p : PM} {en : Nat → Nat} {l : Int} {m : M} {w : World} (h : GAt p en l m w) (hI : m.Inv) {i t : Nat} (ht : p.ts[i]? = some t) (ho : ThOk m (m.ths i)) (hk : (m.ths i).kind = 1) (hat : (m.ths i).at_ = 11) : GDoes 100 p en l m t (m.store i) w := by
  obtain ⟨cp, hcp, hb⟩ := h.ts i t ht
  have hop := ho.op
  have _ := hk
  unfold OpOk at hop
  rw [tcOf_busy (by omega)] at hb
  have hk0 : 0 ≤ (m.ths i).key := hop.2.2.1
  have hk7 : (m.ths i).key < 8 := by omega
  have hst : m.store i = { m with am := true }.goes i 12 := by simp [M.store, hat]
  rw [hst]
  simp only [GDoes, M.goes]
  refine Calls.mono (p_s11 _ (shOf en m) t w hb h.s) ?_
  rintro e w' ⟨rfl, h1, s1, k1⟩
  exact gsome (o := ⟨false, false, 0, _⟩) (h.goTS hI ht k1 { m with am := true } rfl rfl rfl rfl rfl _ cp (by simp) h1 (by simp [tcOf, thNext, fnOf, hk]) s1 (rfl)) rfl k1 (sub2 ht en m)
theorem shOf_put (en : Nat → Nat) (m : M) (k : Nat) (x : Int) : shOf en { m with dirty := put m.dirty k x } = { shOf en m with D := fun j => if j = k then ptrE en x else (shOf en m).D j } := by
  simp only [shOf, Sh.mk.injEq, true_and, and_true]
  funext j
  simp only [put]
  split <;> rfl
theorem q_s7 {p : PM} {en : Nat → Nat} {l : Int} {m : M} {w : World} (h : GAt p en l m w) (hI : m.Inv) {i t : Nat} (ht : p.ts[i]? = some t) (ho : ThOk m (m.ths i)) (hk : (m.ths i).kind = 1) (hat : (m.ths i).at_ = 7) : GDoes 88 p en l m t (m.store i) w := by
  obtain ⟨cp, hcp, hb⟩ := h.ts i t ht
  have hop := ho.op
  have _ := hk
  unfold OpOk at hop
  rw [tcOf_busy (by omega)] at hb
  have hk0 : 0 ≤ (m.ths i).key := hop.2.2.1
  have hk7 : (m.ths i).key < 8 := by omega
  have hst : m.store i = { m with dirty := put m.dirty (m.key i) (m.ths i).e }.goes i 13 := by simp [M.store, hat]
  rw [hst]
  simp only [GDoes, M.goes]
  refine Calls.mono (p_s7 _ (shOf en m) t w hb h.s hk0 hk7) ?_
  rintro e w' ⟨rfl, h1, s1, k1⟩
  exact gsome (o := ⟨false, false, 0, _⟩) (h.goTS hI ht k1 { m with dirty := put m.dirty (m.key i) (m.ths i).e } rfl rfl rfl rfl rfl _ cp (by simp) h1 (by simp [tcOf, thNext, fnOf, hk]) s1 (shOf_put en m _ _)) rfl k1 (sub2 ht en m)
theorem q_s8 {p : PM} {en : Nat → Nat} {l : Int} {m : M} {w : World} (h : GAt p en l m w) (hI : m.Inv) {i t : Nat} (ht : p.ts[i]? = some t) (ho : ThOk m (m.ths i)) (hk : (m.ths i).kind = 1) (hat : (m.ths i).at_ = 8) : GDoes 76 p en l m t (m.store i) w := by
  obtain ⟨cp, hcp, hb⟩ := h.ts i t ht
  have hop := ho.op
  have _ := hk
  unfold OpOk at hop
  rw [tcOf_busy (by omega)] at hb
  have hk0 : 0 ≤ (m.ths i).key := hop.2.2.1
  have hk7 : (m.ths i).key < 8 := by omega
  have hst : m.store i = (m.sets i (m.dirty (m.key i))).goes i (if m.dirty (m.key i) < 0 then (if m.am then 12 else 9) else 13) := by simp [M.store, hat]
  rw [hst]
  by_cases hr : m.dirty (m.key i) < 0
  · rw [if_pos hr]
    by_cases ha : m.am = true
    · rw [if_pos ha]
      simp only [GDoes, M.goes, sets_thr]
      refine Calls.mono (p_s8_am _ (shOf en m) t w hb h.s hk0 hk7 (ptrE_none hr) ha) ?_
      rintro e w' ⟨rfl, h1, k1⟩
      exact gsome (o := ⟨false, false, 0, _⟩) (h.goT hI ht k1 _ cp (by simp) h1 (by simp [tcOf, thNext, fnOf, hk, ptrE_none hr])) rfl k1 (sub1 ht en m)
    · rw [if_neg ha]
      simp only [GDoes, M.goes, sets_thr]
      refine Calls.mono (p_s8_no _ (shOf en m) t w hb h.s hk0 hk7 (ptrE_none hr) (by show m.am = false; simpa using ha)) ?_
      rintro e w' ⟨rfl, h1, k1⟩
      exact gsome (o := ⟨false, false, 0, _⟩) (h.goT hI ht k1 _ cp (by simp) h1 (by simp [tcOf, thNext, fnOf, hk, ptrE_none hr])) rfl k1 (sub1 ht en m)
  · rw [if_neg hr]
    simp only [GDoes, M.goes, sets_thr]
    refine Calls.mono (p_s8_in _ (shOf en m) t ⟨en (m.dirty (m.key i)).toNat, 0, none⟩ w hb h.s hk0 hk7 (ptrE_some (Int.not_lt.1 hr))) ?_
    rintro e w' ⟨rfl, h1, k1⟩
    exact gsome (o := ⟨false, false, 0, _⟩) (h.goT hI ht k1 _ cp (by simp) h1 (by simp [tcOf, thNext, fnOf, hk, ptrE_some (Int.not_lt.1 hr)])) rfl k1 (sub1 ht en m)
end Go.Proofs.Ytmnkphenobfbfaa
namespace Go.Proofs.Ytmnkphenobfbfaa
open Go.RowKit
theorem ptrE_isSome (en : Nat → Nat) (x : Int) : (ptrE en x).isSome = decide (0 ≤ x) := by
  by_cases h : x < 0
  · rw [ptrE_none h]
    simp only [Option.isSome_none]
    exact (decide_eq_false (by omega)).symm
  · rw [ptrE_some (Int.not_lt.1 h)]
    simp only [Option.isSome_some]
    exact (decide_eq_true (by omega)).symm
theorem sh_congr {a b : Sh} (h1 : ∀ k, k < 8 → a.R k = b.R k) (h2 : a.am = b.am) (h3 : ∀ k, k < 8 → a.D k = b.D k) (h4 : a.hd = b.hd) (h5 : a.mis = b.mis) (h6 : a.hol = b.hol) : a.cells = b.cells := by
  simp only [Sh.cells, h1 0 (by omega), h1 1 (by omega), h1 2 (by omega), h1 3 (by omega), h1 4 (by omega), h1 5 (by omega), h1 6 (by omega), h1 7 (by omega), h2, h3 0 (by omega), h3 1 (by omega), h3 2 (by omega), h3 3 (by omega), h3 4 (by omega), h3 5 (by omega), h3 6 (by omega), h3 7 (by omega), h4, h5, h6]
theorem nextP_eq (en : Nat → Nat) (f : Nat → Int) (n k : Nat) : nextP (fun k => ptrE en (f k)) n k = nextKey f n k := by
  induction n generalizing k with
  | zero => rfl
  | succ n ih => simp only [nextP, nextKey, ptrE_isSome, decide_eq_true_eq, ih]
theorem cntP_eq (en : Nat → Nat) (f : Nat → Int) (n : Nat) : cntP (fun k => ptrE en (f k)) n = cnt f n := by
  induction n with
  | zero => rfl
  | succ n ih => simp only [cntP, cnt, ptrE_isSome, decide_eq_true_eq, ih]
theorem q_s9 {p : PM} {en : Nat → Nat} {l : Int} {m : M} {w : World} (h : GAt p en l m w) (hI : m.Inv) {i t : Nat} (ht : p.ts[i]? = some t) (ho : ThOk m (m.ths i)) (hk : (m.ths i).kind = 1) (hat : (m.ths i).at_ = 9) : GDoes 87 p en l m t (m.store i) w := by
  obtain ⟨cp, hcp, hb⟩ := h.ts i t ht
  have hop := ho.op
  have _ := hk
  unfold OpOk at hop
  rw [tcOf_busy (by omega)] at hb
  have hk0 : 0 ≤ (m.ths i).key := hop.2.2.1
  have hk7 : (m.ths i).key < 8 := by omega
  have hst : m.store i = { m with hd := true, dirty := fun _ => -1 }.scan i 0 := by simp [M.store, hat]
  rw [hst]
  have hsh : shOf en { m with hd := true, dirty := fun _ => -1 } = { shOf en m with D := fun _ => none, hd := true } := by simp [shOf, ptrE]
  have run := p_s9 _ (shOf en m) t w hb h.s
  unfold M.scan
  by_cases hx : nextKey m.read (8 - 0) 0 < 8
  · rw [if_pos hx]
    simp only [GDoes, M.goes, scan_thr]
    refine Calls.mono run ?_
    rintro e w' ⟨rfl, h1, s1, k1⟩
    exact gsome (o := ⟨false, false, 0, _⟩) (h.goTS hI ht k1 { m with hd := true, dirty := fun _ => -1 } rfl rfl rfl rfl rfl _ (nextKey m.read (8 - 0) 0) (fun _ => rfl) h1 (by simp [tcOf, thNext, fnOf, hk, Tc.scan, shOf, nextP_eq, hx]) s1 hsh) rfl k1 (sub2 ht en m)
  · rw [if_neg hx]
    simp only [GDoes, M.goes, scan_thr]
    refine Calls.mono run ?_
    rintro e w' ⟨rfl, h1, s1, k1⟩
    exact gsome (o := ⟨false, false, 0, _⟩) (h.goTS hI ht k1 { m with hd := true, dirty := fun _ => -1 } rfl rfl rfl rfl rfl _ cp (by simp) h1 (by simp [tcOf, thNext, fnOf, hk, Tc.scan, shOf, nextP_eq, hx]) s1 hsh) rfl k1 (sub2 ht en m)
theorem q_s10 {p : PM} {en : Nat → Nat} {l : Int} {m : M} {w : World} (h : GAt p en l m w) (hI : m.Inv) {i t : Nat} (ht : p.ts[i]? = some t) (ho : ThOk m (m.ths i)) (hk : (m.ths i).kind = 1) (hat : (m.ths i).at_ = 10) : GDoes 101 p en l m t (m.store i) w := by
  obtain ⟨cp, hcp, hb⟩ := h.ts i t ht
  have hop := ho.op
  have _ := hk
  unfold OpOk at hop
  rw [tcOf_busy (by omega)] at hb
  have hk0 : 0 ≤ (m.ths i).key := hop.2.2.1
  have hk7 : (m.ths i).key < 8 := by omega
  have hst : m.store i = (m.copied i).scan i (m.nxt i + 1) := by simp [M.store, hat]
  rw [hst]
  have hcpn := hcp hat
  subst hcpn
  have hnx := ho.nx hk hat
  have hn0 : 0 ≤ (m.ths i).next := hnx.1
  have hn7 : (m.ths i).next < 8 := hnx.2.1
  have hr0 : 0 ≤ m.read (m.nxt i) := hnx.2.2
  have hl : m.nxt i < 8 := by unfold M.nxt; omega
  have hel : (m.read (m.nxt i)).toNat < m.nc := by have := hI.rd _ hl; omega
  have hE := h.es _ hel
  have hcel := hI.cel _ hel
  have hR : (shOf en m).R (m.ths i).next.toNat = some ⟨en (m.read (m.nxt i)).toNat, 0, none⟩ := ptrE_some hr0
  have hsh : shOf en { m with dirty := put m.dirty (m.nxt i) (m.read (m.nxt i)) } = { shOf en m with D := fun j => if j = (m.ths i).next.toNat then some ⟨en (m.read (m.nxt i)).toNat, 0, none⟩ else (shOf en m).D j } := by
    rw [shOf_put, ptrE_some hr0]
    rfl
  have hnp : nextP (shOf en m).R (8 - ((m.ths i).next.toNat + 1)) ((m.ths i).next.toNat + 1) = nextKey m.read (8 - (m.nxt i + 1)) (m.nxt i + 1) := nextP_eq en m.read _ _
  by_cases h0 : (m.cells (m.read (m.nxt i)).toNat).st = 0
  · have run := p_s10_value _ (shOf en m) t _ _ _ w hb h.s hE hn0 hn7 hR h0
    have hc : m.copied i = { m with dirty := put m.dirty (m.nxt i) (m.read (m.nxt i)) } := by unfold M.copied; rw [if_pos h0]
    rw [hc]
    unfold M.scan
    by_cases hx : nextKey m.read (8 - (m.nxt i + 1)) (m.nxt i + 1) < 8
    · rw [if_pos hx]
      simp only [GDoes, M.goes, scan_thr]
      refine Calls.mono run ?_
      rintro e w' ⟨rfl, h1, s1, k1⟩
      refine gsome (o := ⟨false, false, 0, _⟩) (h.goTS hI ht k1 { m with dirty := put m.dirty (m.nxt i) (m.read (m.nxt i)) } rfl rfl rfl rfl rfl _ (nextKey m.read (8 - (m.nxt i + 1)) (m.nxt i + 1)) (fun _ => rfl) h1 ?_ s1 hsh) rfl k1 (sub2 ht en m)
      show _ = Tc.scan _ t (shOf en m).R ((m.ths i).next.toNat + 1)
      unfold Tc.scan
      rw [hnp, if_pos hx]
      simp [tcOf, thNext, fnOf, hk]
    · rw [if_neg hx]
      simp only [GDoes, M.goes, scan_thr]
      refine Calls.mono run ?_
      rintro e w' ⟨rfl, h1, s1, k1⟩
      refine gsome (o := ⟨false, false, 0, _⟩) (h.goTS hI ht k1 { m with dirty := put m.dirty (m.nxt i) (m.read (m.nxt i)) } rfl rfl rfl rfl rfl _ (m.ths i).next (by simp) h1 ?_ s1 hsh) rfl k1 (sub2 ht en m)
      show _ = Tc.scan _ t (shOf en m).R ((m.ths i).next.toNat + 1)
      unfold Tc.scan
      rw [hnp, if_neg hx]
      simp [tcOf, thNext, fnOf, hk]
  · by_cases h1' : (m.cells (m.read (m.nxt i)).toNat).st = 1
    · have run := p_s10_empty _ (shOf en m) t _ _ _ w hb h.s hE hn0 hn7 hR h1'
      have hc : m.copied i = { m with cells := put m.cells (m.read (m.nxt i)).toNat ⟨2, 0⟩ } := by unfold M.copied; rw [if_neg h0, if_pos h1']
      rw [hc]
      unfold M.scan
      by_cases hx : nextKey m.read (8 - (m.nxt i + 1)) (m.nxt i + 1) < 8
      · rw [if_pos hx]
        simp only [GDoes, M.goes, scan_thr]
        refine Calls.mono run ?_
        rintro e w' ⟨rfl, h1, e1, k1⟩
        refine gsome (o := ⟨false, false, 0, _⟩) (h.goTE hI ht hel k1 2 0 _ (nextKey m.read (8 - (m.nxt i + 1)) (m.nxt i + 1)) (fun _ => rfl) h1 ?_ e1) rfl k1 (sub3 ht en hel)
        show _ = Tc.scan _ t (shOf en m).R ((m.ths i).next.toNat + 1)
        unfold Tc.scan
        rw [hnp, if_pos hx]
        simp [tcOf, thNext, fnOf, hk]
      · rw [if_neg hx]
        simp only [GDoes, M.goes, scan_thr]
        refine Calls.mono run ?_
        rintro e w' ⟨rfl, h1, e1, k1⟩
        refine gsome (o := ⟨false, false, 0, _⟩) (h.goTE hI ht hel k1 2 0 _ (m.ths i).next (by simp) h1 ?_ e1) rfl k1 (sub3 ht en hel)
        show _ = Tc.scan _ t (shOf en m).R ((m.ths i).next.toNat + 1)
        unfold Tc.scan
        rw [hnp, if_neg hx]
        simp [tcOf, thNext, fnOf, hk]
    · have run := p_s10_gone _ (shOf en m) t _ _ _ w hb h.s hE hn0 hn7 hR h0 h1'
      have hc : m.copied i = m := by unfold M.copied; rw [if_neg h0, if_neg h1']
      rw [hc]
      unfold M.scan
      by_cases hx : nextKey m.read (8 - (m.nxt i + 1)) (m.nxt i + 1) < 8
      · rw [if_pos hx]
        simp only [GDoes, M.goes, scan_thr]
        refine Calls.mono run ?_
        rintro e w' ⟨rfl, h1, k1⟩
        refine gsome (o := ⟨false, false, 0, _⟩) (h.goT hI ht k1 _ (nextKey m.read (8 - (m.nxt i + 1)) (m.nxt i + 1)) (fun _ => rfl) h1 ?_) rfl k1 (sub1 ht en m)
        show _ = Tc.scan _ t (shOf en m).R ((m.ths i).next.toNat + 1)
        unfold Tc.scan
        rw [hnp, if_pos hx]
        simp [tcOf, thNext, fnOf, hk]
      · rw [if_neg hx]
        simp only [GDoes, M.goes, scan_thr]
        refine Calls.mono run ?_
        rintro e w' ⟨rfl, h1, k1⟩
        refine gsome (o := ⟨false, false, 0, _⟩) (h.goT hI ht k1 _ (m.ths i).next (by simp) h1 ?_) rfl k1 (sub1 ht en m)
        show _ = Tc.scan _ t (shOf en m).R ((m.ths i).next.toNat + 1)
        unfold Tc.scan
        rw [hnp, if_neg hx]
        simp [tcOf, thNext, fnOf, hk]
theorem q_s12 {p : PM} {en : Nat → Nat} {l : Int} {m : M} {w : World} (h : GAt p en l m w) (hI : m.Inv) {i t : Nat} (ht : p.ts[i]? = some t) (ho : ThOk m (m.ths i)) (hk : (m.ths i).kind = 1) (hat : (m.ths i).at_ = 12) : GDoes 86 p en l m t (m.store i) w := by
  obtain ⟨cp, hcp, hb⟩ := h.ts i t ht
  have hop := ho.op
  have _ := hk
  unfold OpOk at hop
  rw [tcOf_busy (by omega)] at hb
  have hk0 : 0 ≤ (m.ths i).key := hop.2.2.1
  have hk7 : (m.ths i).key < 8 := by omega
  have hst : m.store i = { m.adds 0 (m.ths i).val with dirty := put m.dirty (m.key i) m.nc }.goes i 14 := by simp [M.store, hat]
  rw [hst]
  simp only [GDoes, M.goes]
  refine Calls.mono (p_s12 _ (shOf en m) t w hb h.s hk0 hk7) ?_
  rintro e w' ⟨g, rfl, h1, s1, e1, hg, k1⟩
  have hold : ∀ j, j < m.nc → put en m.nc g j = en j := fun j hj => put_other _ _ (by omega)
  have hpt : ∀ x : Int, x < m.nc → ptrE (put en m.nc g) x = ptrE en x := by
    intro x hx
    by_cases hx0 : x < 0
    · rw [ptrE_none hx0, ptrE_none hx0]
    · rw [ptrE_some (Int.not_lt.1 hx0), ptrE_some (Int.not_lt.1 hx0), hold _ (by omega)]
  obtain ⟨cp0, _, hb0⟩ := h.ts i t ht
  refine ⟨rfl, put en m.nc g, ?_, hold, ?_, k1.mono (sub2 ht en m)⟩
  · refine h.go ht k1 (fun x hx => by simp only [List.mem_cons, List.not_mem_nil, or_false] at hx; exact hx.imp id .inl) rfl rfl hold ?_ ?_ (fun j hj => put_other _ _ hj) (hI.es i) ⟨cp, ?_, ?_⟩ ?_ ?_
    · intro j h1 h2
      have h2' : j < m.nc + 1 := h2
      obtain rfl : j = m.nc := by omega
      rw [put_same]; exact hg
    · intro j j' a b c d _
      have b' : j < m.nc + 1 := b
      have d' : j' < m.nc + 1 := d
      omega
    · rw [thr_ths]; simp
    · rw [thr_ths]
      have : tcOf (put en m.nc g) i p.s t ⟨(m.ths i).kind, (m.ths i).key, (m.ths i).val, (m.ths i).old, 14, (m.ths i).e, (m.ths i).sst, (m.ths i).sv, (m.ths i).next⟩ cp = ⟨i, p.s, (m.ths i).kind, (m.ths i).key, (m.ths i).val, (m.ths i).old, ptrE en (m.ths i).e, (m.ths i).sst, (m.ths i).sv, cp, .func (.func 92) #[.pointer (some ⟨t, 0, none⟩)] #[]⟩ := by
        simp [tcOf, thNext, fnOf, hk, hpt _ ho.e.2]
      exact h1.trans (congrArg (fun q => some (Obj.cells (Tc.cells q) 103 (0, 0))) this.symm)
    · refine s1.trans (congrArg (fun q => some (Obj.cells q 97 (0, 0))) (sh_congr ?_ rfl ?_ rfl rfl rfl))
      · intro k hk8
        exact (hpt _ (hI.rd k hk8).2).symm
      · intro k hk8
        show (if k = (m.ths i).key.toNat then some ⟨g, 0, none⟩ else ptrE en (m.dirty k)) = ptrE (put en m.nc g) (put m.dirty (m.key i) (m.nc : Int) k)
        by_cases q : k = m.key i
        · subst q
          rw [put_same, show ptrE (put en m.nc g) (m.nc : Int) = some ⟨g, 0, none⟩ by rw [ptrE_some (by omega), Int.toNat_natCast, put_same]]
          exact if_pos rfl
        · rw [put_other _ _ q, hpt _ (hI.dt k hk8).2]
          exact if_neg q
    · intro j hj
      have hj' : j < m.nc + 1 := hj
      show w'.heap[put en m.nc g j]? = some (.cells #[.int .i64 (put m.cells m.nc ⟨0, (m.ths i).val⟩ j).st, .int .i64 (put m.cells m.nc ⟨0, (m.ths i).val⟩ j).v] 124 (0, 0))
      by_cases q : j = m.nc
      · subst q
        rw [put_same, put_same]; exact e1
      · rw [put_other _ _ q, put_other _ _ q]
        have hjn : j < m.nc := by omega
        refine k1.at (h.es j hjn) ?_
        simp only [List.mem_cons, List.not_mem_nil, or_false, not_or]
        exact ⟨ne_of_blocks (h.es j hjn) hb0 (by simp), ne_of_blocks (h.es j hjn) h.s (by simp)⟩
  · intro j h1 h2
    have h2' : j < m.nc + 1 := h2
    obtain rfl : j = m.nc := by omega
    rw [put_same]; exact hg
theorem q_s4 {p : PM} {en : Nat → Nat} {l : Int} {m : M} {w : World} (h : GAt p en l m w) (hI : m.Inv) {i t : Nat} (ht : p.ts[i]? = some t) (ho : ThOk m (m.ths i)) (hk : (m.ths i).kind = 1) (hat : (m.ths i).at_ = 4) (hf : m.hol < 0) : GDoes 62 p en l m t ({ m with hol := i }.goes i 5) w := by
  obtain ⟨cp, hcp, hb⟩ := h.ts i t ht
  have hop := ho.op
  have _ := hk
  unfold OpOk at hop
  rw [tcOf_busy (by omega)] at hb
  have hk0 : 0 ≤ (m.ths i).key := hop.2.2.1
  have hk7 : (m.ths i).key < 8 := by omega
  have hh : m.hol = -1 := by have := hI.hol; omega
  simp only [GDoes, M.goes]
  refine Calls.mono (p_s4_yes _ (shOf en m) t w hb h.s hh) ?_
  rintro e w' ⟨rfl, h1, s1, k1⟩
  exact gsome (o := ⟨false, false, 0, _⟩) (h.goTS hI ht k1 { m with hol := i } rfl rfl rfl rfl rfl _ cp (by simp) h1 (by simp [tcOf, thNext, fnOf, hk]) s1 (rfl)) rfl k1 (sub2 ht en m)
theorem q_s4_no {p : PM} {en : Nat → Nat} {l : Int} {m : M} {w : World} (h : GAt p en l m w) {i t : Nat} (ht : p.ts[i]? = some t) (ho : ThOk m (m.ths i)) (hk : (m.ths i).kind = 1) (hat : (m.ths i).at_ = 4) (hf : 0 ≤ m.hol) : Calls Try.prog 62 #[.pointer (some ⟨t, 0, none⟩)] w fun e w' => e = .returned (ans false false 0 4) ∧ Kept [] w w' := by
  obtain ⟨cp, hcp, hb⟩ := h.ts i t ht
  have hop := ho.op
  have _ := hk
  unfold OpOk at hop
  rw [tcOf_busy (by omega)] at hb
  have hk0 : 0 ≤ (m.ths i).key := hop.2.2.1
  have hk7 : (m.ths i).key < 8 := by omega
  exact p_s4_no _ (shOf en m) t w hb h.s (by show ¬ m.hol = -1; omega)
theorem q_l2 {p : PM} {en : Nat → Nat} {l : Int} {m : M} {w : World} (h : GAt p en l m w) (hI : m.Inv) {i t : Nat} (ht : p.ts[i]? = some t) (ho : ThOk m (m.ths i)) (hk : (m.ths i).kind = 0) (hat : (m.ths i).at_ = 2) (hf : m.hol < 0) : GDoes 66 p en l m t ({ m with hol := i }.goes i 3) w := by
  obtain ⟨cp, hcp, hb⟩ := h.ts i t ht
  have hop := ho.op
  have _ := hk
  unfold OpOk at hop
  rw [tcOf_busy (by omega)] at hb
  have hk0 : 0 ≤ (m.ths i).key := hop.2.2.1
  have hk7 : (m.ths i).key < 8 := by omega
  have hh : m.hol = -1 := by have := hI.hol; omega
  simp only [GDoes, M.goes]
  refine Calls.mono (p_l2_yes _ (shOf en m) t w hb h.s hh) ?_
  rintro e w' ⟨rfl, h1, s1, k1⟩
  exact gsome (o := ⟨false, false, 0, _⟩) (h.goTS hI ht k1 { m with hol := i } rfl rfl rfl rfl rfl _ cp (by simp) h1 (by simp [tcOf, thNext, fnOf, hk]) s1 (rfl)) rfl k1 (sub2 ht en m)
theorem q_l2_no {p : PM} {en : Nat → Nat} {l : Int} {m : M} {w : World} (h : GAt p en l m w) {i t : Nat} (ht : p.ts[i]? = some t) (ho : ThOk m (m.ths i)) (hk : (m.ths i).kind = 0) (hat : (m.ths i).at_ = 2) (hf : 0 ≤ m.hol) : Calls Try.prog 66 #[.pointer (some ⟨t, 0, none⟩)] w fun e w' => e = .returned (ans false false 0 4) ∧ Kept [] w w' := by
  obtain ⟨cp, hcp, hb⟩ := h.ts i t ht
  have hop := ho.op
  have _ := hk
  unfold OpOk at hop
  rw [tcOf_busy (by omega)] at hb
  have hk0 : 0 ≤ (m.ths i).key := hop.2.2.1
  have hk7 : (m.ths i).key < 8 := by omega
  exact p_l2_no _ (shOf en m) t w hb h.s (by show ¬ m.hol = -1; omega)
theorem q_l1 {p : PM} {en : Nat → Nat} {l : Int} {m : M} {w : World} (h : GAt p en l m w) (hI : m.Inv) {i t : Nat} (ht : p.ts[i]? = some t) (ho : ThOk m (m.ths i)) (hk : (m.ths i).kind = 0) (hat : (m.ths i).at_ = 1) : GDoes 51 p en l m t (m.load i) w := by
  obtain ⟨cp, hcp, hb⟩ := h.ts i t ht
  have hop := ho.op
  have _ := hk
  unfold OpOk at hop
  rw [tcOf_busy (by omega)] at hb
  have hk0 : 0 ≤ (m.ths i).key := hop.2.2.1
  have hk7 : (m.ths i).key < 8 := by omega
  have hst : m.load i = m.first i 7 := by simp [M.load, hat]
  rw [hst]
  unfold M.first
  by_cases hr : 0 ≤ m.read (m.key i)
  · rw [if_pos hr]
    simp only [GDoes, M.goes, sets_thr]
    refine Calls.mono (p_l1_in _ (shOf en m) t ⟨en (m.read (m.key i)).toNat, 0, none⟩ w hb h.s hk0 hk7 (ptrE_some hr)) ?_
    rintro e w' ⟨rfl, h1, k1⟩
    exact gsome (o := ⟨false, false, 0, _⟩) (h.goT hI ht k1 _ cp (by simp) h1 (by simp [tcOf, thNext, fnOf, firstAt, hk, ptrE_some hr])) rfl k1 (sub1 ht en m)
  · rw [if_neg hr]
    have hr' := Int.not_le.1 hr
    by_cases ha : m.am = true
    · rw [if_pos ha]
      simp only [GDoes, M.goes, sets_thr]
      refine Calls.mono (p_l1_on _ (shOf en m) t w hb h.s hk0 hk7 (ptrE_none hr') ha) ?_
      rintro e w' ⟨rfl, h1, k1⟩
      exact gsome (o := ⟨false, false, 0, _⟩) (h.goT hI ht k1 _ cp (by simp) h1 (by simp [tcOf, thNext, fnOf, hk, ptrE_none hr'])) rfl k1 (sub1 ht en m)
    · rw [if_neg ha]
      simp only [GDoes, M.ends, sets_thr]
      refine Calls.mono (p_l1_end _ (shOf en m) t w hb h.s hk0 hk7 (ptrE_none hr') (by show m.am = false; simpa using ha)) ?_
      rintro e w' ⟨rfl, h1, k1⟩
      exact gsome (o := ⟨true, false, 0, _⟩) (h.goT hI ht k1 _ 0 (by simp) h1 (by simp [tcOf, Tc.idle])) rfl k1 (sub1 ht en m)
theorem q_l3 {p : PM} {en : Nat → Nat} {l : Int} {m : M} {w : World} (h : GAt p en l m w) (hI : m.Inv) {i t : Nat} (ht : p.ts[i]? = some t) (ho : ThOk m (m.ths i)) (hk : (m.ths i).kind = 0) (hat : (m.ths i).at_ = 3) : GDoes 74 p en l m t (m.load i) w := by
  obtain ⟨cp, hcp, hb⟩ := h.ts i t ht
  have hop := ho.op
  have _ := hk
  unfold OpOk at hop
  rw [tcOf_busy (by omega)] at hb
  have hk0 : 0 ≤ (m.ths i).key := hop.2.2.1
  have hk7 : (m.ths i).key < 8 := by omega
  have hst : m.load i = m.third i 6 := by simp [M.load, hat]
  rw [hst]
  unfold M.third
  by_cases hr : 0 ≤ m.read (m.key i)
  · rw [if_pos hr]
    simp only [GDoes, M.goes, sets_thr]
    refine Calls.mono (p_l3_in _ (shOf en m) t ⟨en (m.read (m.key i)).toNat, 0, none⟩ w hb h.s hk0 hk7 (ptrE_some hr)) ?_
    rintro e w' ⟨rfl, h1, k1⟩
    exact gsome (o := ⟨false, false, 0, _⟩) (h.goT hI ht k1 _ cp (by simp) h1 (by simp [tcOf, thNext, fnOf, hk, ptrE_some hr])) rfl k1 (sub1 ht en m)
  · rw [if_neg hr]
    have hr' := Int.not_le.1 hr
    by_cases ha : m.am = true
    · rw [if_pos ha]
      simp only [GDoes, M.goes, sets_thr]
      refine Calls.mono (p_l3_on _ (shOf en m) t w hb h.s hk0 hk7 (ptrE_none hr') ha) ?_
      rintro e w' ⟨rfl, h1, k1⟩
      exact gsome (o := ⟨false, false, 0, _⟩) (h.goT hI ht k1 _ cp (by simp) h1 (by simp [tcOf, thNext, fnOf, hk, ptrE_none hr'])) rfl k1 (sub1 ht en m)
    · rw [if_neg ha]
      simp only [GDoes, M.goes, sets_thr]
      refine Calls.mono (p_l3_out _ (shOf en m) t w hb h.s hk0 hk7 (ptrE_none hr') (by show m.am = false; simpa using ha)) ?_
      rintro e w' ⟨rfl, h1, k1⟩
      exact gsome (o := ⟨false, false, 0, _⟩) (h.goT hI ht k1 _ cp (by simp) h1 (by simp [tcOf, thNext, fnOf, hk, ptrE_none hr'])) rfl k1 (sub1 ht en m)
theorem q_l4 {p : PM} {en : Nat → Nat} {l : Int} {m : M} {w : World} (h : GAt p en l m w) (hI : m.Inv) {i t : Nat} (ht : p.ts[i]? = some t) (ho : ThOk m (m.ths i)) (hk : (m.ths i).kind = 0) (hat : (m.ths i).at_ = 4) : GDoes 84 p en l m t (m.load i) w := by
  obtain ⟨cp, hcp, hb⟩ := h.ts i t ht
  have hop := ho.op
  have _ := hk
  unfold OpOk at hop
  rw [tcOf_busy (by omega)] at hb
  have hk0 : 0 ≤ (m.ths i).key := hop.2.2.1
  have hk7 : (m.ths i).key < 8 := by omega
  have hst : m.load i = (m.sets i (m.dirty (m.key i))).goes i 5 := by simp [M.load, hat]
  rw [hst]
  simp only [GDoes, M.goes, sets_thr]
  refine Calls.mono (p_l4 _ (shOf en m) t w hb h.s hk0 hk7) ?_
  rintro e w' ⟨rfl, h1, k1⟩
  exact gsome (o := ⟨false, false, 0, _⟩) (h.goT hI ht k1 _ cp (by simp) h1 (by simp [tcOf, thNext, fnOf, behindAt, hk, shOf, M.key])) rfl k1 (sub1 ht en m)
theorem q_l5 {p : PM} {en : Nat → Nat} {l : Int} {m : M} {w : World} (h : GAt p en l m w) (hI : m.Inv) {i t : Nat} (ht : p.ts[i]? = some t) (ho : ThOk m (m.ths i)) (hk : (m.ths i).kind = 0) (hat : (m.ths i).at_ = 5) : GDoes 98 p en l m t (m.load i) w := by
  obtain ⟨cp, hcp, hb⟩ := h.ts i t ht
  have hop := ho.op
  have _ := hk
  unfold OpOk at hop
  rw [tcOf_busy (by omega)] at hb
  have hk0 : 0 ≤ (m.ths i).key := hop.2.2.1
  have hk7 : (m.ths i).key < 8 := by omega
  have hst : m.load i = if m.mis + 1 < cnt m.dirty 8 then { m with mis := m.mis + 1 }.goes i 6 else { m with mis := m.mis + 1 }.goes i 51 := by simp [M.load, M.missed, hat]
  rw [hst]
  have hm0 := hI.mis.1
  have hm1 : m.mis < 1000000 := by rcases hI.mis.2 with c | ⟨c, _, _⟩ <;> omega
  have hcnt : (cntP (shOf en m).D 8 : Int) = cnt m.dirty 8 := by rw [show cntP (shOf en m).D 8 = cnt m.dirty 8 from cntP_eq en m.dirty 8]
  by_cases hx : m.mis + 1 < cnt m.dirty 8
  · rw [if_pos hx]
    simp only [GDoes, M.goes]
    refine Calls.mono (p_l5_few _ (shOf en m) t w hb h.s hm0 hm1 (by rw [hcnt]; exact hx)) ?_
    rintro e w' ⟨rfl, h1, s1, k1⟩
    exact gsome (o := ⟨false, false, 0, _⟩) (h.goTS hI ht k1 { m with mis := m.mis + 1 } rfl rfl rfl rfl rfl _ cp (by simp) h1 (by simp [tcOf, thNext, fnOf, hk]) s1 (rfl)) rfl k1 (sub2 ht en m)
  · rw [if_neg hx]
    simp only [GDoes, M.goes]
    refine Calls.mono (p_l5_all _ (shOf en m) t w hb h.s hm0 hm1 (by rw [hcnt]; exact hx)) ?_
    rintro e w' ⟨rfl, h1, s1, k1⟩
    exact gsome (o := ⟨false, false, 0, _⟩) (h.goTS hI ht k1 { m with mis := m.mis + 1 } rfl rfl rfl rfl rfl _ cp (by simp) h1 (by simp [tcOf, thNext, fnOf, hk]) s1 (rfl)) rfl k1 (sub2 ht en m)
theorem q_l51 {p : PM} {en : Nat → Nat} {l : Int} {m : M} {w : World} (h : GAt p en l m w) (hI : m.Inv) {i t : Nat} (ht : p.ts[i]? = some t) (ho : ThOk m (m.ths i)) (hk : (m.ths i).kind = 0) (hat : (m.ths i).at_ = 51) : GDoes 103 p en l m t (m.load i) w := by
  obtain ⟨cp, hcp, hb⟩ := h.ts i t ht
  have hop := ho.op
  have _ := hk
  unfold OpOk at hop
  rw [tcOf_busy (by omega)] at hb
  have hk0 : 0 ≤ (m.ths i).key := hop.2.2.1
  have hk7 : (m.ths i).key < 8 := by omega
  have hst : m.load i = { m with read := m.dirty, am := false }.goes i 52 := by simp [M.load, M.missed, hat]
  rw [hst]
  simp only [GDoes, M.goes]
  refine Calls.mono (p_l51 _ (shOf en m) t w hb h.s) ?_
  rintro e w' ⟨rfl, h1, s1, k1⟩
  exact gsome (o := ⟨false, false, 0, _⟩) (h.goTS hI ht k1 { m with read := m.dirty, am := false } rfl rfl rfl rfl rfl _ cp (by simp) h1 (by simp [tcOf, thNext, fnOf, hk]) s1 (rfl)) rfl k1 (sub2 ht en m)
theorem q_l52 {p : PM} {en : Nat → Nat} {l : Int} {m : M} {w : World} (h : GAt p en l m w) (hI : m.Inv) {i t : Nat} (ht : p.ts[i]? = some t) (ho : ThOk m (m.ths i)) (hk : (m.ths i).kind = 0) (hat : (m.ths i).at_ = 52) : GDoes 105 p en l m t (m.load i) w := by
  obtain ⟨cp, hcp, hb⟩ := h.ts i t ht
  have hop := ho.op
  have _ := hk
  unfold OpOk at hop
  rw [tcOf_busy (by omega)] at hb
  have hk0 : 0 ≤ (m.ths i).key := hop.2.2.1
  have hk7 : (m.ths i).key < 8 := by omega
  have hst : m.load i = { m with hd := false, dirty := fun _ => -1 }.goes i 53 := by simp [M.load, M.missed, hat]
  rw [hst]
  simp only [GDoes, M.goes]
  refine Calls.mono (p_l52 _ (shOf en m) t w hb h.s) ?_
  rintro e w' ⟨rfl, h1, s1, k1⟩
  exact gsome (o := ⟨false, false, 0, _⟩) (h.goTS hI ht k1 { m with hd := false, dirty := fun _ => -1 } rfl rfl rfl rfl rfl _ cp (by simp) h1 (by simp [tcOf, thNext, fnOf, hk]) s1 (by simp [shOf, ptrE])) rfl k1 (sub2 ht en m)
theorem q_l53 {p : PM} {en : Nat → Nat} {l : Int} {m : M} {w : World} (h : GAt p en l m w) (hI : m.Inv) {i t : Nat} (ht : p.ts[i]? = some t) (ho : ThOk m (m.ths i)) (hk : (m.ths i).kind = 0) (hat : (m.ths i).at_ = 53) : GDoes 106 p en l m t (m.load i) w := by
  obtain ⟨cp, hcp, hb⟩ := h.ts i t ht
  have hop := ho.op
  have _ := hk
  unfold OpOk at hop
  rw [tcOf_busy (by omega)] at hb
  have hk0 : 0 ≤ (m.ths i).key := hop.2.2.1
  have hk7 : (m.ths i).key < 8 := by omega
  have hst : m.load i = { m with mis := 0 }.goes i 6 := by simp [M.load, M.missed, hat]
  rw [hst]
  simp only [GDoes, M.goes]
  refine Calls.mono (p_l53 _ (shOf en m) t w hb h.s) ?_
  rintro e w' ⟨rfl, h1, s1, k1⟩
  exact gsome (o := ⟨false, false, 0, _⟩) (h.goTS hI ht k1 { m with mis := 0 } rfl rfl rfl rfl rfl _ cp (by simp) h1 (by simp [tcOf, thNext, fnOf, hk]) s1 (rfl)) rfl k1 (sub2 ht en m)
theorem q_l6 {p : PM} {en : Nat → Nat} {l : Int} {m : M} {w : World} (h : GAt p en l m w) (hI : m.Inv) {i t : Nat} (ht : p.ts[i]? = some t) (ho : ThOk m (m.ths i)) (hk : (m.ths i).kind = 0) (hat : (m.ths i).at_ = 6) : GDoes 83 p en l m t (m.load i) w := by
  obtain ⟨cp, hcp, hb⟩ := h.ts i t ht
  have hop := ho.op
  have _ := hk
  unfold OpOk at hop
  rw [tcOf_busy (by omega)] at hb
  have hk0 : 0 ≤ (m.ths i).key := hop.2.2.1
  have hk7 : (m.ths i).key < 8 := by omega
  have hst : m.load i = m.frees i 7 := by simp [M.load, hat]
  rw [hst]
  unfold M.frees
  by_cases hr : (m.ths i).e < 0
  · rw [if_pos hr]
    simp only [GDoes, M.ends]
    refine Calls.mono (p_l6_end _ (shOf en m) t w hb h.s (ptrE_none hr)) ?_
    rintro e w' ⟨rfl, h1, s1, k1⟩
    exact gsome (o := ⟨true, false, 0, _⟩) (h.goTS hI ht k1 { m with hol := -1 } rfl rfl rfl rfl rfl _ 0 (by simp) h1 (by simp [tcOf, Tc.idle]) s1 rfl) rfl k1 (sub2 ht en m)
  · rw [if_neg hr]
    simp only [GDoes, M.goes]
    refine Calls.mono (p_l6_on _ (shOf en m) t _ w hb h.s (ptrE_some (Int.not_lt.1 hr))) ?_
    rintro e w' ⟨rfl, h1, s1, k1⟩
    exact gsome (o := ⟨false, false, 0, _⟩) (h.goTS hI ht k1 { m with hol := -1 } rfl rfl rfl rfl rfl _ cp (by simp) h1 (by simp [tcOf, thNext, fnOf, firstAt, hk]) s1 (rfl)) rfl k1 (sub2 ht en m)
theorem q_l7 {p : PM} {en : Nat → Nat} {l : Int} {m : M} {w : World} (h : GAt p en l m w) (hI : m.Inv) {i t : Nat} (ht : p.ts[i]? = some t) (ho : ThOk m (m.ths i)) (hk : (m.ths i).kind = 0) (hat : (m.ths i).at_ = 7) : GDoes 72 p en l m t (m.load i) w := by
  obtain ⟨cp, hcp, hb⟩ := h.ts i t ht
  have hop := ho.op
  have _ := hk
  unfold OpOk at hop
  rw [tcOf_busy (by omega)] at hb
  have hk0 : 0 ≤ (m.ths i).key := hop.2.2.1
  have hk7 : (m.ths i).key < 8 := by omega
  have he0 : 0 ≤ (m.ths i).e := ho.ne (by simp [NeedsE, hk, hat])
  have hel : (m.ths i).e.toNat < m.nc := by have := ho.e; omega
  have hE := h.es _ hel
  have hcel := hI.cel _ hel
  have hst : m.load i = m.ends i ((m.cells (m.ths i).e.toNat).st == 0) (m.cells (m.ths i).e.toNat).v := by simp [M.load, hat]
  rw [hst]
  by_cases hx : (m.cells (m.ths i).e.toNat).st = 0
  · rw [hx]
    simp only [GDoes, M.ends]
    refine Calls.mono (p_l7_value _ t _ _ _ w hb hE (ptrE_some he0) hx) ?_
    rintro e w' ⟨rfl, h1, k1⟩
    exact gsome (o := ⟨true, true, _, _⟩) (h.goT hI ht k1 _ 0 (by simp) h1 (by simp [tcOf, Tc.idle])) rfl k1 (sub1 ht en m)
  · have hy : (m.cells (m.ths i).e.toNat).v = 0 := by unfold CelOk at hcel; omega
    have hbq : ((m.cells (m.ths i).e.toNat).st == 0) = false := by simpa using hx
    rw [hy, hbq]
    simp only [GDoes, M.ends]
    refine Calls.mono (p_l7_none _ t _ _ _ w hb hE (ptrE_some he0) hx) ?_
    rintro e w' ⟨rfl, h1, k1⟩
    exact gsome (o := ⟨true, false, 0, _⟩) (h.goT hI ht k1 _ 0 (by simp) h1 (by simp [tcOf, Tc.idle])) rfl k1 (sub1 ht en m)
end Go.Proofs.Ytmnkphenobfbfaa
namespace Go.Proofs.Ytmnkphenobfbfaa
open Go.RowKit
theorem q_d2 {p : PM} {en : Nat → Nat} {l : Int} {m : M} {w : World} (h : GAt p en l m w) (hI : m.Inv) {i t : Nat} (ht : p.ts[i]? = some t) (ho : ThOk m (m.ths i)) (hk : (m.ths i).kind = 2) (hat : (m.ths i).at_ = 2) (hf : m.hol < 0) : GDoes 66 p en l m t ({ m with hol := i }.goes i 3) w := by
  obtain ⟨cp, hcp, hb⟩ := h.ts i t ht
  have hop := ho.op
  have _ := hk
  unfold OpOk at hop
  rw [tcOf_busy (by omega)] at hb
  have hk0 : 0 ≤ (m.ths i).key := hop.2.2.1
  have hk7 : (m.ths i).key < 8 := by omega
  have hh : m.hol = -1 := by have := hI.hol; omega
  simp only [GDoes, M.goes]
  refine Calls.mono (p_l2_yes _ (shOf en m) t w hb h.s hh) ?_
  rintro e w' ⟨rfl, h1, s1, k1⟩
  exact gsome (o := ⟨false, false, 0, _⟩) (h.goTS hI ht k1 { m with hol := i } rfl rfl rfl rfl rfl _ cp (by simp) h1 (by simp [tcOf, thNext, fnOf, hk]) s1 (rfl)) rfl k1 (sub2 ht en m)
theorem q_d2_no {p : PM} {en : Nat → Nat} {l : Int} {m : M} {w : World} (h : GAt p en l m w) {i t : Nat} (ht : p.ts[i]? = some t) (ho : ThOk m (m.ths i)) (hk : (m.ths i).kind = 2) (hat : (m.ths i).at_ = 2) (hf : 0 ≤ m.hol) : Calls Try.prog 66 #[.pointer (some ⟨t, 0, none⟩)] w fun e w' => e = .returned (ans false false 0 4) ∧ Kept [] w w' := by
  obtain ⟨cp, hcp, hb⟩ := h.ts i t ht
  have hop := ho.op
  have _ := hk
  unfold OpOk at hop
  rw [tcOf_busy (by omega)] at hb
  have hk0 : 0 ≤ (m.ths i).key := hop.2.2.1
  have hk7 : (m.ths i).key < 8 := by omega
  exact p_l2_no _ (shOf en m) t w hb h.s (by show ¬ m.hol = -1; omega)
theorem q_d1 {p : PM} {en : Nat → Nat} {l : Int} {m : M} {w : World} (h : GAt p en l m w) (hI : m.Inv) {i t : Nat} (ht : p.ts[i]? = some t) (ho : ThOk m (m.ths i)) (hk : (m.ths i).kind = 2) (hat : (m.ths i).at_ = 1) : GDoes 51 p en l m t (m.remove i) w := by
  obtain ⟨cp, hcp, hb⟩ := h.ts i t ht
  have hop := ho.op
  have _ := hk
  unfold OpOk at hop
  rw [tcOf_busy (by omega)] at hb
  have hk0 : 0 ≤ (m.ths i).key := hop.2.2.1
  have hk7 : (m.ths i).key < 8 := by omega
  have hst : m.remove i = m.first i 8 := by simp [M.remove, hat]
  rw [hst]
  unfold M.first
  by_cases hr : 0 ≤ m.read (m.key i)
  · rw [if_pos hr]
    simp only [GDoes, M.goes, sets_thr]
    refine Calls.mono (p_l1_in _ (shOf en m) t ⟨en (m.read (m.key i)).toNat, 0, none⟩ w hb h.s hk0 hk7 (ptrE_some hr)) ?_
    rintro e w' ⟨rfl, h1, k1⟩
    exact gsome (o := ⟨false, false, 0, _⟩) (h.goT hI ht k1 _ cp (by simp) h1 (by simp [tcOf, thNext, fnOf, firstAt, hk, ptrE_some hr])) rfl k1 (sub1 ht en m)
  · rw [if_neg hr]
    have hr' := Int.not_le.1 hr
    by_cases ha : m.am = true
    · rw [if_pos ha]
      simp only [GDoes, M.goes, sets_thr]
      refine Calls.mono (p_l1_on _ (shOf en m) t w hb h.s hk0 hk7 (ptrE_none hr') ha) ?_
      rintro e w' ⟨rfl, h1, k1⟩
      exact gsome (o := ⟨false, false, 0, _⟩) (h.goT hI ht k1 _ cp (by simp) h1 (by simp [tcOf, thNext, fnOf, hk, ptrE_none hr'])) rfl k1 (sub1 ht en m)
    · rw [if_neg ha]
      simp only [GDoes, M.ends, sets_thr]
      refine Calls.mono (p_l1_end _ (shOf en m) t w hb h.s hk0 hk7 (ptrE_none hr') (by show m.am = false; simpa using ha)) ?_
      rintro e w' ⟨rfl, h1, k1⟩
      exact gsome (o := ⟨true, false, 0, _⟩) (h.goT hI ht k1 _ 0 (by simp) h1 (by simp [tcOf, Tc.idle])) rfl k1 (sub1 ht en m)
theorem q_d3 {p : PM} {en : Nat → Nat} {l : Int} {m : M} {w : World} (h : GAt p en l m w) (hI : m.Inv) {i t : Nat} (ht : p.ts[i]? = some t) (ho : ThOk m (m.ths i)) (hk : (m.ths i).kind = 2) (hat : (m.ths i).at_ = 3) : GDoes 74 p en l m t (m.remove i) w := by
  obtain ⟨cp, hcp, hb⟩ := h.ts i t ht
  have hop := ho.op
  have _ := hk
  unfold OpOk at hop
  rw [tcOf_busy (by omega)] at hb
  have hk0 : 0 ≤ (m.ths i).key := hop.2.2.1
  have hk7 : (m.ths i).key < 8 := by omega
  have hst : m.remove i = m.third i 7 := by simp [M.remove, hat]
  rw [hst]
  unfold M.third
  by_cases hr : 0 ≤ m.read (m.key i)
  · rw [if_pos hr]
    simp only [GDoes, M.goes, sets_thr]
    refine Calls.mono (p_l3_in _ (shOf en m) t ⟨en (m.read (m.key i)).toNat, 0, none⟩ w hb h.s hk0 hk7 (ptrE_some hr)) ?_
    rintro e w' ⟨rfl, h1, k1⟩
    exact gsome (o := ⟨false, false, 0, _⟩) (h.goT hI ht k1 _ cp (by simp) h1 (by simp [tcOf, thNext, fnOf, hk, ptrE_some hr])) rfl k1 (sub1 ht en m)
  · rw [if_neg hr]
    have hr' := Int.not_le.1 hr
    by_cases ha : m.am = true
    · rw [if_pos ha]
      simp only [GDoes, M.goes, sets_thr]
      refine Calls.mono (p_l3_on _ (shOf en m) t w hb h.s hk0 hk7 (ptrE_none hr') ha) ?_
      rintro e w' ⟨rfl, h1, k1⟩
      exact gsome (o := ⟨false, false, 0, _⟩) (h.goT hI ht k1 _ cp (by simp) h1 (by simp [tcOf, thNext, fnOf, hk, ptrE_none hr'])) rfl k1 (sub1 ht en m)
    · rw [if_neg ha]
      simp only [GDoes, M.goes, sets_thr]
      refine Calls.mono (p_l3_out _ (shOf en m) t w hb h.s hk0 hk7 (ptrE_none hr') (by show m.am = false; simpa using ha)) ?_
      rintro e w' ⟨rfl, h1, k1⟩
      exact gsome (o := ⟨false, false, 0, _⟩) (h.goT hI ht k1 _ cp (by simp) h1 (by simp [tcOf, thNext, fnOf, hk, ptrE_none hr'])) rfl k1 (sub1 ht en m)
theorem q_d4 {p : PM} {en : Nat → Nat} {l : Int} {m : M} {w : World} (h : GAt p en l m w) (hI : m.Inv) {i t : Nat} (ht : p.ts[i]? = some t) (ho : ThOk m (m.ths i)) (hk : (m.ths i).kind = 2) (hat : (m.ths i).at_ = 4) : GDoes 84 p en l m t (m.remove i) w := by
  obtain ⟨cp, hcp, hb⟩ := h.ts i t ht
  have hop := ho.op
  have _ := hk
  unfold OpOk at hop
  rw [tcOf_busy (by omega)] at hb
  have hk0 : 0 ≤ (m.ths i).key := hop.2.2.1
  have hk7 : (m.ths i).key < 8 := by omega
  have hst : m.remove i = (m.sets i (m.dirty (m.key i))).goes i 5 := by simp [M.remove, hat]
  rw [hst]
  simp only [GDoes, M.goes, sets_thr]
  refine Calls.mono (p_l4 _ (shOf en m) t w hb h.s hk0 hk7) ?_
  rintro e w' ⟨rfl, h1, k1⟩
  exact gsome (o := ⟨false, false, 0, _⟩) (h.goT hI ht k1 _ cp (by simp) h1 (by simp [tcOf, thNext, fnOf, behindAt, hk, shOf, M.key])) rfl k1 (sub1 ht en m)
theorem q_d6 {p : PM} {en : Nat → Nat} {l : Int} {m : M} {w : World} (h : GAt p en l m w) (hI : m.Inv) {i t : Nat} (ht : p.ts[i]? = some t) (ho : ThOk m (m.ths i)) (hk : (m.ths i).kind = 2) (hat : (m.ths i).at_ = 6) : GDoes 98 p en l m t (m.remove i) w := by
  obtain ⟨cp, hcp, hb⟩ := h.ts i t ht
  have hop := ho.op
  have _ := hk
  unfold OpOk at hop
  rw [tcOf_busy (by omega)] at hb
  have hk0 : 0 ≤ (m.ths i).key := hop.2.2.1
  have hk7 : (m.ths i).key < 8 := by omega
  have hst : m.remove i = if m.mis + 1 < cnt m.dirty 8 then { m with mis := m.mis + 1 }.goes i 7 else { m with mis := m.mis + 1 }.goes i 61 := by simp [M.remove, M.missed, hat]
  rw [hst]
  have hm0 := hI.mis.1
  have hm1 : m.mis < 1000000 := by rcases hI.mis.2 with c | ⟨c, _, _⟩ <;> omega
  have hcnt : (cntP (shOf en m).D 8 : Int) = cnt m.dirty 8 := by rw [show cntP (shOf en m).D 8 = cnt m.dirty 8 from cntP_eq en m.dirty 8]
  by_cases hx : m.mis + 1 < cnt m.dirty 8
  · rw [if_pos hx]
    simp only [GDoes, M.goes]
    refine Calls.mono (p_l5_few _ (shOf en m) t w hb h.s hm0 hm1 (by rw [hcnt]; exact hx)) ?_
    rintro e w' ⟨rfl, h1, s1, k1⟩
    exact gsome (o := ⟨false, false, 0, _⟩) (h.goTS hI ht k1 { m with mis := m.mis + 1 } rfl rfl rfl rfl rfl _ cp (by simp) h1 (by simp [tcOf, thNext, fnOf, hk]) s1 (rfl)) rfl k1 (sub2 ht en m)
  · rw [if_neg hx]
    simp only [GDoes, M.goes]
    refine Calls.mono (p_l5_all _ (shOf en m) t w hb h.s hm0 hm1 (by rw [hcnt]; exact hx)) ?_
    rintro e w' ⟨rfl, h1, s1, k1⟩
    exact gsome (o := ⟨false, false, 0, _⟩) (h.goTS hI ht k1 { m with mis := m.mis + 1 } rfl rfl rfl rfl rfl _ cp (by simp) h1 (by simp [tcOf, thNext, fnOf, hk]) s1 (rfl)) rfl k1 (sub2 ht en m)
theorem q_d61 {p : PM} {en : Nat → Nat} {l : Int} {m : M} {w : World} (h : GAt p en l m w) (hI : m.Inv) {i t : Nat} (ht : p.ts[i]? = some t) (ho : ThOk m (m.ths i)) (hk : (m.ths i).kind = 2) (hat : (m.ths i).at_ = 61) : GDoes 103 p en l m t (m.remove i) w := by
  obtain ⟨cp, hcp, hb⟩ := h.ts i t ht
  have hop := ho.op
  have _ := hk
  unfold OpOk at hop
  rw [tcOf_busy (by omega)] at hb
  have hk0 : 0 ≤ (m.ths i).key := hop.2.2.1
  have hk7 : (m.ths i).key < 8 := by omega
  have hst : m.remove i = { m with read := m.dirty, am := false }.goes i 62 := by simp [M.remove, M.missed, hat]
  rw [hst]
  simp only [GDoes, M.goes]
  refine Calls.mono (p_l51 _ (shOf en m) t w hb h.s) ?_
  rintro e w' ⟨rfl, h1, s1, k1⟩
  exact gsome (o := ⟨false, false, 0, _⟩) (h.goTS hI ht k1 { m with read := m.dirty, am := false } rfl rfl rfl rfl rfl _ cp (by simp) h1 (by simp [tcOf, thNext, fnOf, hk]) s1 (rfl)) rfl k1 (sub2 ht en m)
theorem q_d62 {p : PM} {en : Nat → Nat} {l : Int} {m : M} {w : World} (h : GAt p en l m w) (hI : m.Inv) {i t : Nat} (ht : p.ts[i]? = some t) (ho : ThOk m (m.ths i)) (hk : (m.ths i).kind = 2) (hat : (m.ths i).at_ = 62) : GDoes 105 p en l m t (m.remove i) w := by
  obtain ⟨cp, hcp, hb⟩ := h.ts i t ht
  have hop := ho.op
  have _ := hk
  unfold OpOk at hop
  rw [tcOf_busy (by omega)] at hb
  have hk0 : 0 ≤ (m.ths i).key := hop.2.2.1
  have hk7 : (m.ths i).key < 8 := by omega
  have hst : m.remove i = { m with hd := false, dirty := fun _ => -1 }.goes i 63 := by simp [M.remove, M.missed, hat]
  rw [hst]
  simp only [GDoes, M.goes]
  refine Calls.mono (p_l52 _ (shOf en m) t w hb h.s) ?_
  rintro e w' ⟨rfl, h1, s1, k1⟩
  exact gsome (o := ⟨false, false, 0, _⟩) (h.goTS hI ht k1 { m with hd := false, dirty := fun _ => -1 } rfl rfl rfl rfl rfl _ cp (by simp) h1 (by simp [tcOf, thNext, fnOf, hk]) s1 (by simp [shOf, ptrE])) rfl k1 (sub2 ht en m)
theorem q_d63 {p : PM} {en : Nat → Nat} {l : Int} {m : M} {w : World} (h : GAt p en l m w) (hI : m.Inv) {i t : Nat} (ht : p.ts[i]? = some t) (ho : ThOk m (m.ths i)) (hk : (m.ths i).kind = 2) (hat : (m.ths i).at_ = 63) : GDoes 106 p en l m t (m.remove i) w := by
  obtain ⟨cp, hcp, hb⟩ := h.ts i t ht
  have hop := ho.op
  have _ := hk
  unfold OpOk at hop
  rw [tcOf_busy (by omega)] at hb
  have hk0 : 0 ≤ (m.ths i).key := hop.2.2.1
  have hk7 : (m.ths i).key < 8 := by omega
  have hst : m.remove i = { m with mis := 0 }.goes i 7 := by simp [M.remove, M.missed, hat]
  rw [hst]
  simp only [GDoes, M.goes]
  refine Calls.mono (p_l53 _ (shOf en m) t w hb h.s) ?_
  rintro e w' ⟨rfl, h1, s1, k1⟩
  exact gsome (o := ⟨false, false, 0, _⟩) (h.goTS hI ht k1 { m with mis := 0 } rfl rfl rfl rfl rfl _ cp (by simp) h1 (by simp [tcOf, thNext, fnOf, hk]) s1 (rfl)) rfl k1 (sub2 ht en m)
theorem q_d7 {p : PM} {en : Nat → Nat} {l : Int} {m : M} {w : World} (h : GAt p en l m w) (hI : m.Inv) {i t : Nat} (ht : p.ts[i]? = some t) (ho : ThOk m (m.ths i)) (hk : (m.ths i).kind = 2) (hat : (m.ths i).at_ = 7) : GDoes 83 p en l m t (m.remove i) w := by
  obtain ⟨cp, hcp, hb⟩ := h.ts i t ht
  have hop := ho.op
  have _ := hk
  unfold OpOk at hop
  rw [tcOf_busy (by omega)] at hb
  have hk0 : 0 ≤ (m.ths i).key := hop.2.2.1
  have hk7 : (m.ths i).key < 8 := by omega
  have hst : m.remove i = m.frees i 8 := by simp [M.remove, hat]
  rw [hst]
  unfold M.frees
  by_cases hr : (m.ths i).e < 0
  · rw [if_pos hr]
    simp only [GDoes, M.ends]
    refine Calls.mono (p_l6_end _ (shOf en m) t w hb h.s (ptrE_none hr)) ?_
    rintro e w' ⟨rfl, h1, s1, k1⟩
    exact gsome (o := ⟨true, false, 0, _⟩) (h.goTS hI ht k1 { m with hol := -1 } rfl rfl rfl rfl rfl _ 0 (by simp) h1 (by simp [tcOf, Tc.idle]) s1 rfl) rfl k1 (sub2 ht en m)
  · rw [if_neg hr]
    simp only [GDoes, M.goes]
    refine Calls.mono (p_l6_on _ (shOf en m) t _ w hb h.s (ptrE_some (Int.not_lt.1 hr))) ?_
    rintro e w' ⟨rfl, h1, s1, k1⟩
    exact gsome (o := ⟨false, false, 0, _⟩) (h.goTS hI ht k1 { m with hol := -1 } rfl rfl rfl rfl rfl _ cp (by simp) h1 (by simp [tcOf, thNext, fnOf, firstAt, hk]) s1 (rfl)) rfl k1 (sub2 ht en m)
theorem q_r2 {p : PM} {en : Nat → Nat} {l : Int} {m : M} {w : World} (h : GAt p en l m w) (hI : m.Inv) {i t : Nat} (ht : p.ts[i]? = some t) (ho : ThOk m (m.ths i)) (hk : (m.ths i).kind = 3) (hat : (m.ths i).at_ = 2) (hf : m.hol < 0) : GDoes 66 p en l m t ({ m with hol := i }.goes i 3) w := by
  obtain ⟨cp, hcp, hb⟩ := h.ts i t ht
  have hop := ho.op
  have _ := hk
  unfold OpOk at hop
  rw [tcOf_busy (by omega)] at hb
  have hk0 : 0 ≤ (m.ths i).key := hop.2.2.1
  have hk7 : (m.ths i).key < 8 := by omega
  have hh : m.hol = -1 := by have := hI.hol; omega
  simp only [GDoes, M.goes]
  refine Calls.mono (p_l2_yes _ (shOf en m) t w hb h.s hh) ?_
  rintro e w' ⟨rfl, h1, s1, k1⟩
  exact gsome (o := ⟨false, false, 0, _⟩) (h.goTS hI ht k1 { m with hol := i } rfl rfl rfl rfl rfl _ cp (by simp) h1 (by simp [tcOf, thNext, fnOf, hk]) s1 (rfl)) rfl k1 (sub2 ht en m)
theorem q_r2_no {p : PM} {en : Nat → Nat} {l : Int} {m : M} {w : World} (h : GAt p en l m w) {i t : Nat} (ht : p.ts[i]? = some t) (ho : ThOk m (m.ths i)) (hk : (m.ths i).kind = 3) (hat : (m.ths i).at_ = 2) (hf : 0 ≤ m.hol) : Calls Try.prog 66 #[.pointer (some ⟨t, 0, none⟩)] w fun e w' => e = .returned (ans false false 0 4) ∧ Kept [] w w' := by
  obtain ⟨cp, hcp, hb⟩ := h.ts i t ht
  have hop := ho.op
  have _ := hk
  unfold OpOk at hop
  rw [tcOf_busy (by omega)] at hb
  have hk0 : 0 ≤ (m.ths i).key := hop.2.2.1
  have hk7 : (m.ths i).key < 8 := by omega
  exact p_l2_no _ (shOf en m) t w hb h.s (by show ¬ m.hol = -1; omega)
theorem q_r1 {p : PM} {en : Nat → Nat} {l : Int} {m : M} {w : World} (h : GAt p en l m w) (hI : m.Inv) {i t : Nat} (ht : p.ts[i]? = some t) (ho : ThOk m (m.ths i)) (hk : (m.ths i).kind = 3) (hat : (m.ths i).at_ = 1) : GDoes 51 p en l m t (m.replace i) w := by
  obtain ⟨cp, hcp, hb⟩ := h.ts i t ht
  have hop := ho.op
  have _ := hk
  unfold OpOk at hop
  rw [tcOf_busy (by omega)] at hb
  have hk0 : 0 ≤ (m.ths i).key := hop.2.2.1
  have hk7 : (m.ths i).key < 8 := by omega
  have hst : m.replace i = m.first i 8 := by simp [M.replace, hat]
  rw [hst]
  unfold M.first
  by_cases hr : 0 ≤ m.read (m.key i)
  · rw [if_pos hr]
    simp only [GDoes, M.goes, sets_thr]
    refine Calls.mono (p_l1_in _ (shOf en m) t ⟨en (m.read (m.key i)).toNat, 0, none⟩ w hb h.s hk0 hk7 (ptrE_some hr)) ?_
    rintro e w' ⟨rfl, h1, k1⟩
    exact gsome (o := ⟨false, false, 0, _⟩) (h.goT hI ht k1 _ cp (by simp) h1 (by simp [tcOf, thNext, fnOf, firstAt, hk, ptrE_some hr])) rfl k1 (sub1 ht en m)
  · rw [if_neg hr]
    have hr' := Int.not_le.1 hr
    by_cases ha : m.am = true
    · rw [if_pos ha]
      simp only [GDoes, M.goes, sets_thr]
      refine Calls.mono (p_l1_on _ (shOf en m) t w hb h.s hk0 hk7 (ptrE_none hr') ha) ?_
      rintro e w' ⟨rfl, h1, k1⟩
      exact gsome (o := ⟨false, false, 0, _⟩) (h.goT hI ht k1 _ cp (by simp) h1 (by simp [tcOf, thNext, fnOf, hk, ptrE_none hr'])) rfl k1 (sub1 ht en m)
    · rw [if_neg ha]
      simp only [GDoes, M.ends, sets_thr]
      refine Calls.mono (p_l1_end _ (shOf en m) t w hb h.s hk0 hk7 (ptrE_none hr') (by show m.am = false; simpa using ha)) ?_
      rintro e w' ⟨rfl, h1, k1⟩
      exact gsome (o := ⟨true, false, 0, _⟩) (h.goT hI ht k1 _ 0 (by simp) h1 (by simp [tcOf, Tc.idle])) rfl k1 (sub1 ht en m)
theorem q_r3 {p : PM} {en : Nat → Nat} {l : Int} {m : M} {w : World} (h : GAt p en l m w) (hI : m.Inv) {i t : Nat} (ht : p.ts[i]? = some t) (ho : ThOk m (m.ths i)) (hk : (m.ths i).kind = 3) (hat : (m.ths i).at_ = 3) : GDoes 74 p en l m t (m.replace i) w := by
  obtain ⟨cp, hcp, hb⟩ := h.ts i t ht
  have hop := ho.op
  have _ := hk
  unfold OpOk at hop
  rw [tcOf_busy (by omega)] at hb
  have hk0 : 0 ≤ (m.ths i).key := hop.2.2.1
  have hk7 : (m.ths i).key < 8 := by omega
  have hst : m.replace i = m.third i 7 := by simp [M.replace, hat]
  rw [hst]
  unfold M.third
  by_cases hr : 0 ≤ m.read (m.key i)
  · rw [if_pos hr]
    simp only [GDoes, M.goes, sets_thr]
    refine Calls.mono (p_l3_in _ (shOf en m) t ⟨en (m.read (m.key i)).toNat, 0, none⟩ w hb h.s hk0 hk7 (ptrE_some hr)) ?_
    rintro e w' ⟨rfl, h1, k1⟩
    exact gsome (o := ⟨false, false, 0, _⟩) (h.goT hI ht k1 _ cp (by simp) h1 (by simp [tcOf, thNext, fnOf, hk, ptrE_some hr])) rfl k1 (sub1 ht en m)
  · rw [if_neg hr]
    have hr' := Int.not_le.1 hr
    by_cases ha : m.am = true
    · rw [if_pos ha]
      simp only [GDoes, M.goes, sets_thr]
      refine Calls.mono (p_l3_on _ (shOf en m) t w hb h.s hk0 hk7 (ptrE_none hr') ha) ?_
      rintro e w' ⟨rfl, h1, k1⟩
      exact gsome (o := ⟨false, false, 0, _⟩) (h.goT hI ht k1 _ cp (by simp) h1 (by simp [tcOf, thNext, fnOf, hk, ptrE_none hr'])) rfl k1 (sub1 ht en m)
    · rw [if_neg ha]
      simp only [GDoes, M.goes, sets_thr]
      refine Calls.mono (p_l3_out _ (shOf en m) t w hb h.s hk0 hk7 (ptrE_none hr') (by show m.am = false; simpa using ha)) ?_
      rintro e w' ⟨rfl, h1, k1⟩
      exact gsome (o := ⟨false, false, 0, _⟩) (h.goT hI ht k1 _ cp (by simp) h1 (by simp [tcOf, thNext, fnOf, hk, ptrE_none hr'])) rfl k1 (sub1 ht en m)
theorem q_r4 {p : PM} {en : Nat → Nat} {l : Int} {m : M} {w : World} (h : GAt p en l m w) (hI : m.Inv) {i t : Nat} (ht : p.ts[i]? = some t) (ho : ThOk m (m.ths i)) (hk : (m.ths i).kind = 3) (hat : (m.ths i).at_ = 4) : GDoes 84 p en l m t (m.replace i) w := by
  obtain ⟨cp, hcp, hb⟩ := h.ts i t ht
  have hop := ho.op
  have _ := hk
  unfold OpOk at hop
  rw [tcOf_busy (by omega)] at hb
  have hk0 : 0 ≤ (m.ths i).key := hop.2.2.1
  have hk7 : (m.ths i).key < 8 := by omega
  have hst : m.replace i = (m.sets i (m.dirty (m.key i))).goes i (if m.dirty (m.key i) < 0 then 7 else 6) := by simp [M.replace, hat]
  rw [hst]
  by_cases hr : m.dirty (m.key i) < 0
  · rw [if_pos hr]
    simp only [GDoes, M.goes, sets_thr]
    refine Calls.mono (p_l4 _ (shOf en m) t w hb h.s hk0 hk7) ?_
    rintro e w' ⟨rfl, h1, k1⟩
    have hp : (shOf en m).D (m.ths i).key.toNat = none := ptrE_none hr
    exact gsome (o := ⟨false, false, 0, _⟩) (h.goT hI ht k1 _ cp (by simp) h1 (by simp [tcOf, thNext, fnOf, behindAt, hk, hp, ptrE_none hr])) rfl k1 (sub1 ht en m)
  · rw [if_neg hr]
    simp only [GDoes, M.goes, sets_thr]
    refine Calls.mono (p_l4 _ (shOf en m) t w hb h.s hk0 hk7) ?_
    rintro e w' ⟨rfl, h1, k1⟩
    have hp : (shOf en m).D (m.ths i).key.toNat = some ⟨en (m.dirty (m.key i)).toNat, 0, none⟩ := ptrE_some (Int.not_lt.1 hr)
    exact gsome (o := ⟨false, false, 0, _⟩) (h.goT hI ht k1 _ cp (by simp) h1 (by simp [tcOf, thNext, fnOf, behindAt, hk, hp, ptrE_some (Int.not_lt.1 hr)])) rfl k1 (sub1 ht en m)
theorem q_r6 {p : PM} {en : Nat → Nat} {l : Int} {m : M} {w : World} (h : GAt p en l m w) (hI : m.Inv) {i t : Nat} (ht : p.ts[i]? = some t) (ho : ThOk m (m.ths i)) (hk : (m.ths i).kind = 3) (hat : (m.ths i).at_ = 6) : GDoes 98 p en l m t (m.replace i) w := by
  obtain ⟨cp, hcp, hb⟩ := h.ts i t ht
  have hop := ho.op
  have _ := hk
  unfold OpOk at hop
  rw [tcOf_busy (by omega)] at hb
  have hk0 : 0 ≤ (m.ths i).key := hop.2.2.1
  have hk7 : (m.ths i).key < 8 := by omega
  have hst : m.replace i = if m.mis + 1 < cnt m.dirty 8 then { m with mis := m.mis + 1 }.goes i 7 else { m with mis := m.mis + 1 }.goes i 61 := by simp [M.replace, M.missed, hat]
  rw [hst]
  have hm0 := hI.mis.1
  have hm1 : m.mis < 1000000 := by rcases hI.mis.2 with c | ⟨c, _, _⟩ <;> omega
  have hcnt : (cntP (shOf en m).D 8 : Int) = cnt m.dirty 8 := by rw [show cntP (shOf en m).D 8 = cnt m.dirty 8 from cntP_eq en m.dirty 8]
  by_cases hx : m.mis + 1 < cnt m.dirty 8
  · rw [if_pos hx]
    simp only [GDoes, M.goes]
    refine Calls.mono (p_l5_few _ (shOf en m) t w hb h.s hm0 hm1 (by rw [hcnt]; exact hx)) ?_
    rintro e w' ⟨rfl, h1, s1, k1⟩
    exact gsome (o := ⟨false, false, 0, _⟩) (h.goTS hI ht k1 { m with mis := m.mis + 1 } rfl rfl rfl rfl rfl _ cp (by simp) h1 (by simp [tcOf, thNext, fnOf, hk]) s1 (rfl)) rfl k1 (sub2 ht en m)
  · rw [if_neg hx]
    simp only [GDoes, M.goes]
    refine Calls.mono (p_l5_all _ (shOf en m) t w hb h.s hm0 hm1 (by rw [hcnt]; exact hx)) ?_
    rintro e w' ⟨rfl, h1, s1, k1⟩
    exact gsome (o := ⟨false, false, 0, _⟩) (h.goTS hI ht k1 { m with mis := m.mis + 1 } rfl rfl rfl rfl rfl _ cp (by simp) h1 (by simp [tcOf, thNext, fnOf, hk]) s1 (rfl)) rfl k1 (sub2 ht en m)
theorem q_r61 {p : PM} {en : Nat → Nat} {l : Int} {m : M} {w : World} (h : GAt p en l m w) (hI : m.Inv) {i t : Nat} (ht : p.ts[i]? = some t) (ho : ThOk m (m.ths i)) (hk : (m.ths i).kind = 3) (hat : (m.ths i).at_ = 61) : GDoes 103 p en l m t (m.replace i) w := by
  obtain ⟨cp, hcp, hb⟩ := h.ts i t ht
  have hop := ho.op
  have _ := hk
  unfold OpOk at hop
  rw [tcOf_busy (by omega)] at hb
  have hk0 : 0 ≤ (m.ths i).key := hop.2.2.1
  have hk7 : (m.ths i).key < 8 := by omega
  have hst : m.replace i = { m with read := m.dirty, am := false }.goes i 62 := by simp [M.replace, M.missed, hat]
  rw [hst]
  simp only [GDoes, M.goes]
  refine Calls.mono (p_l51 _ (shOf en m) t w hb h.s) ?_
  rintro e w' ⟨rfl, h1, s1, k1⟩
  exact gsome (o := ⟨false, false, 0, _⟩) (h.goTS hI ht k1 { m with read := m.dirty, am := false } rfl rfl rfl rfl rfl _ cp (by simp) h1 (by simp [tcOf, thNext, fnOf, hk]) s1 (rfl)) rfl k1 (sub2 ht en m)
theorem q_r62 {p : PM} {en : Nat → Nat} {l : Int} {m : M} {w : World} (h : GAt p en l m w) (hI : m.Inv) {i t : Nat} (ht : p.ts[i]? = some t) (ho : ThOk m (m.ths i)) (hk : (m.ths i).kind = 3) (hat : (m.ths i).at_ = 62) : GDoes 105 p en l m t (m.replace i) w := by
  obtain ⟨cp, hcp, hb⟩ := h.ts i t ht
  have hop := ho.op
  have _ := hk
  unfold OpOk at hop
  rw [tcOf_busy (by omega)] at hb
  have hk0 : 0 ≤ (m.ths i).key := hop.2.2.1
  have hk7 : (m.ths i).key < 8 := by omega
  have hst : m.replace i = { m with hd := false, dirty := fun _ => -1 }.goes i 63 := by simp [M.replace, M.missed, hat]
  rw [hst]
  simp only [GDoes, M.goes]
  refine Calls.mono (p_l52 _ (shOf en m) t w hb h.s) ?_
  rintro e w' ⟨rfl, h1, s1, k1⟩
  exact gsome (o := ⟨false, false, 0, _⟩) (h.goTS hI ht k1 { m with hd := false, dirty := fun _ => -1 } rfl rfl rfl rfl rfl _ cp (by simp) h1 (by simp [tcOf, thNext, fnOf, hk]) s1 (by simp [shOf, ptrE])) rfl k1 (sub2 ht en m)
theorem q_r63 {p : PM} {en : Nat → Nat} {l : Int} {m : M} {w : World} (h : GAt p en l m w) (hI : m.Inv) {i t : Nat} (ht : p.ts[i]? = some t) (ho : ThOk m (m.ths i)) (hk : (m.ths i).kind = 3) (hat : (m.ths i).at_ = 63) : GDoes 106 p en l m t (m.replace i) w := by
  obtain ⟨cp, hcp, hb⟩ := h.ts i t ht
  have hop := ho.op
  have _ := hk
  unfold OpOk at hop
  rw [tcOf_busy (by omega)] at hb
  have hk0 : 0 ≤ (m.ths i).key := hop.2.2.1
  have hk7 : (m.ths i).key < 8 := by omega
  have hst : m.replace i = { m with mis := 0 }.goes i 7 := by simp [M.replace, M.missed, hat]
  rw [hst]
  simp only [GDoes, M.goes]
  refine Calls.mono (p_l53 _ (shOf en m) t w hb h.s) ?_
  rintro e w' ⟨rfl, h1, s1, k1⟩
  exact gsome (o := ⟨false, false, 0, _⟩) (h.goTS hI ht k1 { m with mis := 0 } rfl rfl rfl rfl rfl _ cp (by simp) h1 (by simp [tcOf, thNext, fnOf, hk]) s1 (rfl)) rfl k1 (sub2 ht en m)
theorem q_r7 {p : PM} {en : Nat → Nat} {l : Int} {m : M} {w : World} (h : GAt p en l m w) (hI : m.Inv) {i t : Nat} (ht : p.ts[i]? = some t) (ho : ThOk m (m.ths i)) (hk : (m.ths i).kind = 3) (hat : (m.ths i).at_ = 7) : GDoes 83 p en l m t (m.replace i) w := by
  obtain ⟨cp, hcp, hb⟩ := h.ts i t ht
  have hop := ho.op
  have _ := hk
  unfold OpOk at hop
  rw [tcOf_busy (by omega)] at hb
  have hk0 : 0 ≤ (m.ths i).key := hop.2.2.1
  have hk7 : (m.ths i).key < 8 := by omega
  have hst : m.replace i = m.frees i 8 := by simp [M.replace, hat]
  rw [hst]
  unfold M.frees
  by_cases hr : (m.ths i).e < 0
  · rw [if_pos hr]
    simp only [GDoes, M.ends]
    refine Calls.mono (p_l6_end _ (shOf en m) t w hb h.s (ptrE_none hr)) ?_
    rintro e w' ⟨rfl, h1, s1, k1⟩
    exact gsome (o := ⟨true, false, 0, _⟩) (h.goTS hI ht k1 { m with hol := -1 } rfl rfl rfl rfl rfl _ 0 (by simp) h1 (by simp [tcOf, Tc.idle]) s1 rfl) rfl k1 (sub2 ht en m)
  · rw [if_neg hr]
    simp only [GDoes, M.goes]
    refine Calls.mono (p_l6_on _ (shOf en m) t _ w hb h.s (ptrE_some (Int.not_lt.1 hr))) ?_
    rintro e w' ⟨rfl, h1, s1, k1⟩
    exact gsome (o := ⟨false, false, 0, _⟩) (h.goTS hI ht k1 { m with hol := -1 } rfl rfl rfl rfl rfl _ cp (by simp) h1 (by simp [tcOf, thNext, fnOf, firstAt, hk]) s1 (rfl)) rfl k1 (sub2 ht en m)
theorem q_d5 {p : PM} {en : Nat → Nat} {l : Int} {m : M} {w : World} (h : GAt p en l m w) (hI : m.Inv) {i t : Nat} (ht : p.ts[i]? = some t) (ho : ThOk m (m.ths i)) (hk : (m.ths i).kind = 2) (hat : (m.ths i).at_ = 5) : GDoes 97 p en l m t (m.remove i) w := by
  obtain ⟨cp, hcp, hb⟩ := h.ts i t ht
  have hop := ho.op
  have _ := hk
  unfold OpOk at hop
  rw [tcOf_busy (by omega)] at hb
  have hk0 : 0 ≤ (m.ths i).key := hop.2.2.1
  have hk7 : (m.ths i).key < 8 := by omega
  have hst : m.remove i = { m with dirty := put m.dirty (m.key i) (-1) }.goes i 6 := by simp [M.remove, hat]
  rw [hst]
  simp only [GDoes, M.goes]
  refine Calls.mono (p_d5 _ (shOf en m) t w hb h.s hk0 hk7) ?_
  rintro e w' ⟨rfl, h1, s1, k1⟩
  exact gsome (o := ⟨false, false, 0, _⟩) (h.goTS hI ht k1 { m with dirty := put m.dirty (m.key i) (-1) } rfl rfl rfl rfl rfl _ cp (by simp) h1 (by simp [tcOf, thNext, fnOf, hk]) s1 (shOf_put en m _ _)) rfl k1 (sub2 ht en m)
theorem q_d8 {p : PM} {en : Nat → Nat} {l : Int} {m : M} {w : World} (h : GAt p en l m w) (hI : m.Inv) {i t : Nat} (ht : p.ts[i]? = some t) (ho : ThOk m (m.ths i)) (hk : (m.ths i).kind = 2) (hat : (m.ths i).at_ = 8) : GDoes 70 p en l m t (m.remove i) w := by
  obtain ⟨cp, hcp, hb⟩ := h.ts i t ht
  have hop := ho.op
  have _ := hk
  unfold OpOk at hop
  rw [tcOf_busy (by omega)] at hb
  have hk0 : 0 ≤ (m.ths i).key := hop.2.2.1
  have hk7 : (m.ths i).key < 8 := by omega
  have he0 : 0 ≤ (m.ths i).e := ho.ne (by simp [NeedsE, hk, hat])
  have hel : (m.ths i).e.toNat < m.nc := by have := ho.e; omega
  have hE := h.es _ hel
  have hst : m.remove i = if (m.cells (m.ths i).e.toNat).st = 0 then (m.sees i (m.cells (m.ths i).e.toNat).st (m.cells (m.ths i).e.toNat).v).goes i 9 else (m.sees i (m.cells (m.ths i).e.toNat).st (m.cells (m.ths i).e.toNat).v).ends i false 0 := by simp [M.remove, hat]
  rw [hst]
  by_cases hx : (m.cells (m.ths i).e.toNat).st = 0
  · rw [if_pos hx]
    simp only [GDoes, M.goes, sees_thr]
    refine Calls.mono (p_d8_on _ t _ _ _ w hb hE (ptrE_some he0) hx) ?_
    rintro e w' ⟨rfl, h1, k1⟩
    exact gsome (o := ⟨false, false, 0, _⟩) (h.goT hI ht k1 _ cp (by simp) h1 (by simp [tcOf, thNext, fnOf, hk])) rfl k1 (sub1 ht en m)
  · rw [if_neg hx]
    simp only [GDoes, M.ends, sees_thr]
    refine Calls.mono (p_d8_none _ t _ _ _ w hb hE (ptrE_some he0) hx) ?_
    rintro e w' ⟨rfl, h1, k1⟩
    exact gsome (o := ⟨true, false, 0, _⟩) (h.goT hI ht k1 _ 0 (by simp) h1 (by simp [tcOf, Tc.idle])) rfl k1 (sub1 ht en m)
theorem q_d9 {p : PM} {en : Nat → Nat} {l : Int} {m : M} {w : World} (h : GAt p en l m w) (hI : m.Inv) {i t : Nat} (ht : p.ts[i]? = some t) (ho : ThOk m (m.ths i)) (hk : (m.ths i).kind = 2) (hat : (m.ths i).at_ = 9) : GDoes 81 p en l m t (m.remove i) w := by
  obtain ⟨cp, hcp, hb⟩ := h.ts i t ht
  have hop := ho.op
  have _ := hk
  unfold OpOk at hop
  rw [tcOf_busy (by omega)] at hb
  have hk0 : 0 ≤ (m.ths i).key := hop.2.2.1
  have hk7 : (m.ths i).key < 8 := by omega
  have he0 : 0 ≤ (m.ths i).e := ho.ne (by simp [NeedsE, hk, hat])
  have hel : (m.ths i).e.toNat < m.nc := by have := ho.e; omega
  have hE := h.es _ hel
  have hst : m.remove i = if (m.cells (m.ths i).e.toNat).st = (m.ths i).sst ∧ (m.cells (m.ths i).e.toNat).v = (m.ths i).sv then { m with cells := put m.cells (m.ths i).e.toNat ⟨1, 0⟩ }.ends i true (m.ths i).sv else m.goes i 8 := by simp [M.remove, hat]
  rw [hst]
  by_cases hx : (m.cells (m.ths i).e.toNat).st = (m.ths i).sst ∧ (m.cells (m.ths i).e.toNat).v = (m.ths i).sv
  · rw [if_pos hx]
    simp only [GDoes, M.ends]
    refine Calls.mono (p_d9_yes _ t _ _ _ w hb hE (ptrE_some he0) hx.1 hx.2) ?_
    rintro e w' ⟨rfl, h1, e1, k1⟩
    exact gsome (o := ⟨true, true, (m.ths i).sv, _⟩) (h.goTE hI ht hel k1 1 0 _ 0 (by simp) h1 (by simp [tcOf, Tc.idle]) e1) rfl k1 (sub3 ht en hel)
  · rw [if_neg hx]
    simp only [GDoes, M.goes]
    refine Calls.mono (p_d9_no _ t _ _ _ w hb hE (ptrE_some he0) hx) ?_
    rintro e w' ⟨rfl, h1, k1⟩
    exact gsome (o := ⟨false, false, 0, _⟩) (h.goT hI ht k1 _ cp (by simp) h1 (by simp [tcOf, thNext, fnOf, hk])) rfl k1 (sub1 ht en m)
theorem q_r8 {p : PM} {en : Nat → Nat} {l : Int} {m : M} {w : World} (h : GAt p en l m w) (hI : m.Inv) {i t : Nat} (ht : p.ts[i]? = some t) (ho : ThOk m (m.ths i)) (hk : (m.ths i).kind = 3) (hat : (m.ths i).at_ = 8) : GDoes 71 p en l m t (m.replace i) w := by
  obtain ⟨cp, hcp, hb⟩ := h.ts i t ht
  have hop := ho.op
  have _ := hk
  unfold OpOk at hop
  rw [tcOf_busy (by omega)] at hb
  have hk0 : 0 ≤ (m.ths i).key := hop.2.2.1
  have hk7 : (m.ths i).key < 8 := by omega
  have he0 : 0 ≤ (m.ths i).e := ho.ne (by simp [NeedsE, hk, hat])
  have hel : (m.ths i).e.toNat < m.nc := by have := ho.e; omega
  have hE := h.es _ hel
  have hst : m.replace i = if (m.cells (m.ths i).e.toNat).st = 0 ∧ (m.cells (m.ths i).e.toNat).v = (m.ths i).old then m.goes i 9 else m.ends i false 0 := by simp [M.replace, hat]
  rw [hst]
  by_cases hx : (m.cells (m.ths i).e.toNat).st = 0 ∧ (m.cells (m.ths i).e.toNat).v = (m.ths i).old
  · rw [if_pos hx]
    simp only [GDoes, M.goes]
    refine Calls.mono (p_r8_on _ t _ _ _ w hb hE (ptrE_some he0) hx.1 hx.2) ?_
    rintro e w' ⟨rfl, h1, k1⟩
    exact gsome (o := ⟨false, false, 0, _⟩) (h.goT hI ht k1 _ cp (by simp) h1 (by simp [tcOf, thNext, fnOf, hk])) rfl k1 (sub1 ht en m)
  · rw [if_neg hx]
    simp only [GDoes, M.ends]
    refine Calls.mono (p_r8_none _ t _ _ _ w hb hE (ptrE_some he0) hx) ?_
    rintro e w' ⟨rfl, h1, k1⟩
    exact gsome (o := ⟨true, false, 0, _⟩) (h.goT hI ht k1 _ 0 (by simp) h1 (by simp [tcOf, Tc.idle])) rfl k1 (sub1 ht en m)
theorem q_r9 {p : PM} {en : Nat → Nat} {l : Int} {m : M} {w : World} (h : GAt p en l m w) (hI : m.Inv) {i t : Nat} (ht : p.ts[i]? = some t) (ho : ThOk m (m.ths i)) (hk : (m.ths i).kind = 3) (hat : (m.ths i).at_ = 9) : GDoes 82 p en l m t (m.replace i) w := by
  obtain ⟨cp, hcp, hb⟩ := h.ts i t ht
  have hop := ho.op
  have _ := hk
  unfold OpOk at hop
  rw [tcOf_busy (by omega)] at hb
  have hk0 : 0 ≤ (m.ths i).key := hop.2.2.1
  have hk7 : (m.ths i).key < 8 := by omega
  have he0 : 0 ≤ (m.ths i).e := ho.ne (by simp [NeedsE, hk, hat])
  have hel : (m.ths i).e.toNat < m.nc := by have := ho.e; omega
  have hE := h.es _ hel
  have hst : m.replace i = if (m.cells (m.ths i).e.toNat).st = 0 ∧ (m.cells (m.ths i).e.toNat).v = (m.ths i).old then { m with cells := put m.cells (m.ths i).e.toNat ⟨0, (m.ths i).val⟩ }.ends i true (m.ths i).old else m.goes i 8 := by simp [M.replace, hat]
  rw [hst]
  by_cases hx : (m.cells (m.ths i).e.toNat).st = 0 ∧ (m.cells (m.ths i).e.toNat).v = (m.ths i).old
  · rw [if_pos hx]
    simp only [GDoes, M.ends]
    refine Calls.mono (p_r9_yes _ t _ _ _ w hb hE (ptrE_some he0) hx.1 hx.2) ?_
    rintro e w' ⟨rfl, h1, e1, k1⟩
    exact gsome (o := ⟨true, true, (m.ths i).old, _⟩) (h.goTE hI ht hel k1 0 (m.ths i).val _ 0 (by simp) h1 (by simp [tcOf, Tc.idle]) e1) rfl k1 (sub3 ht en hel)
  · rw [if_neg hx]
    simp only [GDoes, M.goes]
    refine Calls.mono (p_r9_no _ t _ _ _ w hb hE (ptrE_some he0) hx) ?_
    rintro e w' ⟨rfl, h1, k1⟩
    exact gsome (o := ⟨false, false, 0, _⟩) (h.goT hI ht k1 _ cp (by simp) h1 (by simp [tcOf, thNext, fnOf, hk])) rfl k1 (sub1 ht en m)
end Go.Proofs.Ytmnkphenobfbfaa
namespace Go.Proofs.Ytmnkphenobfbfaa
open Go.RowKit
/-- What a step leaves; none: it is blocked. -/
def GAns (p : PM) (en : Nat → Nat) (l : Int) (m : M) (w : World) (o : Option Out) (e : Ending) (w' : World) : Prop :=
  match o with
  | none => e = .returned (ans false false 0 4) ∧ Kept [] w w'
  | some o => GSome p en l m w o e w'
theorem g_step_0 {p : PM} {en : Nat → Nat} {l : Int} {m : M} {w : World} (h : GAt p en l m w) (hI : m.Inv) {i t : Nat} (ht : p.ts[i]? = some t) (ho : ThOk m (m.ths i)) (hk : (m.ths i).kind = 0) :
    Calls Try.prog (fnOf (m.ths i).kind (m.ths i).at_) #[.pointer (some ⟨t, 0, none⟩)] w (GAns p en l m w (m.does i)) := by
  have hak := ho.ak
  have ha : (m.ths i).at_ = 2 ∨ (m.ths i).at_ = 1 ∨ (m.ths i).at_ = 3 ∨ (m.ths i).at_ = 4 ∨ (m.ths i).at_ = 5 ∨ (m.ths i).at_ = 6 ∨ (m.ths i).at_ = 7 ∨ (m.ths i).at_ = 51 ∨ (m.ths i).at_ = 52 ∨ (m.ths i).at_ = 53 := by
    have : ((1 ≤ (m.ths i).at_ ∧ (m.ths i).at_ ≤ 7) ∨ (51 ≤ (m.ths i).at_ ∧ (m.ths i).at_ ≤ 53)) := by simpa [AtOk, hk] using hak
    omega
  have hl : m.lockAt i = 2 := by simp [M.lockAt, hk]
  have hd : ¬ (m.ths i).at_ = 2 → m.does i = some (m.load i) := fun e => by unfold M.does; rw [hl, if_neg e, if_pos hk]
  rcases ha with e | e
  · have hfn : fnOf (m.ths i).kind (m.ths i).at_ = 66 := by simp [fnOf, hk, e]
    rw [hfn]
    have hdo : m.does i = if 0 ≤ m.hol then none else some ({ m with hol := i }.goes i 3) := by unfold M.does; rw [hl, if_pos e]; rfl
    rw [hdo]
    by_cases hf : 0 ≤ m.hol
    · rw [if_pos hf]; exact q_l2_no h ht ho hk e hf
    · rw [if_neg hf]; exact q_l2 h hI ht ho hk e (Int.not_le.1 hf)
  · have hne : ¬ (m.ths i).at_ = 2 := by omega
    rw [hd hne]
    rcases e with e | e | e | e | e | e | e | e | e
    · have hfn : fnOf (m.ths i).kind (m.ths i).at_ = 51 := by simp [fnOf, hk, e]
      rw [hfn]; exact q_l1 h hI ht ho hk e
    · have hfn : fnOf (m.ths i).kind (m.ths i).at_ = 74 := by simp [fnOf, hk, e]
      rw [hfn]; exact q_l3 h hI ht ho hk e
    · have hfn : fnOf (m.ths i).kind (m.ths i).at_ = 84 := by simp [fnOf, hk, e]
      rw [hfn]; exact q_l4 h hI ht ho hk e
    · have hfn : fnOf (m.ths i).kind (m.ths i).at_ = 98 := by simp [fnOf, hk, e]
      rw [hfn]; exact q_l5 h hI ht ho hk e
    · have hfn : fnOf (m.ths i).kind (m.ths i).at_ = 83 := by simp [fnOf, hk, e]
      rw [hfn]; exact q_l6 h hI ht ho hk e
    · have hfn : fnOf (m.ths i).kind (m.ths i).at_ = 72 := by simp [fnOf, hk, e]
      rw [hfn]; exact q_l7 h hI ht ho hk e
    · have hfn : fnOf (m.ths i).kind (m.ths i).at_ = 103 := by simp [fnOf, hk, e]
      rw [hfn]; exact q_l51 h hI ht ho hk e
    · have hfn : fnOf (m.ths i).kind (m.ths i).at_ = 105 := by simp [fnOf, hk, e]
      rw [hfn]; exact q_l52 h hI ht ho hk e
    · have hfn : fnOf (m.ths i).kind (m.ths i).at_ = 106 := by simp [fnOf, hk, e]
      rw [hfn]; exact q_l53 h hI ht ho hk e
theorem g_step_1 {p : PM} {en : Nat → Nat} {l : Int} {m : M} {w : World} (h : GAt p en l m w) (hI : m.Inv) {i t : Nat} (ht : p.ts[i]? = some t) (ho : ThOk m (m.ths i)) (hk : (m.ths i).kind = 1) :
    Calls Try.prog (fnOf (m.ths i).kind (m.ths i).at_) #[.pointer (some ⟨t, 0, none⟩)] w (GAns p en l m w (m.does i)) := by
  have hak := ho.ak
  have ha : (m.ths i).at_ = 4 ∨ (m.ths i).at_ = 1 ∨ (m.ths i).at_ = 2 ∨ (m.ths i).at_ = 3 ∨ (m.ths i).at_ = 5 ∨ (m.ths i).at_ = 6 ∨ (m.ths i).at_ = 7 ∨ (m.ths i).at_ = 8 ∨ (m.ths i).at_ = 9 ∨ (m.ths i).at_ = 10 ∨ (m.ths i).at_ = 11 ∨ (m.ths i).at_ = 12 ∨ (m.ths i).at_ = 13 ∨ (m.ths i).at_ = 14 := by
    have : 1 ≤ (m.ths i).at_ ∧ (m.ths i).at_ ≤ 14 := by simpa [AtOk, hk] using hak
    omega
  have hl : m.lockAt i = 4 := by simp [M.lockAt, hk]
  have hd : ¬ (m.ths i).at_ = 4 → m.does i = some (m.store i) := fun e => by unfold M.does; rw [hl, if_neg e, if_neg (by omega), if_pos hk]
  rcases ha with e | e
  · have hfn : fnOf (m.ths i).kind (m.ths i).at_ = 62 := by simp [fnOf, hk, e]
    rw [hfn]
    have hdo : m.does i = if 0 ≤ m.hol then none else some ({ m with hol := i }.goes i 5) := by unfold M.does; rw [hl, if_pos e]; rfl
    rw [hdo]
    by_cases hf : 0 ≤ m.hol
    · rw [if_pos hf]; exact q_s4_no h ht ho hk e hf
    · rw [if_neg hf]; exact q_s4 h hI ht ho hk e (Int.not_le.1 hf)
  · have hne : ¬ (m.ths i).at_ = 4 := by omega
    rw [hd hne]
    rcases e with e | e | e | e | e | e | e | e | e | e | e | e | e
    · have hfn : fnOf (m.ths i).kind (m.ths i).at_ = 50 := by simp [fnOf, hk, e]
      rw [hfn]; exact q_s1 h hI ht ho hk e
    · have hfn : fnOf (m.ths i).kind (m.ths i).at_ = 63 := by simp [fnOf, hk, e]
      rw [hfn]; exact q_s2 h hI ht ho hk e
    · have hfn : fnOf (m.ths i).kind (m.ths i).at_ = 69 := by simp [fnOf, hk, e]
      rw [hfn]; exact q_s3 h hI ht ho hk e
    · have hfn : fnOf (m.ths i).kind (m.ths i).at_ = 68 := by simp [fnOf, hk, e]
      rw [hfn]; exact q_s5 h hI ht ho hk e
    · have hfn : fnOf (m.ths i).kind (m.ths i).at_ = 77 := by simp [fnOf, hk, e]
      rw [hfn]; exact q_s6 h hI ht ho hk e
    · have hfn : fnOf (m.ths i).kind (m.ths i).at_ = 88 := by simp [fnOf, hk, e]
      rw [hfn]; exact q_s7 h hI ht ho hk e
    · have hfn : fnOf (m.ths i).kind (m.ths i).at_ = 76 := by simp [fnOf, hk, e]
      rw [hfn]; exact q_s8 h hI ht ho hk e
    · have hfn : fnOf (m.ths i).kind (m.ths i).at_ = 87 := by simp [fnOf, hk, e]
      rw [hfn]; exact q_s9 h hI ht ho hk e
    · have hfn : fnOf (m.ths i).kind (m.ths i).at_ = 101 := by simp [fnOf, hk, e]
      rw [hfn]; exact q_s10 h hI ht ho hk e
    · have hfn : fnOf (m.ths i).kind (m.ths i).at_ = 100 := by simp [fnOf, hk, e]
      rw [hfn]; exact q_s11 h hI ht ho hk e
    · have hfn : fnOf (m.ths i).kind (m.ths i).at_ = 86 := by simp [fnOf, hk, e]
      rw [hfn]; exact q_s12 h hI ht ho hk e
    · have hfn : fnOf (m.ths i).kind (m.ths i).at_ = 85 := by simp [fnOf, hk, e]
      rw [hfn]; exact q_s13 h hI ht ho hk e
    · have hfn : fnOf (m.ths i).kind (m.ths i).at_ = 92 := by simp [fnOf, hk, e]
      rw [hfn]; exact q_s14 h hI ht ho hk e
theorem g_step_2 {p : PM} {en : Nat → Nat} {l : Int} {m : M} {w : World} (h : GAt p en l m w) (hI : m.Inv) {i t : Nat} (ht : p.ts[i]? = some t) (ho : ThOk m (m.ths i)) (hk : (m.ths i).kind = 2) :
    Calls Try.prog (fnOf (m.ths i).kind (m.ths i).at_) #[.pointer (some ⟨t, 0, none⟩)] w (GAns p en l m w (m.does i)) := by
  have hak := ho.ak
  have ha : (m.ths i).at_ = 2 ∨ (m.ths i).at_ = 1 ∨ (m.ths i).at_ = 3 ∨ (m.ths i).at_ = 4 ∨ (m.ths i).at_ = 5 ∨ (m.ths i).at_ = 6 ∨ (m.ths i).at_ = 7 ∨ (m.ths i).at_ = 8 ∨ (m.ths i).at_ = 9 ∨ (m.ths i).at_ = 61 ∨ (m.ths i).at_ = 62 ∨ (m.ths i).at_ = 63 := by
    have : ((1 ≤ (m.ths i).at_ ∧ (m.ths i).at_ ≤ 9) ∨ (61 ≤ (m.ths i).at_ ∧ (m.ths i).at_ ≤ 63)) := by simpa [AtOk, hk] using hak
    omega
  have hl : m.lockAt i = 2 := by simp [M.lockAt, hk]
  have hd : ¬ (m.ths i).at_ = 2 → m.does i = some (m.remove i) := fun e => by unfold M.does; rw [hl, if_neg e, if_neg (by omega), if_neg (by omega), if_pos hk]
  rcases ha with e | e
  · have hfn : fnOf (m.ths i).kind (m.ths i).at_ = 66 := by simp [fnOf, hk, e]
    rw [hfn]
    have hdo : m.does i = if 0 ≤ m.hol then none else some ({ m with hol := i }.goes i 3) := by unfold M.does; rw [hl, if_pos e]; rfl
    rw [hdo]
    by_cases hf : 0 ≤ m.hol
    · rw [if_pos hf]; exact q_d2_no h ht ho hk e hf
    · rw [if_neg hf]; exact q_d2 h hI ht ho hk e (Int.not_le.1 hf)
  · have hne : ¬ (m.ths i).at_ = 2 := by omega
    rw [hd hne]
    rcases e with e | e | e | e | e | e | e | e | e | e | e
    · have hfn : fnOf (m.ths i).kind (m.ths i).at_ = 51 := by simp [fnOf, hk, e]
      rw [hfn]; exact q_d1 h hI ht ho hk e
    · have hfn : fnOf (m.ths i).kind (m.ths i).at_ = 74 := by simp [fnOf, hk, e]
      rw [hfn]; exact q_d3 h hI ht ho hk e
    · have hfn : fnOf (m.ths i).kind (m.ths i).at_ = 84 := by simp [fnOf, hk, e]
      rw [hfn]; exact q_d4 h hI ht ho hk e
    · have hfn : fnOf (m.ths i).kind (m.ths i).at_ = 97 := by simp [fnOf, hk, e]
      rw [hfn]; exact q_d5 h hI ht ho hk e
    · have hfn : fnOf (m.ths i).kind (m.ths i).at_ = 98 := by simp [fnOf, hk, e]
      rw [hfn]; exact q_d6 h hI ht ho hk e
    · have hfn : fnOf (m.ths i).kind (m.ths i).at_ = 83 := by simp [fnOf, hk, e]
      rw [hfn]; exact q_d7 h hI ht ho hk e
    · have hfn : fnOf (m.ths i).kind (m.ths i).at_ = 70 := by simp [fnOf, hk, e]
      rw [hfn]; exact q_d8 h hI ht ho hk e
    · have hfn : fnOf (m.ths i).kind (m.ths i).at_ = 81 := by simp [fnOf, hk, e]
      rw [hfn]; exact q_d9 h hI ht ho hk e
    · have hfn : fnOf (m.ths i).kind (m.ths i).at_ = 103 := by simp [fnOf, hk, e]
      rw [hfn]; exact q_d61 h hI ht ho hk e
    · have hfn : fnOf (m.ths i).kind (m.ths i).at_ = 105 := by simp [fnOf, hk, e]
      rw [hfn]; exact q_d62 h hI ht ho hk e
    · have hfn : fnOf (m.ths i).kind (m.ths i).at_ = 106 := by simp [fnOf, hk, e]
      rw [hfn]; exact q_d63 h hI ht ho hk e
theorem g_step_3 {p : PM} {en : Nat → Nat} {l : Int} {m : M} {w : World} (h : GAt p en l m w) (hI : m.Inv) {i t : Nat} (ht : p.ts[i]? = some t) (ho : ThOk m (m.ths i)) (hk : (m.ths i).kind = 3) :
    Calls Try.prog (fnOf (m.ths i).kind (m.ths i).at_) #[.pointer (some ⟨t, 0, none⟩)] w (GAns p en l m w (m.does i)) := by
  have hak := ho.ak
  have ha : (m.ths i).at_ = 2 ∨ (m.ths i).at_ = 1 ∨ (m.ths i).at_ = 3 ∨ (m.ths i).at_ = 4 ∨ (m.ths i).at_ = 6 ∨ (m.ths i).at_ = 7 ∨ (m.ths i).at_ = 8 ∨ (m.ths i).at_ = 9 ∨ (m.ths i).at_ = 61 ∨ (m.ths i).at_ = 62 ∨ (m.ths i).at_ = 63 := by
    have : ((1 ≤ (m.ths i).at_ ∧ (m.ths i).at_ ≤ 4) ∨ (6 ≤ (m.ths i).at_ ∧ (m.ths i).at_ ≤ 9) ∨ (61 ≤ (m.ths i).at_ ∧ (m.ths i).at_ ≤ 63)) := by simpa [AtOk, hk] using hak
    omega
  have hl : m.lockAt i = 2 := by simp [M.lockAt, hk]
  have hd : ¬ (m.ths i).at_ = 2 → m.does i = some (m.replace i) := fun e => by unfold M.does; rw [hl, if_neg e, if_neg (by omega), if_neg (by omega), if_neg (by omega)]
  rcases ha with e | e
  · have hfn : fnOf (m.ths i).kind (m.ths i).at_ = 66 := by simp [fnOf, hk, e]
    rw [hfn]
    have hdo : m.does i = if 0 ≤ m.hol then none else some ({ m with hol := i }.goes i 3) := by unfold M.does; rw [hl, if_pos e]; rfl
    rw [hdo]
    by_cases hf : 0 ≤ m.hol
    · rw [if_pos hf]; exact q_r2_no h ht ho hk e hf
    · rw [if_neg hf]; exact q_r2 h hI ht ho hk e (Int.not_le.1 hf)
  · have hne : ¬ (m.ths i).at_ = 2 := by omega
    rw [hd hne]
    rcases e with e | e | e | e | e | e | e | e | e | e
    · have hfn : fnOf (m.ths i).kind (m.ths i).at_ = 51 := by simp [fnOf, hk, e]
      rw [hfn]; exact q_r1 h hI ht ho hk e
    · have hfn : fnOf (m.ths i).kind (m.ths i).at_ = 74 := by simp [fnOf, hk, e]
      rw [hfn]; exact q_r3 h hI ht ho hk e
    · have hfn : fnOf (m.ths i).kind (m.ths i).at_ = 84 := by simp [fnOf, hk, e]
      rw [hfn]; exact q_r4 h hI ht ho hk e
    · have hfn : fnOf (m.ths i).kind (m.ths i).at_ = 98 := by simp [fnOf, hk, e]
      rw [hfn]; exact q_r6 h hI ht ho hk e
    · have hfn : fnOf (m.ths i).kind (m.ths i).at_ = 83 := by simp [fnOf, hk, e]
      rw [hfn]; exact q_r7 h hI ht ho hk e
    · have hfn : fnOf (m.ths i).kind (m.ths i).at_ = 71 := by simp [fnOf, hk, e]
      rw [hfn]; exact q_r8 h hI ht ho hk e
    · have hfn : fnOf (m.ths i).kind (m.ths i).at_ = 82 := by simp [fnOf, hk, e]
      rw [hfn]; exact q_r9 h hI ht ho hk e
    · have hfn : fnOf (m.ths i).kind (m.ths i).at_ = 103 := by simp [fnOf, hk, e]
      rw [hfn]; exact q_r61 h hI ht ho hk e
    · have hfn : fnOf (m.ths i).kind (m.ths i).at_ = 105 := by simp [fnOf, hk, e]
      rw [hfn]; exact q_r62 h hI ht ho hk e
    · have hfn : fnOf (m.ths i).kind (m.ths i).at_ = 106 := by simp [fnOf, hk, e]
      rw [hfn]; exact q_r63 h hI ht ho hk e
theorem g_step {p : PM} {en : Nat → Nat} {l : Int} {m : M} {w : World} (h : GAt p en l m w) (hI : m.Inv) {i t : Nat} (ht : p.ts[i]? = some t) (ho : ThOk m (m.ths i)) :
    Calls Try.prog (fnOf (m.ths i).kind (m.ths i).at_) #[.pointer (some ⟨t, 0, none⟩)] w (GAns p en l m w (m.does i)) := by
  have hop := ho.op
  unfold OpOk at hop
  have hkd : (m.ths i).kind = 0 ∨ (m.ths i).kind = 1 ∨ (m.ths i).kind = 2 ∨ (m.ths i).kind = 3 := by omega
  rcases hkd with hk | hk | hk | hk
  · exact g_step_0 h hI ht ho hk
  · exact g_step_1 h hI ht ho hk
  · exact g_step_2 h hI ht ho hk
  · exact g_step_3 h hI ht ho hk
end Go.Proofs.Ytmnkphenobfbfaa
namespace Go.Proofs.Ytmnkphenobfbfaa
open Go.RowKit Go.MuLone
theorem GAt.kept {p : PM} {en : Nat → Nat} {l : Int} {m : M} {w w' : World} {F : List Nat} (h : GAt p en l m w) (k : Kept F w w') (h1 : p.m ∉ F) (h2 : p.c ∉ F) (h3 : p.s ∉ F) (h4 : p.tb ∉ F) (h5 : ∀ (i t : Nat), p.ts[i]? = some t → t ∉ F) (h6 : ∀ j, j < m.nc → en j ∉ F) : GAt p en l m w' := by
  obtain ⟨cs, g1, g2⟩ := h.tb
  refine ⟨h.len, h.nth, h.cap, k.at h.mp h1, k.at h.c h2, k.at h.s h3, ⟨cs, k.at g1 h4, g2⟩, fun i t ht => ?_, fun j hj => k.at (h.es j hj) (h6 j hj), h.inj⟩
  obtain ⟨cp, a, b⟩ := h.ts i t ht
  exact ⟨cp, a, k.at b (h5 i t ht)⟩
theorem GAt.keptNil {p : PM} {en : Nat → Nat} {l : Int} {m : M} {w w' : World} (h : GAt p en l m w) (k : Kept [] w w') : GAt p en l m w' :=
  h.kept k (by simp) (by simp) (by simp) (by simp) (fun _ _ _ => by simp) (fun _ _ => by simp)
theorem GAt.alloc {p : PM} {en : Nat → Nat} {l : Int} {m : M} {w : World} (h : GAt p en l m w) (o : Obj) : GAt p en l m (w.alloc o) := h.keptNil ((Kept.refl [] w).alloc o)
theorem GAt.drew {p : PM} {en : Nat → Nat} {l : Int} {m : M} {w : World} (h : GAt p en l m w) : GAt p en l m w.drew := h.keptNil (Kept.refl [] w).drew
/-- A cell of a block that is none of the map's. -/
theorem GAt.set {p : PM} {en : Nat → Nat} {l : Int} {m : M} {w : World} (h : GAt p en l m w) {b : Nat} {cs : Array Value} {T : TypeId} {z : Nat × Nat}
    (hb : w.heap[b]? = some (.cells cs T z)) (h1 : T ≠ 74) (h2 : T ≠ 97) (h3 : T ≠ 75) (h4 : T ≠ 103) (h5 : T ≠ 124) (o : Nat) (v : Value) : GAt p en l m (w.setCell ⟨b, o, none⟩ v) := by
  obtain ⟨cs', g1, g2⟩ := h.tb
  refine h.kept (F := [b]) ((Kept.refl [b] w).setCell (.inl (by simp)) v) ?_ ?_ ?_ ?_ ?_ ?_
  · simpa using ne_of_blocks h.mp hb (by intro e; injection e with _ e2 _; exact h1 e2.symm)
  · simpa using ne_of_blocks h.c hb (by simp)
  · simpa using ne_of_blocks h.s hb (by intro e; injection e with _ e2 _; exact h2 e2.symm)
  · simpa using ne_of_blocks g1 hb (by intro e; injection e with _ e2 _; exact h3 e2.symm)
  · intro i t ht
    obtain ⟨cp, _, c⟩ := h.ts i t ht
    simpa using ne_of_blocks c hb (by intro e; injection e with _ e2 _; exact h4 e2.symm)
  · intro j hj
    simpa using ne_of_blocks (h.es j hj) hb (by intro e; injection e with _ e2 _; exact h5 e2.symm)
/-- The lock's word is another. -/
theorem GAt.lock {p : PM} {en : Nat → Nat} {l : Int} {m : M} {w : World} (h : GAt p en l m w) (l' : Int) : GAt p en l' m (w.setCell ⟨p.m, 0, none⟩ (.int .i32 l')) := by
  obtain ⟨cs, g1, g2⟩ := h.tb
  refine ⟨h.len, h.nth, h.cap, ?_, ?_, ?_, ⟨cs, ?_, g2⟩, fun i t ht => ?_, fun j hj => ?_, h.inj⟩
  · rw [block_set_same h.mp]; simp [pmCells]
  · exact block_set_ne h.c (ne_of_blocks h.c h.mp (by simp)) _ _
  · exact block_set_ne h.s (ne_of_blocks h.s h.mp (by simp)) _ _
  · exact block_set_ne g1 (ne_of_blocks g1 h.mp (by simp)) _ _
  · obtain ⟨cp, a, b⟩ := h.ts i t ht
    exact ⟨cp, a, block_set_ne b (ne_of_blocks b h.mp (by simp)) _ _⟩
  · exact block_set_ne (h.es j hj) (ne_of_blocks (h.es j hj) h.mp (by simp)) _ _
theorem GAt.fp_lt {p : PM} {en : Nat → Nat} {l : Int} {m : M} {w : World} (h : GAt p en l m w) : ∀ x, x ∈ fp p en m → x < w.heap.size := by
  intro x hx
  simp only [fp, List.mem_cons, List.mem_append, List.mem_map, List.mem_range] at hx
  rcases hx with rfl | hx | ⟨j, hj, rfl⟩
  · exact lt_of_block h.s
  · obtain ⟨i, hi⟩ := List.mem_iff_getElem?.1 hx
    obtain ⟨_, _, c⟩ := h.ts i x hi
    exact lt_of_block c
  · exact lt_of_block (h.es j hj)
/-- What a call of Step leaves. -/
def GRes (p : PM) (en : Nat → Nat) (l : Int) (m : M) (F : List Nat) (w : World) (a : Ans) (e : Ending) (w' : World) : Prop :=
  e = .returned (ans a.o.d a.o.f a.o.v a.err) ∧ ∃ en', GAt p en' l a.o.m w' ∧ (∀ j, j < m.nc → en' j = en j) ∧ (∀ j, m.nc ≤ j → j < a.o.m.nc → w.heap.size ≤ en' j) ∧ Kept F w w'
def M.ansOf (m : M) (i : Nat) : Ans := match m.does i with
  | none => m.still 4
  | some o => ⟨0, o⟩
theorem g_step' {p : PM} {en : Nat → Nat} {l : Int} {m : M} {w : World} (h : GAt p en l m w) (hI : m.Inv) {i t : Nat} (ht : p.ts[i]? = some t) (ho : ThOk m (m.ths i)) :
    Calls Try.prog (fnOf (m.ths i).kind (m.ths i).at_) #[.pointer (some ⟨t, 0, none⟩)] w (GRes p en l m (fp p en m) w (m.ansOf i)) := by
  refine Calls.mono (g_step h hI ht ho) ?_
  intro e w' hh
  unfold M.ansOf
  cases hd : m.does i with
  | none =>
    rw [hd] at hh
    obtain ⟨rfl, k⟩ := hh
    exact ⟨rfl, en, h.keptNil k, fun _ _ => rfl, fun j h1 h2 => absurd h2 (by show ¬ j < m.nc; omega), k.mono (by simp)⟩
  | some o =>
    rw [hd] at hh
    exact hh
theorem ent50 (args : Array Value) (w : World) : (callFunc 50 args).run Try.prog w = .ok (.enter 50 args) w := run_callFunc_enter Try.func50 (by kernel_rfl) rfl args w
theorem ent51 (args : Array Value) (w : World) : (callFunc 51 args).run Try.prog w = .ok (.enter 51 args) w := run_callFunc_enter Try.func51 (by kernel_rfl) rfl args w
theorem ent62 (args : Array Value) (w : World) : (callFunc 62 args).run Try.prog w = .ok (.enter 62 args) w := run_callFunc_enter Try.func62 (by kernel_rfl) rfl args w
theorem ent63 (args : Array Value) (w : World) : (callFunc 63 args).run Try.prog w = .ok (.enter 63 args) w := run_callFunc_enter Try.func63 (by kernel_rfl) rfl args w
theorem ent66 (args : Array Value) (w : World) : (callFunc 66 args).run Try.prog w = .ok (.enter 66 args) w := run_callFunc_enter Try.func66 (by kernel_rfl) rfl args w
theorem ent68 (args : Array Value) (w : World) : (callFunc 68 args).run Try.prog w = .ok (.enter 68 args) w := run_callFunc_enter Try.func68 (by kernel_rfl) rfl args w
theorem ent69 (args : Array Value) (w : World) : (callFunc 69 args).run Try.prog w = .ok (.enter 69 args) w := run_callFunc_enter Try.func69 (by kernel_rfl) rfl args w
theorem ent70 (args : Array Value) (w : World) : (callFunc 70 args).run Try.prog w = .ok (.enter 70 args) w := run_callFunc_enter Try.func70 (by kernel_rfl) rfl args w
theorem ent71 (args : Array Value) (w : World) : (callFunc 71 args).run Try.prog w = .ok (.enter 71 args) w := run_callFunc_enter Try.func71 (by kernel_rfl) rfl args w
theorem ent72 (args : Array Value) (w : World) : (callFunc 72 args).run Try.prog w = .ok (.enter 72 args) w := run_callFunc_enter Try.func72 (by kernel_rfl) rfl args w
theorem ent74 (args : Array Value) (w : World) : (callFunc 74 args).run Try.prog w = .ok (.enter 74 args) w := run_callFunc_enter Try.func74 (by kernel_rfl) rfl args w
theorem ent76 (args : Array Value) (w : World) : (callFunc 76 args).run Try.prog w = .ok (.enter 76 args) w := run_callFunc_enter Try.func76 (by kernel_rfl) rfl args w
theorem ent77 (args : Array Value) (w : World) : (callFunc 77 args).run Try.prog w = .ok (.enter 77 args) w := run_callFunc_enter Try.func77 (by kernel_rfl) rfl args w
theorem ent81 (args : Array Value) (w : World) : (callFunc 81 args).run Try.prog w = .ok (.enter 81 args) w := run_callFunc_enter Try.func81 (by kernel_rfl) rfl args w
theorem ent82 (args : Array Value) (w : World) : (callFunc 82 args).run Try.prog w = .ok (.enter 82 args) w := run_callFunc_enter Try.func82 (by kernel_rfl) rfl args w
theorem ent83 (args : Array Value) (w : World) : (callFunc 83 args).run Try.prog w = .ok (.enter 83 args) w := run_callFunc_enter Try.func83 (by kernel_rfl) rfl args w
theorem ent84 (args : Array Value) (w : World) : (callFunc 84 args).run Try.prog w = .ok (.enter 84 args) w := run_callFunc_enter Try.func84 (by kernel_rfl) rfl args w
theorem ent85 (args : Array Value) (w : World) : (callFunc 85 args).run Try.prog w = .ok (.enter 85 args) w := run_callFunc_enter Try.func85 (by kernel_rfl) rfl args w
theorem ent86 (args : Array Value) (w : World) : (callFunc 86 args).run Try.prog w = .ok (.enter 86 args) w := run_callFunc_enter Try.func86 (by kernel_rfl) rfl args w
theorem ent87 (args : Array Value) (w : World) : (callFunc 87 args).run Try.prog w = .ok (.enter 87 args) w := run_callFunc_enter Try.func87 (by kernel_rfl) rfl args w
theorem ent88 (args : Array Value) (w : World) : (callFunc 88 args).run Try.prog w = .ok (.enter 88 args) w := run_callFunc_enter Try.func88 (by kernel_rfl) rfl args w
theorem ent92 (args : Array Value) (w : World) : (callFunc 92 args).run Try.prog w = .ok (.enter 92 args) w := run_callFunc_enter Try.func92 (by kernel_rfl) rfl args w
theorem ent97 (args : Array Value) (w : World) : (callFunc 97 args).run Try.prog w = .ok (.enter 97 args) w := run_callFunc_enter Try.func97 (by kernel_rfl) rfl args w
theorem ent98 (args : Array Value) (w : World) : (callFunc 98 args).run Try.prog w = .ok (.enter 98 args) w := run_callFunc_enter Try.func98 (by kernel_rfl) rfl args w
theorem ent100 (args : Array Value) (w : World) : (callFunc 100 args).run Try.prog w = .ok (.enter 100 args) w := run_callFunc_enter Try.func100 (by kernel_rfl) rfl args w
theorem ent101 (args : Array Value) (w : World) : (callFunc 101 args).run Try.prog w = .ok (.enter 101 args) w := run_callFunc_enter Try.func101 (by kernel_rfl) rfl args w
theorem ent103 (args : Array Value) (w : World) : (callFunc 103 args).run Try.prog w = .ok (.enter 103 args) w := run_callFunc_enter Try.func103 (by kernel_rfl) rfl args w
theorem ent105 (args : Array Value) (w : World) : (callFunc 105 args).run Try.prog w = .ok (.enter 105 args) w := run_callFunc_enter Try.func105 (by kernel_rfl) rfl args w
theorem ent106 (args : Array Value) (w : World) : (callFunc 106 args).run Try.prog w = .ok (.enter 106 args) w := run_callFunc_enter Try.func106 (by kernel_rfl) rfl args w
theorem ite_mem {c : Prop} [Decidable c] {a b : Nat} {l : List Nat} (ha : a ∈ l) (hb : b ∈ l) : (if c then a else b) ∈ l := by
  by_cases h : c
  · rw [if_pos h]; exact ha
  · rw [if_neg h]; exact hb
theorem fnEnter (kind a : Int) (args : Array Value) (w : World) : (callFunc (fnOf kind a) args).run Try.prog w = .ok (.enter (fnOf kind a) args) w := by
  have key : ∀ n, n ∈ [50, 51, 62, 63, 66, 68, 69, 70, 71, 72, 74, 76, 77, 81, 82, 83, 84, 85, 86, 87, 88, 92, 97, 98, 100, 101, 103, 105, 106] → (callFunc n args).run Try.prog w = .ok (.enter n args) w := by
    intro n hn
    simp only [List.mem_cons, List.not_mem_nil, or_false] at hn
    rcases hn with rfl | rfl | rfl | rfl | rfl | rfl | rfl | rfl | rfl | rfl | rfl | rfl | rfl | rfl | rfl | rfl | rfl | rfl | rfl | rfl | rfl | rfl | rfl | rfl | rfl | rfl | rfl | rfl | rfl
    · exact ent50 args w
    · exact ent51 args w
    · exact ent62 args w
    · exact ent63 args w
    · exact ent66 args w
    · exact ent68 args w
    · exact ent69 args w
    · exact ent70 args w
    · exact ent71 args w
    · exact ent72 args w
    · exact ent74 args w
    · exact ent76 args w
    · exact ent77 args w
    · exact ent81 args w
    · exact ent82 args w
    · exact ent83 args w
    · exact ent84 args w
    · exact ent85 args w
    · exact ent86 args w
    · exact ent87 args w
    · exact ent88 args w
    · exact ent92 args w
    · exact ent97 args w
    · exact ent98 args w
    · exact ent100 args w
    · exact ent101 args w
    · exact ent103 args w
    · exact ent105 args w
    · exact ent106 args w
  refine key _ ?_
  unfold fnOf
  repeat' with_reducible apply ite_mem
  all_goals simp
set_option maxRecDepth 100000 in
set_option maxHeartbeats 800000 in
theorem g_tstep {p : PM} {en : Nat → Nat} {l : Int} {m : M} {w : World} (h : GAt p en l m w) (hI : m.Inv) {i t : Nat} (ht : p.ts[i]? = some t) (ho : ThOk m (m.ths i)) (hat : ¬ (m.ths i).at_ = 0) :
    Calls Try.prog 32 #[.pointer (some ⟨t, 0, none⟩)] w (GRes p en l m (fp p en m) w (m.ansOf i)) := by
  obtain ⟨cp, _, hb⟩ := h.ts i t ht
  rw [tcOf_busy hat] at hb
  have run := g_step' (h.alloc (.cells #[.bool false, .bool false, .int .i64 0] 30)) hI ht ho
  have hlt := h.fp_lt
  have hin := fnEnter (m.ths i).kind (m.ths i).at_
  have h10 : w.cell? ⟨t, 10, none⟩ = some (.func (.func (fnOf (m.ths i).kind (m.ths i).at_)) #[.pointer (some ⟨t, 0, none⟩)] #[]) := cell_of hb 10
  have hs := lt_of_block hb
  have hbx : (w.alloc (.cells #[.bool false, .bool false, .int .i64 0] 30)).cell? ⟨t, 10, none⟩ = some (.func (.func (fnOf (m.ths i).kind (m.ths i).at_)) #[.pointer (some ⟨t, 0, none⟩)] #[]) := cell_of (block_alloc_lt hb _) 10
  generalize fnOf (m.ths i).kind (m.ths i).at_ = n at *
  generalize m.ansOf i = a at *
  have RUN : Hid _ := run
  have HB : Hid _ := hbx
  clear run hb hbx ho hat hI h ht
  go_enter Try.func32, Try.ntmps32
  go_wp2_with fail
  refine (busy_yes t (.func n) #[.pointer (some ⟨t, 0, none⟩)] #[] _ HB.out).mono ?_
  rintro e w' ⟨rfl, rfl⟩
  go_wp2_with fail
  refine Calls.mono RUN.out ?_
  rintro e w2 ⟨rfl, en', h2, q1, q2, k2⟩
  have r2 : w2.heap[w.heap.size]? = some (.cells #[.bool false, .bool false, .int .i64 0] 30 (0, 0)) := k2.at (block_alloc_new _ _) (fun hx => Nat.lt_irrefl _ (hlt _ hx))
  have hc2 : ∀ o, w2.cell? ⟨w.heap.size, o, none⟩ = #[.bool false, .bool false, .int .i64 0][o]? := cell_of r2
  have hf2 : ∀ o, w2.frozen? ⟨w.heap.size, o, none⟩ = false := frozen_of r2
  have H2 : Hid _ := h2
  have Q2 : Hid _ := q2
  have Q1 : Hid _ := q1
  have K2 : Hid _ := k2
  clear h10 h2 q1 q2 k2
  simp only [ans]
  go_wp2
  have h3 := ((H2.out.set r2 (by decide) (by decide) (by decide) (by decide) (by decide) 0 (.bool a.o.d)).set (block_set_same r2 0 _) (by decide) (by decide) (by decide) (by decide) (by decide) 1 (.bool a.o.f)).set (block_set_same (block_set_same r2 0 _) 1 _) (by decide) (by decide) (by decide) (by decide) (by decide) 2 (.int .i64 a.o.v)
  refine bodyPost_ret (v := ans a.o.d a.o.f a.o.v a.err) (by simp [results, Try.results32, go_sem, ans, cell_of (resLaidP r2 a.o.d a.o.f a.o.v)]) rfl ⟨rfl, en', h3, Q1.out, fun j h1 h2 => ?_, ?_⟩
  · have := Q2.out j h1 h2
    simp only [World.size_alloc] at this
    omega
  · exact ((((Kept.refl (fp p en m) w).alloc _).trans K2.out)).res (Nat.le_refl _) _ _ _
end Go.Proofs.Ytmnkphenobfbfaa
namespace Go.Proofs.Ytmnkphenobfbfaa
open Go.RowKit Go.MuLone
theorem GAt.nth' {p : PM} {en : Nat → Nat} {l : Int} {m : M} {w : World} (h : GAt p en l m w) {i : Nat} (hi : i < p.ts.length) :
    ∃ t, p.ts[i]? = some t ∧ w.cell? ⟨p.tb, i, none⟩ = some (.pointer (some ⟨t, 0, none⟩)) := by
  obtain ⟨cs, h1, h2⟩ := h.tb
  have e : p.ts[i]? = some p.ts[i] := List.getElem?_eq_getElem hi
  exact ⟨p.ts[i], e, by rw [cell_of h1]; exact h2 i _ e⟩
/-- A map that a call may write. -/
def fpm (p : PM) (en : Nat → Nat) (m : M) : List Nat := p.m :: p.c :: fp p en m
theorem still_res {p : PM} {en : Nat → Nat} {m : M} {w w' : World} (g : GAt p en 0 m w') (er : Int) (k : Kept [p.m] w w') : GRes p en 0 m (fpm p en m) w (m.still er) (.returned (ans false false 0 er)) w' :=
  ⟨rfl, en, g, fun _ _ => rfl, fun j h1 h2 => absurd h2 (by show ¬ j < m.nc; omega), k.mono (by simp [fpm])⟩
set_option maxRecDepth 100000 in
set_option maxHeartbeats 800000 in
theorem g_mclosed {p : PM} {en : Nat → Nat} {m : M} {w : World} (h : GAt p en 0 m w) (i : Int) (hc : m.cl = true) :
    Calls Try.prog 15 #[.pointer (some ⟨p.m, 0, none⟩), .int .i64 i] w (GRes p en 0 m (fpm p en m) w (m.still 5)) := by
  have hs := lt_of_block h.mp
  have h1 := (h.alloc (.cells #[.bool false, .bool false, .int .i64 0] 30)).lock 1
  have k1 : Kept [p.m] w ((w.alloc (.cells #[.bool false, .bool false, .int .i64 0] 30)).setCell ⟨p.m, 0, none⟩ (.int .i32 1)) := ((Kept.refl _ w).alloc _).setCell (.inl (by simp)) _
  have hr : ((w.alloc (.cells #[.bool false, .bool false, .int .i64 0] 30)).setCell ⟨p.m, 0, none⟩ (.int .i32 1)).heap[w.heap.size]? = some (.cells #[.bool false, .bool false, .int .i64 0] 30 (0, 0)) :=
    block_set_ne (block_alloc_new _ _) (by omega) _ _
  have hsz : w.heap.size ≤ ((w.alloc (.cells #[.bool false, .bool false, .int .i64 0] 30)).setCell ⟨p.m, 0, none⟩ (.int .i32 1)).heap.size := k1.size
  go_enter_defers Try.func15, Try.ntmps15
  go_wp2_with fail
  refine (lock_free Try.muLib ⟨p.m, 0, none⟩ _ ?_ ?_).mono ?_
  · rw [cell_of (h.alloc _).mp]; rfl
  · rw [frozen_of (h.alloc _).mp]
  rintro e w' ⟨rfl, rfl⟩
  generalize ((w.alloc (.cells #[.bool false, .bool false, .int .i64 0] 30)).setCell ⟨p.m, 0, none⟩ (.int .i32 1)) = W at *
  go_wp2_with fail
  refine (isClosed_yes p.m p.c 0 0 _ (by rw [cell_of h1.mp]; rfl) (by have := h1.c; rw [hc] at this; exact this)).mono ?_
  rintro e w' ⟨rfl, rfl⟩
  have c0 : w'.cell? ⟨w.heap.size, 0, none⟩ = some (.bool false) := cell_of hr 0
  have c1 : w'.cell? ⟨w.heap.size, 1, none⟩ = some (.bool false) := cell_of hr 1
  have c2 : w'.cell? ⟨w.heap.size, 2, none⟩ = some (.int .i64 0) := cell_of hr 2
  have f0 : ∀ o, w'.frozen? ⟨w.heap.size, o, none⟩ = false := frozen_of hr
  go_wp2
  have hr2 := block_set_same (block_set_same (block_set_same hr 0 (.bool false)) 1 (.bool false)) 2 (.int .i64 0)
  have h2 := ((h1.set hr (by decide) (by decide) (by decide) (by decide) (by decide) 0 (.bool false)).set (block_set_same hr 0 _) (by decide) (by decide) (by decide) (by decide) (by decide) 1 (.bool false)).set (block_set_same (block_set_same hr 0 _) 1 _) (by decide) (by decide) (by decide) (by decide) (by decide) 2 (.int .i64 0)
  have k2 := k1.res (g := w.heap.size) (Nat.le_refl _) (.bool false) (.bool false) (.int .i64 0)
  refine door_unlock p.m _ (by rw [cell_of h2.mp]; rfl) (by rw [frozen_of h2.mp]) (res16 w.heap.size _ _ _ _ rfl rfl ?_ ?_ ?_) (still_res (h2.lock 0) 5 (k2.setCell (.inl (by simp)) _))
  all_goals (rw [cell_of (block_set_ne hr2 (by omega) _ _)]; rfl)
set_option maxRecDepth 100000 in
set_option maxHeartbeats 800000 in
theorem g_marg {p : PM} {en : Nat → Nat} {m : M} {w : World} (h : GAt p en 0 m w) (i : Int) (hc : m.cl = false) (hi : i < 0 ∨ (m.nth : Int) ≤ i) :
    Calls Try.prog 15 #[.pointer (some ⟨p.m, 0, none⟩), .int .i64 i] w (GRes p en 0 m (fpm p en m) w (m.still 1)) := by
  have hs := lt_of_block h.mp
  have h1 := (h.alloc (.cells #[.bool false, .bool false, .int .i64 0] 30)).lock 1
  have k1 : Kept [p.m] w ((w.alloc (.cells #[.bool false, .bool false, .int .i64 0] 30)).setCell ⟨p.m, 0, none⟩ (.int .i32 1)) := ((Kept.refl _ w).alloc _).setCell (.inl (by simp)) _
  have hr : ((w.alloc (.cells #[.bool false, .bool false, .int .i64 0] 30)).setCell ⟨p.m, 0, none⟩ (.int .i32 1)).heap[w.heap.size]? = some (.cells #[.bool false, .bool false, .int .i64 0] 30 (0, 0)) :=
    block_set_ne (block_alloc_new _ _) (by omega) _ _
  have hsz : w.heap.size ≤ ((w.alloc (.cells #[.bool false, .bool false, .int .i64 0] 30)).setCell ⟨p.m, 0, none⟩ (.int .i32 1)).heap.size := k1.size
  go_enter_defers Try.func15, Try.ntmps15
  go_wp2_with fail
  refine (lock_free Try.muLib ⟨p.m, 0, none⟩ _ ?_ ?_).mono ?_
  · rw [cell_of (h.alloc _).mp]; rfl
  · rw [frozen_of (h.alloc _).mp]
  rintro e w' ⟨rfl, rfl⟩
  generalize ((w.alloc (.cells #[.bool false, .bool false, .int .i64 0] 30)).setCell ⟨p.m, 0, none⟩ (.int .i32 1)) = W at *
  go_wp2_with fail
  refine (isClosed_no p.m p.c 0 0 _ (by rw [cell_of h1.mp]; rfl) (by have := h1.c; rw [hc] at this; exact this)).mono ?_
  rintro e w' ⟨rfl, rfl⟩
  have hl := h.len
  go_wp2_with fail
  refine (hasThread_no p.m (some ⟨p.tb, 0, none⟩) p.ts.length p.cap i _ (by rw [cell_of h1.mp]; rfl) (by rw [hl]; exact hi)).mono ?_
  rintro e w' ⟨rfl, rfl⟩
  have c0 : w'.cell? ⟨w.heap.size, 0, none⟩ = some (.bool false) := cell_of hr 0
  have c1 : w'.cell? ⟨w.heap.size, 1, none⟩ = some (.bool false) := cell_of hr 1
  have c2 : w'.cell? ⟨w.heap.size, 2, none⟩ = some (.int .i64 0) := cell_of hr 2
  have f0 : ∀ o, w'.frozen? ⟨w.heap.size, o, none⟩ = false := frozen_of hr
  go_wp2
  have hr2 := block_set_same (block_set_same (block_set_same hr 0 (.bool false)) 1 (.bool false)) 2 (.int .i64 0)
  have h2 := ((h1.set hr (by decide) (by decide) (by decide) (by decide) (by decide) 0 (.bool false)).set (block_set_same hr 0 _) (by decide) (by decide) (by decide) (by decide) (by decide) 1 (.bool false)).set (block_set_same (block_set_same hr 0 _) 1 _) (by decide) (by decide) (by decide) (by decide) (by decide) 2 (.int .i64 0)
  have k2 := k1.res (g := w.heap.size) (Nat.le_refl _) (.bool false) (.bool false) (.int .i64 0)
  refine door_unlock p.m _ (by rw [cell_of h2.mp]; rfl) (by rw [frozen_of h2.mp]) (res16 w.heap.size _ _ _ _ rfl rfl ?_ ?_ ?_) (still_res (h2.lock 0) 1 (k2.setCell (.inl (by simp)) _))
  all_goals (rw [cell_of (block_set_ne hr2 (by omega) _ _)]; rfl)
set_option maxRecDepth 100000 in
set_option maxHeartbeats 800000 in
theorem g_midle {p : PM} {en : Nat → Nat} {m : M} {w : World} (h : GAt p en 0 m w) (i : Int) (hc : m.cl = false) (h0 : 0 ≤ i) (hi : i < (m.nth : Int)) (hat : (m.ths i.toNat).at_ = 0) :
    Calls Try.prog 15 #[.pointer (some ⟨p.m, 0, none⟩), .int .i64 i] w (GRes p en 0 m (fpm p en m) w (m.still 3)) := by
  have hs := lt_of_block h.mp
  have h1 := (h.alloc (.cells #[.bool false, .bool false, .int .i64 0] 30)).lock 1
  have k1 : Kept [p.m] w ((w.alloc (.cells #[.bool false, .bool false, .int .i64 0] 30)).setCell ⟨p.m, 0, none⟩ (.int .i32 1)) := ((Kept.refl _ w).alloc _).setCell (.inl (by simp)) _
  have hr : ((w.alloc (.cells #[.bool false, .bool false, .int .i64 0] 30)).setCell ⟨p.m, 0, none⟩ (.int .i32 1)).heap[w.heap.size]? = some (.cells #[.bool false, .bool false, .int .i64 0] 30 (0, 0)) :=
    block_set_ne (block_alloc_new _ _) (by omega) _ _
  have hsz : w.heap.size ≤ ((w.alloc (.cells #[.bool false, .bool false, .int .i64 0] 30)).setCell ⟨p.m, 0, none⟩ (.int .i32 1)).heap.size := k1.size
  go_enter_defers Try.func15, Try.ntmps15
  go_wp2_with fail
  refine (lock_free Try.muLib ⟨p.m, 0, none⟩ _ ?_ ?_).mono ?_
  · rw [cell_of (h.alloc _).mp]; rfl
  · rw [frozen_of (h.alloc _).mp]
  rintro e w' ⟨rfl, rfl⟩
  generalize ((w.alloc (.cells #[.bool false, .bool false, .int .i64 0] 30)).setCell ⟨p.m, 0, none⟩ (.int .i32 1)) = W at *
  go_wp2_with fail
  refine (isClosed_no p.m p.c 0 0 _ (by rw [cell_of h1.mp]; rfl) (by have := h1.c; rw [hc] at this; exact this)).mono ?_
  rintro e w' ⟨rfl, rfl⟩
  have hl := h.len
  have hcap := h.cap
  go_wp2_with fail
  refine (hasThread_yes p.m (some ⟨p.tb, 0, none⟩) p.ts.length p.cap i _ (by rw [cell_of h1.mp]; rfl) h0 (by rw [hl]; exact hi)).mono ?_
  rintro e w' ⟨rfl, rfl⟩
  have hil : i < (p.ts.length : Int) := by rw [hl]; exact hi
  obtain ⟨t, ht, hct⟩ := h1.nth' (i := i.toNat) (by omega)
  have c4 : w'.cell? ⟨p.m, 4, none⟩ = some (.slice (some ⟨p.tb, 0, none⟩) p.ts.length p.cap) := cell_of h1.mp 4
  have HT : Hid _ := ht
  clear ht
  obtain ⟨cp, _, hbt⟩ := h1.ts _ t HT.out
  rw [tcOf_idle hat] at hbt
  go_wp2_with fail
  refine Calls.mono (tstep_idle t _ hbt rfl) ?_
  rintro e w2 ⟨rfl, k2⟩
  replace hr := k2.at hr (by simp)
  replace h1 := h1.keptNil k2
  replace k1 : Kept [p.m] w w2 := k1.trans (k2.mono (by simp))
  have c0 : w2.cell? ⟨w.heap.size, 0, none⟩ = some (.bool false) := cell_of hr 0
  have c1 : w2.cell? ⟨w.heap.size, 1, none⟩ = some (.bool false) := cell_of hr 1
  have c2 : w2.cell? ⟨w.heap.size, 2, none⟩ = some (.int .i64 0) := cell_of hr 2
  have f0 : ∀ o, w2.frozen? ⟨w.heap.size, o, none⟩ = false := frozen_of hr
  clear c4 hct hbt
  go_wp2
  have hr2 := block_set_same (block_set_same (block_set_same hr 0 (.bool false)) 1 (.bool false)) 2 (.int .i64 0)
  have h2 := ((h1.set hr (by decide) (by decide) (by decide) (by decide) (by decide) 0 (.bool false)).set (block_set_same hr 0 _) (by decide) (by decide) (by decide) (by decide) (by decide) 1 (.bool false)).set (block_set_same (block_set_same hr 0 _) 1 _) (by decide) (by decide) (by decide) (by decide) (by decide) 2 (.int .i64 0)
  have k2 := k1.res (g := w.heap.size) (Nat.le_refl _) (.bool false) (.bool false) (.int .i64 0)
  refine door_unlock p.m _ (by rw [cell_of h2.mp]; rfl) (by rw [frozen_of h2.mp]) (res16 w.heap.size _ _ _ _ rfl rfl ?_ ?_ ?_) (still_res (h2.lock 0) 3 (k2.setCell (.inl (by simp)) _))
  all_goals (rw [cell_of (block_set_ne hr2 (by omega) _ _)]; rfl)
set_option maxRecDepth 100000 in
set_option maxHeartbeats 800000 in
theorem g_mgo {p : PM} {en : Nat → Nat} {m : M} {w : World} (h : GAt p en 0 m w) (i : Int) (hc : m.cl = false) (hI : m.Inv) (h0 : 0 ≤ i) (hi : i < (m.nth : Int)) (ho : ThOk m (m.ths i.toNat)) (hat : ¬ (m.ths i.toNat).at_ = 0) :
    Calls Try.prog 15 #[.pointer (some ⟨p.m, 0, none⟩), .int .i64 i] w (GRes p en 0 m (fpm p en m) w (m.ansOf i.toNat)) := by
  have hs := lt_of_block h.mp
  have h1 := (h.alloc (.cells #[.bool false, .bool false, .int .i64 0] 30)).lock 1
  have k1 : Kept [p.m] w ((w.alloc (.cells #[.bool false, .bool false, .int .i64 0] 30)).setCell ⟨p.m, 0, none⟩ (.int .i32 1)) := ((Kept.refl _ w).alloc _).setCell (.inl (by simp)) _
  have hr : ((w.alloc (.cells #[.bool false, .bool false, .int .i64 0] 30)).setCell ⟨p.m, 0, none⟩ (.int .i32 1)).heap[w.heap.size]? = some (.cells #[.bool false, .bool false, .int .i64 0] 30 (0, 0)) :=
    block_set_ne (block_alloc_new _ _) (by omega) _ _
  have hsz : w.heap.size ≤ ((w.alloc (.cells #[.bool false, .bool false, .int .i64 0] 30)).setCell ⟨p.m, 0, none⟩ (.int .i32 1)).heap.size := k1.size
  go_enter_defers Try.func15, Try.ntmps15
  go_wp2_with fail
  refine (lock_free Try.muLib ⟨p.m, 0, none⟩ _ ?_ ?_).mono ?_
  · rw [cell_of (h.alloc _).mp]; rfl
  · rw [frozen_of (h.alloc _).mp]
  rintro e w' ⟨rfl, rfl⟩
  generalize ((w.alloc (.cells #[.bool false, .bool false, .int .i64 0] 30)).setCell ⟨p.m, 0, none⟩ (.int .i32 1)) = W at *
  go_wp2_with fail
  refine (isClosed_no p.m p.c 0 0 _ (by rw [cell_of h1.mp]; rfl) (by have := h1.c; rw [hc] at this; exact this)).mono ?_
  rintro e w' ⟨rfl, rfl⟩
  have hl := h.len
  have hcap := h.cap
  go_wp2_with fail
  refine (hasThread_yes p.m (some ⟨p.tb, 0, none⟩) p.ts.length p.cap i _ (by rw [cell_of h1.mp]; rfl) h0 (by rw [hl]; exact hi)).mono ?_
  rintro e w' ⟨rfl, rfl⟩
  have hil : i < (p.ts.length : Int) := by rw [hl]; exact hi
  obtain ⟨t, ht, hct⟩ := h1.nth' (i := i.toNat) (by omega)
  have c4 : w'.cell? ⟨p.m, 4, none⟩ = some (.slice (some ⟨p.tb, 0, none⟩) p.ts.length p.cap) := cell_of h1.mp 4
  have HT : Hid _ := ht
  clear ht
  have run := g_tstep h1 hI HT.out ho hat
  have hnot : w.heap.size ∉ fp p en m := fun hx => Nat.lt_irrefl _ (h.fp_lt _ hx)
  generalize m.ansOf i.toNat = a at *
  have RUN : Hid _ := run
  clear run ho hat hI
  go_wp2_with fail
  refine Calls.mono RUN.out ?_
  rintro e w2 ⟨rfl, en', h2, q1, q2, k2⟩
  have r2 : w2.heap[w.heap.size]? = some (.cells #[.bool false, .bool false, .int .i64 0] 30 (0, 0)) := k2.at hr hnot
  have hc2 : ∀ o, w2.cell? ⟨w.heap.size, o, none⟩ = #[.bool false, .bool false, .int .i64 0][o]? := cell_of r2
  have hf2 : ∀ o, w2.frozen? ⟨w.heap.size, o, none⟩ = false := frozen_of r2
  have kk : Hid (Kept (fpm p en m) w w2) := (k1.mono (by simp [fpm])).trans (k2.mono fun x hx => List.mem_cons_of_mem _ (List.mem_cons_of_mem _ hx))
  have H2 : Hid _ := h2
  have Q1 : Hid _ := q1
  have Q2 : Hid (∀ j, m.nc ≤ j → j < a.o.m.nc → w.heap.size ≤ en' j) := fun j a b => Nat.le_trans hsz (q2 j a b)
  have K2 : Hid _ := k2
  clear c4 hct h2 q1 q2 k2
  simp only [ans]
  go_wp2
  have hr2 := resLaidP r2 a.o.d a.o.f a.o.v
  have h2 := ((H2.out.set r2 (by decide) (by decide) (by decide) (by decide) (by decide) 0 (.bool a.o.d)).set (block_set_same r2 0 _) (by decide) (by decide) (by decide) (by decide) (by decide) 1 (.bool a.o.f)).set (block_set_same (block_set_same r2 0 _) 1 _) (by decide) (by decide) (by decide) (by decide) (by decide) 2 (.int .i64 a.o.v)
  have k3 := kk.out.res (g := w.heap.size) (Nat.le_refl _) (.bool a.o.d) (.bool a.o.f) (.int .i64 a.o.v)
  refine door_unlock p.m _ (by rw [cell_of h2.mp]; rfl) (by rw [frozen_of h2.mp]) (res16 w.heap.size _ _ _ _ rfl rfl ?_ ?_ ?_) ⟨rfl, en', h2.lock 0, Q1.out, Q2.out, k3.setCell (.inl (by simp [fpm])) _⟩
  all_goals (rw [cell_of (block_set_ne hr2 (by omega) _ _)]; rfl)
theorem g_mstep {p : PM} {en : Nat → Nat} {m : M} {w : World} (h : GAt p en 0 m w) (hI : m.Inv) (i : Int) :
    Calls Try.prog 15 #[.pointer (some ⟨p.m, 0, none⟩), .int .i64 i] w (GRes p en 0 m (fpm p en m) w (m.step i)) := by
  unfold M.step
  by_cases hc : m.cl = true
  · rw [if_pos hc]; exact g_mclosed h i hc
  rw [if_neg hc]
  have hc' : m.cl = false := by simpa using hc
  by_cases hi : i < 0 ∨ (m.nth : Int) ≤ i
  · rw [if_pos hi]; exact g_marg h i hc' hi
  rw [if_neg hi]
  have h0 : 0 ≤ i := by omega
  have h1 : i < (m.nth : Int) := by omega
  by_cases ha : (m.ths i.toNat).at_ = 0
  · rw [if_pos ha]; exact g_midle h i hc' h0 h1 ha
  rw [if_neg ha]
  have ho := (hI.th i.toNat (by omega)).resolve_left ha
  have := g_mgo h i hc' hI h0 h1 ho ha
  unfold M.ansOf at this
  exact this
end Go.Proofs.Ytmnkphenobfbfaa
namespace Go.Proofs.Ytmnkphenobfbfaa
open Go.RowKit Go.MuLone
set_option maxHeartbeats 800000 in
theorem g_isValue_yes (n : Int) (w : World) (h0 : 1 ≤ n) (h1 : n ≤ 1000) : Calls Try.prog 36 #[.int .i64 n] w fun e w' => e = .returned (.bool true) ∧ w' = w := by
  go_enter Try.func36, Try.ntmps36
  go_wp2
  go_ret
  exact ⟨rfl, rfl⟩
set_option maxHeartbeats 800000 in
theorem g_isValue_no (n : Int) (w : World) (h : ¬ (1 ≤ n ∧ n ≤ 1000)) : Calls Try.prog 36 #[.int .i64 n] w fun e w' => e = .returned (.bool false) ∧ w' = w := by
  by_cases h1 : 1 ≤ n
  · have h2 : ¬ n ≤ 1000 := fun hh => h ⟨h1, hh⟩
    clear h
    go_enter Try.func36, Try.ntmps36
    go_wp2
    go_ret
    exact ⟨rfl, rfl⟩
  · clear h
    go_enter Try.func36, Try.ntmps36
    go_wp2
    go_ret
    exact ⟨rfl, rfl⟩
def MayBe (kind key val old : Int) (b : Bool) (w : World) : Prop := Calls Try.prog 28 #[.agg #[.int .i64 kind, .int .i64 key, .int .i64 val, .int .i64 old]] w fun e w' => e = .returned (.bool b) ∧ Kept [] w w'
set_option maxRecDepth 100000 in
set_option maxHeartbeats 800000 in
theorem g_mayBe_key (kind key val old : Int) (w : World) (h : key < 0 ∨ 8 ≤ key) : MayBe kind key val old false w := by
  unfold MayBe
  by_cases h0 : key < 0
  · clear h
    go_enter Try.func28, Try.ntmps28
    go_wp2
    go_ret
    exact ⟨rfl, (Kept.refl [] w).alloc _⟩
  · have h8 : 8 ≤ key := by omega
    clear h
    go_enter Try.func28, Try.ntmps28
    go_wp2
    go_ret
    exact ⟨rfl, (Kept.refl [] w).alloc _⟩
set_option maxRecDepth 100000 in
set_option maxHeartbeats 800000 in
theorem g_mayBe_kind (kind key val old : Int) (w : World) (h : kind < 0 ∨ 3 < kind) (h0 : ¬ key < 0) (h8 : ¬ 8 ≤ key) : MayBe kind key val old false w := by
  unfold MayBe
  have e0 : (kind == 0) = false := beq_eq_false_iff_ne.2 (by omega)
  have e1 : (kind == 1) = false := beq_eq_false_iff_ne.2 (by omega)
  have e2 : (kind == 2) = false := beq_eq_false_iff_ne.2 (by omega)
  have e3 : (kind == 3) = false := beq_eq_false_iff_ne.2 (by omega)
  clear h
  go_enter Try.func28, Try.ntmps28
  go_wp2
  go_ret
  exact ⟨rfl, (Kept.refl [] w).alloc _⟩
set_option maxRecDepth 100000 in
set_option maxHeartbeats 800000 in
theorem g_mayBe_0 (key val old : Int) (w : World) (h0 : ¬ key < 0) (h8 : ¬ 8 ≤ key) : MayBe 0 key val old true w := by
  unfold MayBe
  go_enter Try.func28, Try.ntmps28
  go_wp2
  go_ret
  exact ⟨rfl, (Kept.refl [] w).alloc _⟩
set_option maxRecDepth 100000 in
set_option maxHeartbeats 800000 in
theorem g_mayBe_2 (key val old : Int) (w : World) (h0 : ¬ key < 0) (h8 : ¬ 8 ≤ key) : MayBe 2 key val old true w := by
  unfold MayBe
  go_enter Try.func28, Try.ntmps28
  go_wp2
  go_ret
  exact ⟨rfl, (Kept.refl [] w).alloc _⟩
set_option maxRecDepth 100000 in
set_option maxHeartbeats 800000 in
theorem g_mayBe_1y (key val old : Int) (w : World) (h0 : ¬ key < 0) (h8 : ¬ 8 ≤ key) (hv : 1 ≤ val ∧ val ≤ 1000) : MayBe 1 key val old true w := by
  unfold MayBe
  go_enter Try.func28, Try.ntmps28
  go_wp2_with fail
  refine Calls.mono (g_isValue_yes val _ hv.1 hv.2) ?_
  rintro e w' ⟨rfl, rfl⟩
  go_wp2
  go_ret
  exact ⟨rfl, (Kept.refl [] w).alloc _⟩
set_option maxRecDepth 100000 in
set_option maxHeartbeats 800000 in
theorem g_mayBe_1n (key val old : Int) (w : World) (h0 : ¬ key < 0) (h8 : ¬ 8 ≤ key) (hv : ¬ (1 ≤ val ∧ val ≤ 1000)) : MayBe 1 key val old false w := by
  unfold MayBe
  go_enter Try.func28, Try.ntmps28
  go_wp2_with fail
  refine Calls.mono (g_isValue_no val _ hv) ?_
  rintro e w' ⟨rfl, rfl⟩
  go_wp2
  go_ret
  exact ⟨rfl, (Kept.refl [] w).alloc _⟩
set_option maxRecDepth 100000 in
set_option maxHeartbeats 800000 in
theorem g_mayBe_3y (key val old : Int) (w : World) (h0 : ¬ key < 0) (h8 : ¬ 8 ≤ key) (hv : 1 ≤ val ∧ val ≤ 1000) (hw : 1 ≤ old ∧ old ≤ 1000) : MayBe 3 key val old true w := by
  unfold MayBe
  go_enter Try.func28, Try.ntmps28
  go_wp2_with fail
  refine Calls.mono (g_isValue_yes val _ hv.1 hv.2) ?_
  rintro e w1 ⟨rfl, rfl⟩
  go_wp2_with fail
  refine Calls.mono (g_isValue_yes old _ hw.1 hw.2) ?_
  rintro e w2 ⟨rfl, rfl⟩
  go_wp2
  go_ret
  exact ⟨rfl, (Kept.refl [] w).alloc _⟩
set_option maxRecDepth 100000 in
set_option maxHeartbeats 800000 in
theorem g_mayBe_3n (key val old : Int) (w : World) (h0 : ¬ key < 0) (h8 : ¬ 8 ≤ key) (hv : ¬ (1 ≤ val ∧ val ≤ 1000)) : MayBe 3 key val old false w := by
  unfold MayBe
  go_enter Try.func28, Try.ntmps28
  go_wp2_with fail
  refine Calls.mono (g_isValue_no val _ hv) ?_
  rintro e w1 ⟨rfl, rfl⟩
  go_wp2
  go_ret
  exact ⟨rfl, (Kept.refl [] w).alloc _⟩
set_option maxRecDepth 100000 in
set_option maxHeartbeats 800000 in
theorem g_mayBe_3o (key val old : Int) (w : World) (h0 : ¬ key < 0) (h8 : ¬ 8 ≤ key) (hv : 1 ≤ val ∧ val ≤ 1000) (hw : ¬ (1 ≤ old ∧ old ≤ 1000)) : MayBe 3 key val old false w := by
  unfold MayBe
  go_enter Try.func28, Try.ntmps28
  go_wp2_with fail
  refine Calls.mono (g_isValue_yes val _ hv.1 hv.2) ?_
  rintro e w1 ⟨rfl, rfl⟩
  go_wp2_with fail
  refine Calls.mono (g_isValue_no old _ hw) ?_
  rintro e w2 ⟨rfl, rfl⟩
  go_wp2
  go_ret
  exact ⟨rfl, (Kept.refl [] w).alloc _⟩
theorem g_mayBe (kind key val old : Int) (w : World) : MayBe kind key val old (decide (OpOk kind key val old)) w := by
  by_cases hk : key < 0 ∨ 8 ≤ key
  · rw [decide_eq_false (by unfold OpOk; omega)]; exact g_mayBe_key kind key val old w hk
  have h0 : ¬ key < 0 := by omega
  have h8 : ¬ 8 ≤ key := by omega
  by_cases hd : kind < 0 ∨ 3 < kind
  · rw [decide_eq_false (by unfold OpOk; omega)]; exact g_mayBe_kind kind key val old w hd h0 h8
  have hkd : kind = 0 ∨ kind = 1 ∨ kind = 2 ∨ kind = 3 := by omega
  rcases hkd with rfl | rfl | rfl | rfl
  · rw [decide_eq_true (by unfold OpOk; omega)]; exact g_mayBe_0 key val old w h0 h8
  · by_cases hv : 1 ≤ val ∧ val ≤ 1000
    · rw [decide_eq_true (by unfold OpOk; omega)]; exact g_mayBe_1y key val old w h0 h8 hv
    · rw [decide_eq_false (by unfold OpOk; omega)]; exact g_mayBe_1n key val old w h0 h8 hv
  · rw [decide_eq_true (by unfold OpOk; omega)]; exact g_mayBe_2 key val old w h0 h8
  · by_cases hv : 1 ≤ val ∧ val ≤ 1000
    · by_cases hw : 1 ≤ old ∧ old ≤ 1000
      · rw [decide_eq_true (by unfold OpOk; omega)]; exact g_mayBe_3y key val old w h0 h8 hv hw
      · rw [decide_eq_false (by unfold OpOk; omega)]; exact g_mayBe_3o key val old w h0 h8 hv hw
    · rw [decide_eq_false (by unfold OpOk; omega)]; exact g_mayBe_3n key val old w h0 h8 hv
set_option maxRecDepth 100000 in
set_option maxHeartbeats 800000 in
theorem g_tbegin_0 (tc : Tc) (t : Nat) (key val old : Int) (w : World) (h : w.heap[t]? = some (.cells tc.cells 103 (0, 0))) :
    Calls Try.prog 30 #[.pointer (some ⟨t, 0, none⟩), .agg #[.int .i64 0, .int .i64 key, .int .i64 val, .int .i64 old]] w fun e w' => e = .returned (.tuple #[]) ∧ w'.heap[t]? = some (.cells { tc with kind := 0, key := key, val := val, old := old, nx := .func (.func 51) #[.pointer (some ⟨t, 0, none⟩)] #[] }.cells 103 (0, 0)) ∧ Kept [t] w w' := by
  have hs := lt_of_block h
  have hc : ∀ o', w.cell? ⟨t, o', none⟩ = tc.cells[o']? := cell_of h
  have hf : ∀ o, w.frozen? ⟨t, o, none⟩ = false := frozen_of h
  have hmf : ∀ (fn : Fn) (first cap : Array Value) (w : World), (Instr.makeFunc fn first cap).run Try.prog w = .ok (.func fn first cap) w := fun _ _ _ _ => rfl
  simp only [Tc.cells] at hc
  go_enter Try.func30, Try.ntmps30
  go_wp2
  go_end0
  refine ⟨rfl, ?_, ?_⟩
  · refine block_alloc_lt ((block_set_same (block_set_same (block_set_same (block_set_same (block_set_same h _ _) _ _) _ _) _ _) _ _).trans ?_) _
    simp [Tc.cells]
  · exact ((((((Kept.refl _ w).setCell (.inl (by simp)) _).setCell (.inl (by simp)) _).setCell (.inl (by simp)) _).setCell (.inl (by simp)) _).setCell (.inl (by simp)) _).alloc _
set_option maxRecDepth 100000 in
set_option maxHeartbeats 800000 in
theorem g_tbegin_1 (tc : Tc) (t : Nat) (key val old : Int) (w : World) (h : w.heap[t]? = some (.cells tc.cells 103 (0, 0))) :
    Calls Try.prog 30 #[.pointer (some ⟨t, 0, none⟩), .agg #[.int .i64 1, .int .i64 key, .int .i64 val, .int .i64 old]] w fun e w' => e = .returned (.tuple #[]) ∧ w'.heap[t]? = some (.cells { tc with kind := 1, key := key, val := val, old := old, nx := .func (.func 50) #[.pointer (some ⟨t, 0, none⟩)] #[] }.cells 103 (0, 0)) ∧ Kept [t] w w' := by
  have hs := lt_of_block h
  have hc : ∀ o', w.cell? ⟨t, o', none⟩ = tc.cells[o']? := cell_of h
  have hf : ∀ o, w.frozen? ⟨t, o, none⟩ = false := frozen_of h
  have hmf : ∀ (fn : Fn) (first cap : Array Value) (w : World), (Instr.makeFunc fn first cap).run Try.prog w = .ok (.func fn first cap) w := fun _ _ _ _ => rfl
  simp only [Tc.cells] at hc
  go_enter Try.func30, Try.ntmps30
  go_wp2
  go_end0
  refine ⟨rfl, ?_, ?_⟩
  · refine block_alloc_lt ((block_set_same (block_set_same (block_set_same (block_set_same (block_set_same h _ _) _ _) _ _) _ _) _ _).trans ?_) _
    simp [Tc.cells]
  · exact ((((((Kept.refl _ w).setCell (.inl (by simp)) _).setCell (.inl (by simp)) _).setCell (.inl (by simp)) _).setCell (.inl (by simp)) _).setCell (.inl (by simp)) _).alloc _
set_option maxRecDepth 100000 in
set_option maxHeartbeats 800000 in
theorem g_tbegin_2 (tc : Tc) (t : Nat) (kind key val old : Int) (w : World) (e1 : ¬ kind = 1) (h : w.heap[t]? = some (.cells tc.cells 103 (0, 0))) :
    Calls Try.prog 30 #[.pointer (some ⟨t, 0, none⟩), .agg #[.int .i64 kind, .int .i64 key, .int .i64 val, .int .i64 old]] w fun e w' => e = .returned (.tuple #[]) ∧ w'.heap[t]? = some (.cells { tc with kind := kind, key := key, val := val, old := old, nx := .func (.func 51) #[.pointer (some ⟨t, 0, none⟩)] #[] }.cells 103 (0, 0)) ∧ Kept [t] w w' := by
  have hs := lt_of_block h
  have hc : ∀ o', w.cell? ⟨t, o', none⟩ = tc.cells[o']? := cell_of h
  have hf : ∀ o, w.frozen? ⟨t, o, none⟩ = false := frozen_of h
  have hmf : ∀ (fn : Fn) (first cap : Array Value) (w : World), (Instr.makeFunc fn first cap).run Try.prog w = .ok (.func fn first cap) w := fun _ _ _ _ => rfl
  simp only [Tc.cells] at hc
  go_enter Try.func30, Try.ntmps30
  go_wp2
  go_end0
  refine ⟨rfl, ?_, ?_⟩
  · refine block_alloc_lt ((block_set_same (block_set_same (block_set_same (block_set_same (block_set_same h _ _) _ _) _ _) _ _) _ _).trans ?_) _
    simp [Tc.cells]
  · exact ((((((Kept.refl _ w).setCell (.inl (by simp)) _).setCell (.inl (by simp)) _).setCell (.inl (by simp)) _).setCell (.inl (by simp)) _).setCell (.inl (by simp)) _).alloc _
end Go.Proofs.Ytmnkphenobfbfaa
