import Derived.Test.YtfgfpggjcfhccaaGreatPm
import Derived.Test.YtfgfpggjcfhccaaGreatMu
namespace Go.Proofs.YtfgfpggjcfhccaaGreat
open Go.RowKit
/-! The program's map, over the document's machine. -/
/-- An entry's place as a pointer. -/
def ptrE (en : Nat → Nat) (x : Int) : Option Addr := if x < 0 then none else some ⟨en x.toNat, 0, none⟩
theorem ptrE_none {en : Nat → Nat} {x : Int} (h : x < 0) : ptrE en x = none := by simp [ptrE, h]
theorem ptrE_some {en : Nat → Nat} {x : Int} (h : 0 ≤ x) : ptrE en x = some ⟨en x.toNat, 0, none⟩ := by
  have : ¬ x < 0 := by omega
  simp [ptrE, this]
/-- Which of the program's methods is the step. -/
def fnOf (kind at_ : Int) : Nat :=
  if kind = 0 then
    if at_ = 1 then 68 else if at_ = 2 then 82 else if at_ = 3 then 88 else if at_ = 4 then 93 else if at_ = 5 then 99
    else if at_ = 51 then 104 else if at_ = 52 then 112 else if at_ = 53 then 116 else if at_ = 6 then 92 else 80
  else if kind = 1 then
    if at_ = 1 then 69 else if at_ = 2 then 84 else if at_ = 3 then 90 else if at_ = 4 then 83 else if at_ = 5 then 89
    else if at_ = 6 then 95 else if at_ = 7 then 103 else if at_ = 8 then 94 else if at_ = 9 then 102 else if at_ = 10 then 115
    else if at_ = 11 then 114 else if at_ = 12 then 101 else if at_ = 13 then 100 else 106
  else 70
def thNext (t : Nat) (kind at_ : Int) : Value := .func (.func (fnOf kind at_)) #[.pointer (some ⟨t, 0, none⟩)] #[]
/-- A thread's cells. -/
def tcOf (en : Nat → Nat) (i s t : Nat) (h : Thr) (cp : Int) : Tc :=
  if h.at_ = 0 then ⟨i, s, 0, 0, 0, 0, none, 0, 0, 0, .nilFunc⟩
  else ⟨i, s, h.kind, h.key, h.val, h.old, ptrE en h.e, h.sst, h.sv, cp, thNext t h.kind h.at_⟩
theorem tcOf_idle {en : Nat → Nat} {i s t : Nat} {h : Thr} {cp : Int} (e : h.at_ = 0) : tcOf en i s t h cp = ⟨i, s, 0, 0, 0, 0, none, 0, 0, 0, .nilFunc⟩ := if_pos e
theorem tcOf_busy {en : Nat → Nat} {i s t : Nat} {h : Thr} {cp : Int} (e : ¬ h.at_ = 0) : tcOf en i s t h cp = ⟨i, s, h.kind, h.key, h.val, h.old, ptrE en h.e, h.sst, h.sv, cp, thNext t h.kind h.at_⟩ := if_neg e
theorem tcOf_i (en : Nat → Nat) (i s t : Nat) (h : Thr) (cp : Int) : (tcOf en i s t h cp).i = i := by unfold tcOf; split <;> rfl
theorem tcOf_s (en : Nat → Nat) (i s t : Nat) (h : Thr) (cp : Int) : (tcOf en i s t h cp).s = s := by unfold tcOf; split <;> rfl
def shOf (en : Nat → Nat) (m : M) : Sh := ⟨fun k => ptrE en (m.read k), m.am, fun k => ptrE en (m.dirty k), m.hd, m.mis, m.hol⟩
/-- The program's map lies at p, its entries at en; 'l': the word of the calls' lock. -/
structure GAt (p : PM) (en : Nat → Nat) (l : Int) (m : M) (w : World) : Prop where
  len : p.ts.length = m.nth
  nth : m.nth ≤ 6
  cap : p.ts.length ≤ p.cap
  mp : w.heap[p.m]? = some (.cells (pmCells p l) 78 (0, 0))
  c : w.heap[p.c]? = some (.chan 0 #[] m.cl 0 0 false)
  s : w.heap[p.s]? = some (.cells (shOf en m).cells 111 (0, 0))
  tb : ∃ cs : Array Value, w.heap[p.tb]? = some (.cells cs 79 (0, 0)) ∧ ∀ (i t : Nat), p.ts[i]? = some t → cs[i]? = some (.pointer (some ⟨t, 0, none⟩))
  ts : ∀ (i t : Nat), p.ts[i]? = some t → ∃ cp, ((m.ths i).at_ = 10 → cp = (m.ths i).next) ∧ w.heap[t]? = some (.cells (tcOf en i p.s t (m.ths i) cp).cells 116 (0, 0))
  es : ∀ j, j < m.nc → w.heap[en j]? = some (.cells #[.int .i64 (m.cells j).st, .int .i64 (m.cells j).v] 141 (0, 0))
  inj : ∀ j j', j < m.nc → j' < m.nc → en j = en j' → j = j'
/-- The blocks that a step may write. -/
def fp (p : PM) (en : Nat → Nat) (m : M) : List Nat := p.s :: (p.ts ++ (List.range m.nc).map en)
theorem mem_fp_s (p : PM) (en : Nat → Nat) (m : M) : p.s ∈ fp p en m := by simp [fp]
theorem mem_fp_t {p : PM} {i t : Nat} (h : p.ts[i]? = some t) (en : Nat → Nat) (m : M) : t ∈ fp p en m := by
  have := List.mem_of_getElem? h
  simp [fp, this]
theorem mem_fp_e (p : PM) (en : Nat → Nat) {m : M} {j : Nat} (h : j < m.nc) : en j ∈ fp p en m := by
  simp only [fp, List.mem_cons, List.mem_append, List.mem_map, List.mem_range]
  exact .inr (.inr ⟨j, h, rfl⟩)
theorem tc_head {tc tc' : Tc} (h : tc.cells = tc'.cells) : tc.i = tc'.i := by
  have e : tc.cells[0]? = tc'.cells[0]? := by rw [h]
  simp only [Tc.cells, List.getElem?_toArray, List.getElem?_cons_zero, Option.some.injEq, Value.int.injEq, true_and] at e
  omega
/-- All blocks of the map that a step writes, and what they hold behind it. -/
theorem GAt.go {p : PM} {en en' : Nat → Nat} {l : Int} {m m' : M} {w w' : World} {F : List Nat} (h : GAt p en l m w) {i t : Nat} (ht : p.ts[i]? = some t) (k : Kept F w w')
    (hF : ∀ x, x ∈ F → x = t ∨ x = p.s ∨ ∃ j, j < m.nc ∧ x = en j)
    (e1 : m'.nth = m.nth) (e2 : m'.cl = m.cl) (e4 : ∀ j, j < m.nc → en' j = en j) (e5 : ∀ j, m.nc ≤ j → j < m'.nc → w.heap.size ≤ en' j) (e6 : ∀ j j', m.nc ≤ j → j < m'.nc → m.nc ≤ j' → j' < m'.nc → en' j = en' j' → j = j')
    (e7 : ∀ j, j ≠ i → m'.ths j = m.ths j) (e8 : ∀ j, j < m.nth → j ≠ i → (m.ths j).at_ = 0 ∨ (m.ths j).e < m.nc)
    (bt : ∃ cp, ((m'.ths i).at_ = 10 → cp = (m'.ths i).next) ∧ w'.heap[t]? = some (.cells (tcOf en' i p.s t (m'.ths i) cp).cells 116 (0, 0)))
    (bs : w'.heap[p.s]? = some (.cells (shOf en' m').cells 111 (0, 0)))
    (be : ∀ j, j < m'.nc → w'.heap[en' j]? = some (.cells #[.int .i64 (m'.cells j).st, .int .i64 (m'.cells j).v] 141 (0, 0))) : GAt p en' l m' w' := by
  obtain ⟨cs', g1, g2⟩ := h.tb
  obtain ⟨cp0, _, hb0⟩ := h.ts i t ht
  have off : ∀ {b : Nat} {o : Obj}, w.heap[b]? = some o → (∀ cs, o ≠ .cells cs 116 (0, 0)) → (∀ cs, o ≠ .cells cs 111 (0, 0)) → (∀ cs, o ≠ .cells cs 141 (0, 0)) → w'.heap[b]? = some o := by
    intro b o hb n1 n2 n3
    refine k.at hb fun hx => ?_
    rcases hF b hx with rfl | rfl | ⟨j, hj, rfl⟩
    · exact n1 _ (Option.some.inj (hb.symm.trans hb0))
    · exact n2 _ (Option.some.inj (hb.symm.trans h.s))
    · exact n3 _ (Option.some.inj (hb.symm.trans (h.es j hj)))
  refine ⟨by rw [e1]; exact h.len, by rw [e1]; exact h.nth, h.cap, off h.mp (by simp) (by simp) (by simp), ?_, bs, ⟨cs', off g1 (by simp) (by simp) (by simp), g2⟩, fun j t' hj => ?_, be, ?_⟩
  · rw [e2]; exact off h.c (by simp) (by simp) (by simp)
  · by_cases hji : j = i
    · subst hji
      have : t' = t := Option.some.inj (hj.symm.trans ht)
      subst this
      exact bt
    · obtain ⟨cp, hcp, hb⟩ := h.ts j t' hj
      refine ⟨cp, by rw [e7 j hji]; exact hcp, ?_⟩
      have hpe : tcOf en' j p.s t' (m'.ths j) cp = tcOf en j p.s t' (m.ths j) cp := by
        rw [e7 j hji]
        unfold tcOf
        split
        · rfl
        · rename_i hat
          have hlt := (e8 j (by rw [← h.len]; exact (List.getElem?_eq_some_iff.1 hj).1) hji).resolve_left hat
          have : ptrE en' (m.ths j).e = ptrE en (m.ths j).e := by
            unfold ptrE
            split
            · rfl
            · rw [e4 _ (by omega)]
          rw [this]
      rw [hpe]
      refine k.at hb fun hx => ?_
      rcases hF t' hx with rfl | rfl | ⟨a, ha, rfl⟩
      · have e := hb.symm.trans hb0
        simp only [Option.some.injEq, Obj.cells.injEq, and_true] at e
        have := tc_head e
        rw [tcOf_i, tcOf_i] at this
        exact hji this
      · exact absurd (hb.symm.trans h.s) (by simp)
      · exact absurd (hb.symm.trans (h.es a ha)) (by simp)
  · intro j j' hj hj' ee
    by_cases a : j < m.nc
    · by_cases b : j' < m.nc
      · rw [e4 j a, e4 j' b] at ee
        exact h.inj j j' a b ee
      · have := e5 j' (by omega) hj'
        have := lt_of_block (h.es j a)
        rw [e4 j a] at ee
        omega
    · by_cases b : j' < m.nc
      · have := e5 j (by omega) hj
        have := lt_of_block (h.es j' b)
        rw [e4 j' b] at ee
        omega
      · exact e6 j j' (by omega) hj (by omega) hj' ee
theorem M.Inv.es {m : M} (hI : m.Inv) (i : Nat) : ∀ j, j < m.nth → j ≠ i → (m.ths j).at_ = 0 ∨ (m.ths j).e < m.nc :=
  fun j hj _ => (hI.th j hj).imp id fun a => a.e.2
/-- Nothing but the thread. -/
theorem GAt.goT {p : PM} {en : Nat → Nat} {l : Int} {m : M} {w w' : World} (h : GAt p en l m w) (hI : m.Inv) {i t : Nat} (ht : p.ts[i]? = some t) (k : Kept [t] w w') (th : Thr) (cp : Int) (hcp : th.at_ = 10 → cp = th.next) {tc : Tc}
    (hb : w'.heap[t]? = some (.cells tc.cells 116 (0, 0))) (he : tcOf en i p.s t th cp = tc) : GAt p en l (m.thr i th) w' := by
  obtain ⟨cp0, _, hb0⟩ := h.ts i t ht
  refine h.go ht k (fun x hx => .inl (by simpa using hx)) rfl rfl (fun _ _ => rfl) (fun j h1 h2 => absurd h2 (by show ¬ j < m.nc; omega)) (fun j _ h1 h2 _ _ _ => absurd h2 (by show ¬ j < m.nc; omega)) (fun j hj => put_other _ _ hj) (hI.es i) ⟨cp, ?_, ?_⟩ (k.at h.s (by simpa using ne_of_blocks h.s hb0 (by simp))) (fun j hj => k.at (h.es j hj) (by simpa using ne_of_blocks (h.es j hj) hb0 (by simp)))
  · rw [thr_ths]; exact hcp
  · rw [thr_ths, he]; exact hb
/-- The thread, and what is shared. -/
theorem GAt.goTS {p : PM} {en : Nat → Nat} {l : Int} {m : M} {w w' : World} (h : GAt p en l m w) (hI : m.Inv) {i t : Nat} (ht : p.ts[i]? = some t) (k : Kept [t, p.s] w w') (m' : M) (e1 : m'.nth = m.nth) (e2 : m'.cl = m.cl) (e3 : m'.nc = m.nc) (e4 : m'.cells = m.cells) (e5 : m'.ths = m.ths) (th : Thr) (cp : Int) (hcp : th.at_ = 10 → cp = th.next) {tc : Tc}
    (hb : w'.heap[t]? = some (.cells tc.cells 116 (0, 0))) (he : tcOf en i p.s t th cp = tc) {sh : Sh} (hs : w'.heap[p.s]? = some (.cells sh.cells 111 (0, 0))) (hse : shOf en m' = sh) : GAt p en l (m'.thr i th) w' := by
  obtain ⟨cp0, _, hb0⟩ := h.ts i t ht
  refine h.go ht k (fun x hx => by simp only [List.mem_cons, List.not_mem_nil, or_false] at hx; exact hx.imp id .inl) e1 e2 (fun _ _ => rfl) (fun j h1 h2 => absurd h2 (by show ¬ j < m'.nc; omega)) (fun j _ h1 h2 _ _ _ => absurd h2 (by show ¬ j < m'.nc; omega)) (fun j hj => ?_) (hI.es i) ⟨cp, ?_, ?_⟩ ?_ (fun j hj => ?_)
  · show put m'.ths i th j = m.ths j
    rw [put_other _ _ hj, e5]
  · rw [thr_ths]; exact hcp
  · rw [thr_ths, he]; exact hb
  · show w'.heap[p.s]? = some (.cells (shOf en m').cells 111 (0, 0))
    rw [hse]; exact hs
  · have hj' : j < m.nc := by rw [← e3]; exact hj
    show w'.heap[en j]? = some (.cells #[.int .i64 (m'.cells j).st, .int .i64 (m'.cells j).v] 141 (0, 0))
    rw [e4]
    refine k.at (h.es j hj') ?_
    simp only [List.mem_cons, List.not_mem_nil, or_false, not_or]
    exact ⟨ne_of_blocks (h.es j hj') hb0 (by simp), ne_of_blocks (h.es j hj') h.s (by simp)⟩
/-- The thread, and an entry. -/
theorem GAt.goTE {p : PM} {en : Nat → Nat} {l : Int} {m : M} {w w' : World} (h : GAt p en l m w) (hI : m.Inv) {i t : Nat} (ht : p.ts[i]? = some t) {a : Nat} (ha : a < m.nc) (k : Kept [t, en a] w w') (x y : Int) (th : Thr) (cp : Int) (hcp : th.at_ = 10 → cp = th.next) {tc : Tc}
    (hb : w'.heap[t]? = some (.cells tc.cells 116 (0, 0))) (he : tcOf en i p.s t th cp = tc) (hE : w'.heap[en a]? = some (.cells #[.int .i64 x, .int .i64 y] 141 (0, 0))) : GAt p en l ({ m with cells := put m.cells a ⟨x, y⟩ }.thr i th) w' := by
  obtain ⟨cp0, _, hb0⟩ := h.ts i t ht
  refine h.go ht k (fun x hx => by simp only [List.mem_cons, List.not_mem_nil, or_false] at hx; exact hx.imp id fun q => .inr ⟨a, ha, q⟩) rfl rfl (fun _ _ => rfl) (fun j h1 h2 => absurd h2 (by show ¬ j < m.nc; omega)) (fun j _ h1 h2 _ _ _ => absurd h2 (by show ¬ j < m.nc; omega)) (fun j hj => put_other _ _ hj) (hI.es i) ⟨cp, ?_, ?_⟩ ?_ (fun j hj => ?_)
  · rw [thr_ths]; exact hcp
  · rw [thr_ths, he]; exact hb
  · refine k.at h.s ?_
    simp only [List.mem_cons, List.not_mem_nil, or_false, not_or]
    exact ⟨ne_of_blocks h.s hb0 (by simp), ne_of_blocks h.s (h.es a ha) (by simp)⟩
  · have hj' : j < m.nc := hj
    show w'.heap[en j]? = some (.cells #[.int .i64 (put m.cells a ⟨x, y⟩ j).st, .int .i64 (put m.cells a ⟨x, y⟩ j).v] 141 (0, 0))
    by_cases q : j = a
    · subst q; rw [put_same]; exact hE
    · rw [put_other _ _ q]
      refine k.at (h.es j hj') ?_
      simp only [List.mem_cons, List.not_mem_nil, or_false, not_or]
      exact ⟨ne_of_blocks (h.es j hj') hb0 (by simp), fun e => q (h.inj j a hj' ha e)⟩
/-- What a step that is done leaves. -/
def GSome (p : PM) (en : Nat → Nat) (l : Int) (m : M) (w : World) (o : Out) (e : Ending) (w' : World) : Prop :=
  e = .returned (ans o.d o.f o.v 0) ∧ ∃ en', GAt p en' l o.m w' ∧ (∀ j, j < m.nc → en' j = en j) ∧ (∀ j, m.nc ≤ j → j < o.m.nc → w.heap.size ≤ en' j) ∧ Kept (fp p en m) w w'
def GDoes (n : Nat) (p : PM) (en : Nat → Nat) (l : Int) (m : M) (t : Nat) (o : Out) (w : World) : Prop :=
  Calls Tryz.prog n #[.pointer (some ⟨t, 0, none⟩)] w (GSome p en l m w o)
theorem gsome {p : PM} {en : Nat → Nat} {l : Int} {m : M} {w w' : World} {o : Out} {F : List Nat} (g : GAt p en l o.m w') (hn : o.m.nc = m.nc) (k : Kept F w w') (hF : ∀ x, x ∈ F → x ∈ fp p en m) : GSome p en l m w o (.returned (ans o.d o.f o.v 0)) w' :=
  ⟨rfl, en, g, fun _ _ => rfl, fun j h1 h2 => absurd h2 (by omega), k.mono hF⟩
end Go.Proofs.YtfgfpggjcfhccaaGreat
