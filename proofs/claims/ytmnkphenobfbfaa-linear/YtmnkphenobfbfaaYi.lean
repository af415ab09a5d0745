import Derived.Test.YtmnkphenobfbfaaYf
namespace Go.Proofs.Ytmnkphenobfbfaa
/-! The search for an order. -/
/-- An order of the calls that are left, from a plain map on. -/
structure Ok (h : Hist) (lf : Nat → Bool) (p : Nat → Int) (l : List Nat) : Prop where
  nodup : l.Nodup
  lt : ∀ c, c ∈ l → c < h.n ∧ lf c = true
  all : ∀ c, c < h.n → lf c = true → 0 < h.til c → c ∈ l
  pw : l.Pairwise (fun x y => ¬ h.before y x)
  ans : ∀ a x b, l = a ++ x :: b → 0 < h.til x → pans (pst h.ops p a) (h.ops x) = h.res x
theorem Ok.tail {h : Hist} {lf : Nat → Bool} {p : Nat → Int} {c : Nat} {l : List Nat} (o : Ok h lf p (c :: l)) : Ok h (put lf c false) (pnext p (h.ops c)) l := by
  have nd := List.nodup_cons.1 o.nodup
  refine ⟨nd.2, fun x hx => ?_, fun x hx hl ht => ?_, (List.pairwise_cons.1 o.pw).2, fun a x b e ht => ?_⟩
  · have := o.lt x (List.mem_cons_of_mem _ hx)
    refine ⟨this.1, ?_⟩
    rw [put_other _ _ fun q => by subst q; exact nd.1 hx]
    exact this.2
  · have hxc : ¬ x = c := fun q => by subst q; rw [put_same] at hl; cases hl
    rw [put_other _ _ hxc] at hl
    rcases List.mem_cons.1 (o.all x hx hl ht) with q | q
    · exact absurd q hxc
    · exact q
  · exact o.ans (c :: a) x b (by rw [e]; rfl) ht
theorem Ok.head {h : Hist} {lf : Nat → Bool} {p : Nat → Int} {c : Nat} {l : List Nat} (o : Ok h lf p (c :: l)) : (c < h.n ∧ lf c = true) ∧ (∀ k, k < h.n → lf k = true → ¬ k = c → 0 < h.til k → ¬ h.til k < h.frm c) ∧ (0 < h.til c → pans p (h.ops c) = h.res c) := by
  refine ⟨o.lt c (List.mem_cons_self ..), fun k hk hl hkc ht q => ?_, fun ht => o.ans [] c l rfl ht⟩
  rcases List.mem_cons.1 (o.all k hk hl ht) with r | r
  · exact hkc r
  · exact (List.pairwise_cons.1 o.pw).1 k r ⟨ht, q⟩
theorem Order.ok {h : Hist} {p : Nat → Int} {l : List Nat} (o : Order h p l) (ha : ∀ c, c < h.n → 0 < h.til c → c ∈ l) {lf : Nat → Bool} (hl : ∀ c, c < h.n → lf c = true) : Ok h lf p l :=
  ⟨o.nodup, fun c hc => ⟨o.lt c hc, hl c (o.lt c hc)⟩, fun c hc _ ht => ha c hc ht, o.pw, o.ans⟩
/-- Is one that is done among the first k that are left? -/
def opn (h : Hist) (lf : Nat → Bool) : Nat → Bool
  | 0 => false
  | k + 1 => opn h lf k || (lf k && decide (0 < h.til k))
theorem opn_not {h : Hist} {lf : Nat → Bool} {n : Nat} (e : opn h lf n = false) : ∀ k, k < n → lf k = true → ¬ 0 < h.til k := by
  induction n with
  | zero => intro k hk; omega
  | succ n ih =>
    simp only [opn, Bool.or_eq_false_iff] at e
    intro k hk hl ht
    by_cases q : k = n
    · subst q
      rw [hl, decide_eq_true ht] at e
      cases e.2
    · exact ih e.1 k (by omega) hl ht
theorem opn_some {h : Hist} {lf : Nat → Bool} {n : Nat} (e : opn h lf n = true) : ∃ k, k < n ∧ lf k = true ∧ 0 < h.til k := by
  induction n with
  | zero => cases e
  | succ n ih =>
    simp only [opn, Bool.or_eq_true, Bool.and_eq_true, decide_eq_true_eq] at e
    rcases e with q | q
    · obtain ⟨k, h1, h2⟩ := ih q
      exact ⟨k, by omega, h2⟩
    · exact ⟨n, by omega, q⟩
/-- None of the first k that are left was done before i began. -/
def frst (h : Hist) (lf : Nat → Bool) (i : Nat) : Nat → Bool
  | 0 => true
  | k + 1 => if lf k = true ∧ ¬ k = i ∧ 0 < h.til k ∧ h.til k < h.frm i then false else frst h lf i k
theorem frst_yes {h : Hist} {lf : Nat → Bool} {i n : Nat} (e : ∀ k, k < n → lf k = true → ¬ k = i → 0 < h.til k → ¬ h.til k < h.frm i) : frst h lf i n = true := by
  induction n with
  | zero => rfl
  | succ n ih =>
    unfold frst
    rw [if_neg fun q => e n (by omega) q.1 q.2.1 q.2.2.1 q.2.2.2]
    exact ih fun k hk => e k (by omega)
/-- How many are left. -/
def cntL (lf : Nat → Bool) : Nat → Nat
  | 0 => 0
  | k + 1 => cntL lf k + if lf k = true then 1 else 0
theorem cntL_same {lf : Nat → Bool} {i : Nat} : ∀ n, n ≤ i → cntL (put lf i false) n = cntL lf n
  | 0, _ => rfl
  | n + 1, h => by
    unfold cntL
    rw [cntL_same n (by omega), put_other _ _ (by omega)]
theorem cntL_lt {lf : Nat → Bool} {i n : Nat} (hi : i < n) (hl : lf i = true) : cntL (put lf i false) n < cntL lf n := by
  induction n with
  | zero => omega
  | succ n ih =>
    unfold cntL
    by_cases q : n = i
    · subst q
      rw [cntL_same n (Nat.le_refl n), put_same, hl]
      simp
    · rw [put_other _ _ q]
      have := ih (by omega)
      omega
/-- No order begins ahead of i. -/
def From (h : Hist) (lf : Nat → Bool) (p : Nat → Int) (i : Nat) : Prop := ∀ c l, Ok h lf p (c :: l) → i ≤ c
theorem From.next {h : Hist} {lf : Nat → Bool} {p : Nat → Int} {i : Nat} (f : From h lf p i) (no : ∀ l, Ok h lf p (i :: l) → False) : From h lf p (i + 1) := fun c l o => by
  have := f c l o
  by_cases q : c = i
  · subst q; exact (no l o).elim
  · omega
theorem From.end_ {h : Hist} {lf : Nat → Bool} {p : Nat → Int} (f : From h lf p h.n) (ho : opn h lf h.n = true) (l : List Nat) : ¬ Ok h lf p l := fun o => by
  cases l with
  | nil =>
    obtain ⟨k, h1, h2, h3⟩ := opn_some ho
    have := o.all k h1 h2 h3
    cases this
  | cons c l =>
    have := f c l o
    have := o.head.1.1
    omega
end Go.Proofs.Ytmnkphenobfbfaa
namespace Go.Proofs.Ytmnkphenobfbfaa
/-! The calls that three threads make, one step behind the other. -/
structure HInv (m : M) (h : Hist) (p0 : Nat → Int) (cur : Nat → Option Nat) (now : Nat) : Prop where
  linv : ∃ l det, LInv m h p0 cur l det now
  nth : m.nth = 3
  cl : m.cl = false
  n7 : h.n ≤ 7
  und : ∀ c, h.til c = 0 ∨ h.n ≤ c → h.res c = (false, 0)
  kinds : ∀ c, c < h.n → 0 ≤ (h.ops c).kind ∧ (h.ops c).kind ≤ 3 ∧ (h.ops c).key < 8
theorem HInv.later {m : M} {h : Hist} {p0 : Nat → Int} {cur : Nat → Option Nat} {now now' : Nat} (H : HInv m h p0 cur now) (hn : now ≤ now') : HInv m h p0 cur now' := by
  obtain ⟨l, det, L⟩ := H.linv
  exact { H with linv := ⟨l, det, L.later hn⟩ }
theorem HInv.cur_ {m : M} {h : Hist} {p0 : Nat → Int} {cur : Nat → Option Nat} {now t c : Nat} (H : HInv m h p0 cur now) (ht : t < 3) (hc : cur t = some c) : c < h.n ∧ h.til c = 0 := by
  obtain ⟨l, det, L⟩ := H.linv
  have := L.curOk t c (by rw [H.nth]; exact ht) hc
  exact ⟨this.1, this.2.1⟩
theorem HInv.times {m : M} {h : Hist} {p0 : Nat → Int} {cur : Nat → Option Nat} {now : Nat} (H : HInv m h p0 cur now) : ∀ c, c < h.n → h.frm c ≤ now ∧ h.til c ≤ now := by
  obtain ⟨l, det, L⟩ := H.linv
  exact L.time
theorem HInv.begin_ {m : M} {h : Hist} {p0 : Nat → Int} {cur : Nat → Option Nat} {now t : Nat} (H : HInv m h p0 cur now) (ht : t < 3) (hc : cur t = none) (hn : h.n < 7) {kind val old : Int} {key : Nat} (hop : OpOk kind key val old) :
    (m.begin t kind key val old).1 = 0 ∧ HInv (m.begin t kind key val old).2 (h.more ⟨kind, key, val, old⟩ (now + 1)) p0 (put cur t (some h.n)) (now + 1) := by
  obtain ⟨l, det, L⟩ := H.linv
  have hi : t < m.nth := by rw [H.nth]; exact ht
  have hb : m.begin t kind key val old = (0, m.thr t ⟨kind, key, val, old, 1, -1, 0, 0, 0⟩) := by
    unfold M.begin
    rw [if_neg (by rw [H.cl]; simp), if_neg (by rintro (q | q | q); omega; omega; exact q hop), Int.toNat_natCast, if_neg (by rw [(L.idle t hi).2 hc]; omega)]
  have hI := inv_begin L.inv t kind key val old
  rw [hb] at hI ⊢
  have L1 := l_begin (L.later (now' := now + 1) (by omega)) hi hc hI
  rw [Int.toNat_natCast] at L1
  refine ⟨rfl, ⟨⟨l, det, L1⟩, H.nth, H.cl, by show h.n + 1 ≤ 7; omega, fun c hc => ?_, fun c hc => ?_⟩⟩
  · show h.res c = _
    have hc' : put h.til h.n 0 c = 0 ∨ h.n + 1 ≤ c := hc
    by_cases q : c = h.n
    · exact H.und c (.inr (by omega))
    · rw [put_other _ _ q] at hc'
      exact H.und c (by omega)
  · have hc' : c < h.n + 1 := hc
    show 0 ≤ (put h.ops h.n _ c).kind ∧ (put h.ops h.n _ c).kind ≤ 3 ∧ (put h.ops h.n _ c).key < 8
    unfold OpOk at hop
    by_cases q : c = h.n
    · subst q; rw [put_same]; dsimp only; omega
    · rw [put_other _ _ q]; exact H.kinds c (by omega)
theorem HInv.step_ {m : M} {h : Hist} {p0 : Nat → Int} {cur : Nat → Option Nat} {now t c : Nat} (H : HInv m h p0 cur now) (ht : t < 3) (hc : cur t = some c) :
    ((m.step t).err = 4 ∧ HInv (m.step t).o.m h p0 cur (now + 1)) ∨ ((m.step t).err = 0 ∧ (m.step t).o.d = false ∧ HInv (m.step t).o.m h p0 cur (now + 1)) ∨
    ((m.step t).err = 0 ∧ (m.step t).o.d = true ∧ HInv (m.step t).o.m (h.done c (now + 1) ((m.step t).o.f, (m.step t).o.v)) p0 (put cur t none) (now + 1)) := by
  obtain ⟨l, det, L⟩ := H.linv
  have hi : t < m.nth := by rw [H.nth]; exact ht
  have L1 := L.later (now' := now + 1) (by omega)
  have ha : ¬ (m.ths t).at_ = 0 := fun q => by rw [(L.idle t hi).1 q] at hc; cases hc
  have hcn := (L.curOk t c hi hc).1
  unfold M.step
  rw [if_neg (by rw [H.cl]; simp), if_neg (by omega), Int.toNat_natCast, if_neg ha]
  cases hd : m.does t with
  | none => exact .inl ⟨rfl, { H with linv := ⟨l, det, L1⟩ }⟩
  | some o =>
    have hs := so_does hd
    have hA := l_does L1 hi hc (by omega) hd
    dsimp only
    cases e : o.d with
    | false => exact .inr (.inl ⟨rfl, rfl, hA.1 e, hs.nth.trans H.nth, hs.cl.trans H.cl, H.n7, H.und, H.kinds⟩)
    | true =>
      refine .inr (.inr ⟨rfl, rfl, hA.2 e, hs.nth.trans H.nth, hs.cl.trans H.cl, H.n7, fun x hx => ?_, H.kinds⟩)
      have hx' : put h.til c (now + 1) x = 0 ∨ h.n ≤ x := hx
      show put h.res c _ x = _
      by_cases q : x = c
      · subst q; rw [put_same] at hx'; omega
      · rw [put_other _ _ q] at hx' ⊢; exact H.und x hx'
theorem h_start {m : M} {p0 : Nat → Int} (hI : m.Inv) (hT : Tab m) (hr : ∀ i, i < m.nth → (m.ths i).at_ = 0) (hp : ∀ k, k < 8 → p0 k = m.valE (m.bnd k)) (hn : m.nth = 3) (hcl : m.cl = false) :
    HInv m ⟨0, fun _ => ⟨0, 0, 0, 0⟩, fun _ => 0, fun _ => 0, fun _ => (false, 0)⟩ p0 (fun _ => none) 0 :=
  ⟨⟨[], fun _ => none, l_rest hI hT hr hp _ _ _ _⟩, hn, hcl, by show 0 ≤ 7; omega, fun _ _ => rfl, fun c (hc : c < 0) => by omega⟩
theorem HInv.ok {m : M} {h : Hist} {p0 : Nat → Int} {cur : Nat → Option Nat} {now : Nat} (H : HInv m h p0 cur now) {lf : Nat → Bool} (hl : ∀ c, c < h.n → lf c = true) : ∃ l, Ok h lf p0 l := by
  obtain ⟨l, det, L⟩ := H.linv
  exact ⟨l, L.ord.ok L.all hl⟩
end Go.Proofs.Ytmnkphenobfbfaa
