import Derived.Test.YtmnkphenobfbfaaXg
namespace Go.Proofs.Ytmnkphenobfbfaa
/-! Orders of calls, and a plain map. -/
/-- An operation. -/
structure Opn where
  kind : Int
  key : Nat
  val : Int
  old : Int
/-- What a plain map answers. -/
def pans (p : Nat → Int) (o : Opn) : Bool × Int :=
  if o.kind = 1 then (true, o.val) else if o.kind = 3 ∧ ¬ p o.key = o.old then (false, 0) else (decide (0 < p o.key), p o.key)
/-- The plain map behind it. -/
def pnext (p : Nat → Int) (o : Opn) : Nat → Int :=
  if o.kind = 1 then put p o.key o.val else if o.kind = 2 then put p o.key 0 else if o.kind = 3 ∧ p o.key = o.old then put p o.key o.val else p
/-- The plain map behind a list of calls. -/
def pst (ops : Nat → Opn) (p0 : Nat → Int) : List Nat → Nat → Int
  | [] => p0
  | c :: l => pst ops (pnext p0 (ops c)) l
theorem pst_append (ops : Nat → Opn) (p0 : Nat → Int) (a b : List Nat) : pst ops p0 (a ++ b) = pst ops (pst ops p0 a) b := by
  induction a generalizing p0 with
  | nil => rfl
  | cons c l ih => exact ih _
theorem pst_snoc (ops : Nat → Opn) (p0 : Nat → Int) (a : List Nat) (c : Nat) : pst ops p0 (a ++ [c]) = pnext (pst ops p0 a) (ops c) := pst_append ops p0 a [c]
/-- The calls that there are. -/
structure Hist where
  n : Nat
  ops : Nat → Opn
  frm : Nat → Nat
  til : Nat → Nat
  res : Nat → Bool × Int
/-- y was done before x began. -/
def Hist.before (h : Hist) (y x : Nat) : Prop := 0 < h.til y ∧ h.til y < h.frm x
/-- An order: of calls that there are, none twice, none ahead of one that was done before it began; each that is done answers as a plain map would. -/
structure Order (h : Hist) (p0 : Nat → Int) (l : List Nat) : Prop where
  nodup : l.Nodup
  lt : ∀ c, c ∈ l → c < h.n
  pw : l.Pairwise (fun x y => ¬ h.before y x)
  ans : ∀ a x b, l = a ++ x :: b → 0 < h.til x → pans (pst h.ops p0 a) (h.ops x) = h.res x
/-- A call more, that changes no later state. -/
theorem Order.insert {h : Hist} {p0 : Nat → Int} {a b : List Nat} (o : Order h p0 (a ++ b)) {c : Nat} (hc : c < h.n) (hn : c ∉ a ++ b) (hb : ∀ y, y ∈ b → ¬ h.before y c) (ha : ∀ y, y ∈ a → ¬ h.before c y)
    (hans : 0 < h.til c → pans (pst h.ops p0 a) (h.ops c) = h.res c)
    (hd : pnext (pst h.ops p0 a) (h.ops c) = pst h.ops p0 a ∨ ∃ d b', b = d :: b' ∧ h.til d = 0 ∧ pnext (pnext (pst h.ops p0 a) (h.ops c)) (h.ops d) = pnext (pst h.ops p0 a) (h.ops d)) :
    Order h p0 (a ++ c :: b) := by
  have hpw := List.pairwise_append.1 o.pw
  refine ⟨?_, fun x hx => ?_, ?_, fun a0 x b0 e hx => ?_⟩
  · have hnd := o.nodup
    rw [List.nodup_append] at hnd ⊢
    simp only [List.mem_append, not_or] at hn
    refine ⟨hnd.1, List.nodup_cons.2 ⟨hn.2, hnd.2.1⟩, fun x hx y hy => ?_⟩
    rcases List.mem_cons.1 hy with rfl | hy
    · intro q; subst q; exact hn.1 hx
    · exact hnd.2.2 x hx y hy
  · rcases List.mem_append.1 hx with q | q
    · exact o.lt x (List.mem_append_left _ q)
    · rcases List.mem_cons.1 q with rfl | q
      · exact hc
      · exact o.lt x (List.mem_append_right _ q)
  · refine List.pairwise_append.2 ⟨hpw.1, List.pairwise_cons.2 ⟨hb, hpw.2.1⟩, fun x hx y hy => ?_⟩
    rcases List.mem_cons.1 hy with rfl | hy
    · exact ha x hx
    · exact hpw.2.2 x hx y hy
  · rcases List.append_eq_append_iff.1 e with ⟨a', e1, e2⟩ | ⟨c', e1, e2⟩
    · cases a' with
      | nil =>
        simp only [List.append_nil, List.nil_append, List.cons.injEq] at e1 e2
        obtain ⟨rfl, rfl⟩ := e2
        subst e1
        exact hans hx
      | cons c1 a2 =>
        simp only [List.cons_append, List.cons.injEq] at e2
        obtain ⟨rfl, rfl⟩ := e2
        subst e1
        have key : pst h.ops p0 (a ++ c :: a2) = pst h.ops p0 (a ++ a2) := by
          rw [pst_append, pst_append]
          show pst h.ops (pnext (pst h.ops p0 a) (h.ops c)) a2 = _
          rcases hd with q | ⟨d, b', q1, q2, q3⟩
          · rw [q]
          · cases a2 with
            | nil =>
              simp only [List.nil_append, List.cons.injEq] at q1
              rw [q1.1] at hx
              omega
            | cons d2 a3 =>
              simp only [List.cons_append, List.cons.injEq] at q1
              rw [q1.1]
              show pst h.ops (pnext (pnext (pst h.ops p0 a) (h.ops c)) (h.ops d)) a3 = pst h.ops (pnext (pst h.ops p0 a) (h.ops d)) a3
              rw [q3]
        rw [key]
        exact o.ans (a ++ a2) x b0 (by simp) hx
    · cases c' with
      | nil =>
        simp only [List.append_nil, List.nil_append, List.cons.injEq] at e1 e2
        obtain ⟨rfl, rfl⟩ := e2
        subst e1
        exact hans hx
      | cons x1 c2 =>
        simp only [List.cons_append, List.cons.injEq] at e2
        obtain ⟨rfl, rfl⟩ := e2
        subst e1
        exact o.ans a0 x (c2 ++ b) (by simp) hx
end Go.Proofs.Ytmnkphenobfbfaa
namespace Go.Proofs.Ytmnkphenobfbfaa
/-! What must be of the machine and the order together. -/
/-- The entry under a key. -/
def M.bnd (m : M) (k : Nat) : Int := if 0 ≤ m.read k then m.read k else m.dirty k
/-- An entry's value; 0: it has none. -/
def M.valE (m : M) (e : Int) : Int := if e < 0 then 0 else if (m.cells e.toNat).st = 0 then (m.cells e.toNat).v else 0
def opOf (t : Thr) : Opn := ⟨t.kind, t.key.toNat, t.val, t.old⟩
/-- READ's first n keys stand in DIRTY, or are gone. -/
def M.madeTo (m : M) (n : Nat) : Prop := ∀ k, k < n → 0 ≤ m.read k → m.dirty k = m.read k ∨ (m.cells (m.read k).toNat).st = 2
structure Tab (m : M) : Prop where
  both : ∀ k, k < 8 → 0 ≤ m.dirty k → 0 ≤ m.read k → m.dirty k = m.read k
  none : m.am = false → ∀ k, k < 8 → m.read k < 0 → m.dirty k < 0
  live : ∀ k, k < 8 → 0 ≤ m.dirty k → ¬ (m.cells (m.dirty k).toNat).st = 2
  new : ∀ k, k < 8 → 0 ≤ m.dirty k → m.read k < 0 → (m.cells (m.dirty k).toNat).st = 0
  gone : m.am = true → ∀ k, k < 8 → 0 ≤ m.read k → m.dirty k < 0 → (m.cells (m.read k).toNat).st = 2 ∨ ∃ i, i < m.nth ∧ (m.ths i).kind = 1 ∧ (m.ths i).at_ = 7 ∧ m.key i = k
  inj : ∀ k k', k < 8 → k' < 8 → 0 ≤ m.bnd k → m.bnd k = m.bnd k' → k = k'
/-- The call could have found nothing at some moment since it began. -/
def Miss (h : Hist) (p0 : Nat → Int) (l : List Nat) (c k : Nat) : Prop := ∃ a b, l = a ++ b ∧ pst h.ops p0 a k = 0 ∧ ∀ y, y ∈ b → ¬ h.before y c
/-- The call can stand beside d. -/
def Slot (h : Hist) (l : List Nat) (c d : Nat) : Prop := ∃ a b, l = a ++ d :: b ∧ ∀ y, y ∈ b → ¬ h.before y c
/-- The call stands in the order, and finds nothing there. -/
def Nothing (h : Hist) (p0 : Nat → Int) (l : List Nat) (c k : Nat) : Prop := ∃ a b, l = a ++ c :: b ∧ pst h.ops p0 a k = 0
/-- An entry that is gone for ever. -/
def Lost (m : M) (e : Int) : Prop := (m.cells e.toNat).st = 2 ∧ ∀ k, k < 8 → ¬ m.bnd k = e
def HoldR (m : M) (h : Hist) (p0 : Nat → Int) (l : List Nat) (c k : Nat) (e : Int) : Prop := m.read k = e ∨ (Lost m e ∧ Miss h p0 l c k)
def HoldD (m : M) (h : Hist) (p0 : Nat → Int) (l : List Nat) (det : Nat → Option Nat) (c k : Nat) (e : Int) : Prop := m.bnd k = e ∨ (Lost m e ∧ Miss h p0 l c k) ∨ ∃ d, det e.toNat = some d ∧ (h.ops d).key = k ∧ Slot h l c d
/-- How it stands with a thread that is at call c. -/
structure TS (m : M) (h : Hist) (p0 : Nat → Int) (l : List Nat) (det : Nat → Option Nat) (t : Thr) (c : Nat) : Prop where
  sOut : t.kind = 1 → t.at_ ≤ 13 → c ∉ l
  sIn : t.kind = 1 → t.at_ = 14 → c ∈ l
  sHold : t.kind = 1 → t.at_ = 2 ∨ t.at_ = 3 → HoldR m h p0 l c t.key.toNat t.e
  s3 : t.kind = 1 → t.at_ = 3 → ¬ t.sst = 2
  s67 : t.kind = 1 → t.at_ = 6 ∨ t.at_ = 7 → m.read t.key.toNat = t.e
  s7 : t.kind = 1 → t.at_ = 7 ∨ t.at_ = 13 → ¬ (m.cells t.e.toNat).st = 2
  s13 : t.kind = 1 → t.at_ = 13 → m.bnd t.key.toNat = t.e
  s8 : t.kind = 1 → 8 ≤ t.at_ ∧ t.at_ ≤ 12 → m.read t.key.toNat < 0
  s9 : t.kind = 1 → 9 ≤ t.at_ ∧ t.at_ ≤ 12 → m.dirty t.key.toNat < 0
  sAm0 : t.kind = 1 → 9 ≤ t.at_ ∧ t.at_ ≤ 11 → m.am = false
  sAm1 : t.kind = 1 → t.at_ = 12 → m.am = true
  s10 : t.kind = 1 → t.at_ = 10 → m.madeTo t.next.toNat
  s11 : t.kind = 1 → t.at_ = 11 → m.madeTo 8
  s10n : t.kind = 1 → t.at_ = 10 → ∀ k, t.next.toNat ≤ k → k < 8 → m.dirty k < 0
  mid5 : (t.kind = 0 ∧ (t.at_ = 5 ∨ t.at_ = 51)) ∨ (t.kind = 3 ∧ (t.at_ = 6 ∨ t.at_ = 61)) → 0 ≤ t.e → m.dirty t.key.toNat = t.e
  dd : ∀ e, det e = some c → t.e = (e : Int)
  fOut : ¬ t.kind = 1 → t.at_ ≤ 4 → c ∉ l
  f4 : ¬ t.kind = 1 → t.at_ = 4 → m.read t.key.toNat < 0 ∧ m.am = true
  fAm1 : ¬ t.kind = 1 → (t.kind = 0 ∧ (t.at_ = 5 ∨ t.at_ = 51)) ∨ (¬ t.kind = 0 ∧ (t.at_ = 6 ∨ t.at_ = 61)) ∨ (t.kind = 2 ∧ t.at_ = 5) → m.am = true
  fAm0 : ¬ t.kind = 1 → (t.kind = 0 ∧ t.at_ = 52) ∨ (¬ t.kind = 0 ∧ t.at_ = 62) → m.am = false
  mid : (t.kind = 0 ∧ (t.at_ = 5 ∨ t.at_ = 6 ∨ 51 ≤ t.at_)) ∨ (t.kind = 3 ∧ (t.at_ = 6 ∨ t.at_ = 7 ∨ 61 ≤ t.at_)) → (0 ≤ t.e → c ∉ l ∧ m.bnd t.key.toNat = t.e) ∧ (t.e < 0 → Nothing h p0 l c t.key.toNat)
  fin : (t.kind = 0 ∧ t.at_ = 7) ∨ (t.kind = 3 ∧ (t.at_ = 8 ∨ t.at_ = 9)) → c ∉ l ∧ HoldD m h p0 l det c t.key.toNat t.e
  d5 : t.kind = 2 → t.at_ = 5 → (0 ≤ t.e → c ∉ l ∧ m.dirty t.key.toNat = t.e ∧ m.read t.key.toNat < 0) ∧ (t.e < 0 → Nothing h p0 l c t.key.toNat ∧ m.dirty t.key.toNat < 0)
  d6 : t.kind = 2 → t.at_ = 6 ∨ 61 ≤ t.at_ → (0 ≤ t.e → det t.e.toNat = some c) ∧ (t.e < 0 → Nothing h p0 l c t.key.toNat)
  d7 : t.kind = 2 → t.at_ = 7 → (0 ≤ t.e → det t.e.toNat = some c ∨ (c ∉ l ∧ m.read t.key.toNat = t.e)) ∧ (t.e < 0 → Nothing h p0 l c t.key.toNat)
  d8 : t.kind = 2 → t.at_ = 8 ∨ t.at_ = 9 → det t.e.toNat = some c ∨ (c ∉ l ∧ HoldR m h p0 l c t.key.toNat t.e)
  d9 : t.kind = 2 → t.at_ = 9 → t.sst = 0
structure LInv (m : M) (h : Hist) (p0 : Nat → Int) (cur : Nat → Option Nat) (l : List Nat) (det : Nat → Option Nat) (now : Nat) : Prop where
  inv : m.Inv
  ord : Order h p0 l
  all : ∀ c, c < h.n → 0 < h.til c → c ∈ l
  time : ∀ c, c < h.n → h.frm c ≤ now ∧ h.til c ≤ now
  idle : ∀ i, i < m.nth → ((m.ths i).at_ = 0 ↔ cur i = Option.none)
  curOk : ∀ i c, i < m.nth → cur i = some c → c < h.n ∧ h.til c = 0 ∧ h.ops c = opOf (m.ths i)
  curInj : ∀ i j c, i < m.nth → j < m.nth → cur i = some c → cur j = some c → i = j
  detInj : ∀ e e' d, det e = some d → det e' = some d → e = e'
  abs : ∀ k, k < 8 → pst h.ops p0 l k = m.valE (m.bnd k)
  tab : Tab m
  detOk : ∀ e d, det e = some d → e < m.nc ∧ (∀ k, k < 8 → ¬ m.bnd k = (e : Int)) ∧ (h.ops d).kind = 2 ∧ ∃ a b, l = a ++ d :: b ∧ ((m.cells e).st = 0 → h.til d = 0 ∧ pst h.ops p0 a (h.ops d).key = (m.cells e).v) ∧ (¬ (m.cells e).st = 0 → (m.cells e).st = 1 ∧ 0 < h.til d)
  th : ∀ i c, i < m.nth → cur i = some c → TS m h p0 l det (m.ths i) c
/-- A step that changes but the thread, the lock, the misses, and whether there is a DIRTY. -/
theorem LInv.localStep {m : M} {h : Hist} {p0 : Nat → Int} {cur : Nat → Option Nat} {l : List Nat} {det : Nat → Option Nat} {now : Nat} (L : LInv m h p0 cur l det now) {i c : Nat} (hi : i < m.nth) (hc : cur i = some c) (m' : M) (t' : Thr)
    (hI : m'.Inv) (e1 : m'.nth = m.nth) (e2 : m'.ths = put m.ths i t') (e3 : m'.nc = m.nc) (e4 : m'.cells = m.cells) (e5 : m'.read = m.read) (e6 : m'.dirty = m.dirty) (e7 : m'.am = m.am)
    (ha : ¬ t'.at_ = 0) (ho : opOf t' = opOf (m.ths i)) (h7 : (m.ths i).kind = 1 → (m.ths i).at_ = 7 → False) (ht : TS m h p0 l det t' c) : LInv m' h p0 cur l det now := by
  have hb : ∀ k, m'.bnd k = m.bnd k := fun k => by unfold M.bnd; rw [e5, e6]
  have hv : ∀ e, m'.valE e = m.valE e := fun e => by unfold M.valE; rw [e4]
  have ts : ∀ t d, TS m h p0 l det t d → TS m' h p0 l det t d := by
    intro t d T
    have lost : ∀ e, Lost m' e ↔ Lost m e := fun e => by unfold Lost; simp only [e4, hb]
    have hr : ∀ k e, HoldR m' h p0 l d k e ↔ HoldR m h p0 l d k e := fun k e => by unfold HoldR; rw [e5, lost]
    have hd : ∀ k e, HoldD m' h p0 l det d k e ↔ HoldD m h p0 l det d k e := fun k e => by unfold HoldD; rw [hb, lost]
    have hm : ∀ n, m'.madeTo n ↔ m.madeTo n := fun n => by unfold M.madeTo; rw [e4, e5, e6]
    refine ⟨T.sOut, T.sIn, ?_, T.s3, ?_, ?_, ?_, ?_, ?_, ?_, ?_, ?_, ?_, ?_, ?_, T.dd, T.fOut, ?_, ?_, ?_, ?_, ?_, ?_, T.d6, ?_, ?_, T.d9⟩
    · simpa only [hr] using T.sHold
    · simpa only [e5] using T.s67
    · simpa only [e4] using T.s7
    · simpa only [hb] using T.s13
    · simpa only [e5] using T.s8
    · simpa only [e6] using T.s9
    · simpa only [e7] using T.sAm0
    · simpa only [e7] using T.sAm1
    · simpa only [hm] using T.s10
    · simpa only [hm] using T.s11
    · simpa only [e6] using T.s10n
    · simpa only [e6] using T.mid5
    · simpa only [e5, e7] using T.f4
    · simpa only [e7] using T.fAm1
    · simpa only [e7] using T.fAm0
    · simpa only [hb] using T.mid
    · simpa only [hd] using T.fin
    · simpa only [e5, e6] using T.d5
    · simpa only [e5] using T.d7
    · simpa only [hr] using T.d8
  have th : ∀ j, m'.ths j = if j = i then t' else m.ths j := fun j => by rw [e2]; rfl
  refine ⟨hI, L.ord, L.all, L.time, fun j hj => ?_, fun j d hj hd => ?_, fun j j' d hj hj' => L.curInj j j' d (by omega) (by omega), L.detInj, fun k hk => ?_, ?_, fun e d hd => ?_, fun j d hj hd => ?_⟩
  · rw [th]
    split
    · rename_i q; subst q; rw [hc]; simp [ha]
    · exact L.idle j (by omega)
  · rw [th]
    obtain ⟨a, b, q⟩ := L.curOk j d (by omega) hd
    refine ⟨a, b, ?_⟩
    split
    · rename_i r; subst r; rw [ho]; exact q
    · exact q
  · rw [hb, hv]; exact L.abs k hk
  · have T := L.tab
    refine ⟨?_, ?_, ?_, ?_, fun ham k hk h1 h2 => ?_, ?_⟩
    · simpa only [e5, e6] using T.both
    · simpa only [e5, e6, e7] using T.none
    · simpa only [e4, e6] using T.live
    · simpa only [e4, e5, e6] using T.new
    · rw [e7] at ham; rw [e5] at h1; rw [e6] at h2
      rcases T.gone ham k hk h1 h2 with q | ⟨j, hj, q1, q2, q3⟩
      · exact .inl (by rw [e4, e5]; exact q)
      · refine .inr ⟨j, by omega, ?_⟩
        have hji : ¬ j = i := fun q => by subst q; exact h7 q1 q2
        unfold M.key
        rw [th, if_neg hji]
        exact ⟨q1, q2, q3⟩
    · simpa only [hb] using T.inj
  · obtain ⟨a1, a2, a3, a4⟩ := L.detOk e d hd
    refine ⟨by omega, fun k hk => by rw [hb]; exact a2 k hk, a3, ?_⟩
    rw [e4]; exact a4
  · rw [th]
    split
    · rename_i q
      subst q
      obtain rfl := Option.some.inj (hc.symm.trans hd)
      exact ts _ _ ht
    · exact ts _ _ (L.th j d (by omega) hd)
end Go.Proofs.Ytmnkphenobfbfaa
namespace Go.Proofs.Ytmnkphenobfbfaa
/-- Where c may be put between a and b: it changes nothing, or the Delete behind it makes that good. -/
def Quiet (ops : Nat → Opn) (p0 : Nat → Int) (a b : List Nat) (c : Nat) : Prop :=
  pnext (pst ops p0 a) (ops c) = pst ops p0 a ∨ b = [] ∨ ∃ d b', b = d :: b' ∧ pnext (pnext (pst ops p0 a) (ops c)) (ops d) = pnext (pst ops p0 a) (ops d)
theorem Quiet.later {ops : Nat → Opn} {p0 : Nat → Int} {a b : List Nat} {c : Nat} (q : Quiet ops p0 a b c) {b1 b2 : List Nat} (e : b = b1 ++ b2) (h : ¬ b1 = []) : pst ops p0 (a ++ c :: b1) = pst ops p0 (a ++ b1) := by
  rw [pst_append, pst_append]
  show pst ops (pnext (pst ops p0 a) (ops c)) b1 = _
  rcases q with q | q | ⟨d, b', q1, q2⟩
  · rw [q]
  · rw [q] at e
    cases b1 with
    | nil => exact absurd rfl h
    | cons _ _ => cases e
  · cases b1 with
    | nil => exact absurd rfl h
    | cons d2 b3 =>
      rw [q1] at e
      simp only [List.cons_append, List.cons.injEq] at e
      rw [← e.1]
      show pst ops (pnext (pnext (pst ops p0 a) (ops c)) (ops d)) b3 = pst ops (pnext (pst ops p0 a) (ops d)) b3
      rw [q2]
/-- A split of the order, behind an insertion. -/
theorem ins_split {ops : Nat → Opn} {p0 : Nat → Int} {a b : List Nat} {c : Nat} (q : Quiet ops p0 a b c) {a1 b1 : List Nat} {x : Nat} (e : a ++ b = a1 ++ x :: b1) :
    ∃ a2 b2, a ++ c :: b = a2 ++ x :: b2 ∧ (pst ops p0 a2 = pst ops p0 a1 ∨ (a1 = a ∧ b = x :: b1 ∧ a2 = a ++ [c])) ∧ ∀ y, y ∈ b2 → y ∈ b1 ∨ y = c := by
  rcases List.append_eq_append_iff.1 e with ⟨a', e1, e2⟩ | ⟨c', e1, e2⟩
  · by_cases h : a' = []
    · subst h
      simp only [List.append_nil, List.nil_append] at e1 e2
      exact ⟨a ++ [c], b1, by rw [e2]; simp, .inr ⟨e1, e2, rfl⟩, fun y hy => .inl hy⟩
    · exact ⟨a ++ c :: a', b1, by rw [e2]; simp, .inl (by rw [e1]; exact q.later e2 h), fun y hy => .inl hy⟩
  · cases c' with
    | nil =>
      simp only [List.append_nil, List.nil_append] at e1 e2
      exact ⟨a ++ [c], b1, by rw [← e2]; simp, .inr ⟨e1.symm, e2.symm, rfl⟩, fun y hy => .inl hy⟩
    | cons x1 c2 =>
      simp only [List.cons_append, List.cons.injEq] at e2
      obtain ⟨rfl, rfl⟩ := e2
      refine ⟨a1, c2 ++ c :: b, by rw [e1]; simp, .inl rfl, fun y hy => ?_⟩
      simp only [List.mem_append, List.mem_cons] at hy ⊢
      rcases hy with hy | hy | hy
      · exact .inl (.inl hy)
      · exact .inr hy
      · exact .inl (.inr hy)
theorem ins_split0 {ops : Nat → Opn} {p0 : Nat → Int} {a b : List Nat} {c : Nat} (q : Quiet ops p0 a b c) {a1 b1 : List Nat} (e : a ++ b = a1 ++ b1) :
    ∃ a2 b2, a ++ c :: b = a2 ++ b2 ∧ pst ops p0 a2 = pst ops p0 a1 ∧ ∀ y, y ∈ b2 → y ∈ b1 ∨ y = c := by
  rcases List.append_eq_append_iff.1 e with ⟨a', e1, e2⟩ | ⟨c', e1, e2⟩
  · by_cases h : a' = []
    · subst h
      simp only [List.append_nil, List.nil_append] at e1 e2
      refine ⟨a, c :: b, rfl, by rw [e1], fun y hy => ?_⟩
      rcases List.mem_cons.1 hy with hy | hy
      · exact .inr hy
      · rw [e2] at hy; exact .inl hy
    · exact ⟨a ++ c :: a', b1, by rw [e2]; simp, by rw [e1]; exact q.later e2 h, fun y hy => .inl hy⟩
  · refine ⟨a1, c' ++ c :: b, by rw [e1]; simp, rfl, fun y hy => ?_⟩
    rw [e2]
    simp only [List.mem_append, List.mem_cons] at hy ⊢
    rcases hy with hy | hy | hy
    · exact .inl (.inl hy)
    · exact .inr hy
    · exact .inl (.inr hy)
/-- The history behind the end of a call. -/
def Hist.done (h : Hist) (c now : Nat) (r : Bool × Int) : Hist := { h with til := put h.til c now, res := put h.res c r }
/-- What the end of call c, and c's place in the order, leave of what was true of other calls; sp: the Delete that c was put ahead of, with a change. -/
structure Ext (h h' : Hist) (p0 : Nat → Int) (l l' : List Nat) (c : Nat) (sp : Option Nat) : Prop where
  ops : h'.ops = h.ops
  bef : ∀ x y, x < h.n → y ∈ l → ¬ h.before y x → ¬ h'.before y x
  cbef : ∀ x, x < h.n → ¬ h'.before c x
  mem : ∀ x, x ≠ c → (x ∈ l' ↔ x ∈ l)
  split : ∀ a x b, l = a ++ x :: b → ¬ sp = some x → ∃ a2 b2, l' = a2 ++ x :: b2 ∧ pst h.ops p0 a2 = pst h.ops p0 a ∧ ∀ y, y ∈ b2 → y ∈ b ∨ y = c
  splits : ∀ a x b, l = a ++ x :: b → ∃ a2 b2, l' = a2 ++ x :: b2 ∧ ∀ y, y ∈ b2 → y ∈ b ∨ y = c
  split0 : ∀ a b, l = a ++ b → ∃ a2 b2, l' = a2 ++ b2 ∧ pst h.ops p0 a2 = pst h.ops p0 a ∧ ∀ y, y ∈ b2 → y ∈ b ∨ y = c
theorem Ext.miss {h h' : Hist} {p0 : Nat → Int} {l l' : List Nat} {c : Nat} {sp : Option Nat} (E : Ext h h' p0 l l' c sp) {x k : Nat} (hx : x < h.n) (M : Miss h p0 l x k) : Miss h' p0 l' x k := by
  obtain ⟨a, b, e, p, q⟩ := M
  obtain ⟨a2, b2, e2, p2, q2⟩ := E.split0 a b e
  refine ⟨a2, b2, e2, by rw [E.ops, p2]; exact p, fun y hy => ?_⟩
  rcases q2 y hy with r | r
  · exact E.bef x y hx (by rw [e]; exact List.mem_append_right _ r) (q y r)
  · rw [r]; exact E.cbef x hx
theorem Ext.slot {h h' : Hist} {p0 : Nat → Int} {l l' : List Nat} {c : Nat} {sp : Option Nat} (E : Ext h h' p0 l l' c sp) {x d : Nat} (hx : x < h.n) (S : Slot h l x d) : Slot h' l' x d := by
  obtain ⟨a, b, e, q⟩ := S
  obtain ⟨a2, b2, e2, q2⟩ := E.splits a d b e
  refine ⟨a2, b2, e2, fun y hy => ?_⟩
  rcases q2 y hy with r | r
  · exact E.bef x y hx (by rw [e]; exact List.mem_append_right _ (List.mem_cons_of_mem _ r)) (q y r)
  · rw [r]; exact E.cbef x hx
theorem Ext.nothing {h h' : Hist} {p0 : Nat → Int} {l l' : List Nat} {c : Nat} {sp : Option Nat} (E : Ext h h' p0 l l' c sp) {x k : Nat} (hs : ¬ sp = some x) (N : Nothing h p0 l x k) : Nothing h' p0 l' x k := by
  obtain ⟨a, b, e, p⟩ := N
  obtain ⟨a2, b2, e2, p2, _⟩ := E.split a x b e hs
  exact ⟨a2, b2, e2, by rw [E.ops, p2]; exact p⟩
/-- The tables stay; no entry comes to be gone, and none that is gone comes back. -/
theorem TS.x1 {m m' : M} {h h' : Hist} {p0 : Nat → Int} {l l' : List Nat} {det : Nat → Option Nat} {t : Thr} {x c : Nat} {sp : Option Nat} (T : TS m h p0 l det t x) (E : Ext h h' p0 l l' c sp) (hx : x < h.n) (hxc : x ≠ c) (hs : sp = some x → 0 ≤ t.e)
    (e5 : m'.read = m.read) (e6 : m'.dirty = m.dirty) (e7 : m'.am = m.am) (e4 : ∀ e, (m'.cells e).st = 2 ↔ (m.cells e).st = 2) : TS m' h' p0 l' det t x := by
  have hb : ∀ k, m'.bnd k = m.bnd k := fun k => by unfold M.bnd; rw [e5, e6]
  have lost : ∀ e, Lost m' e ↔ Lost m e := fun e => by unfold Lost; simp only [e4, hb]
  have hr : ∀ k e, HoldR m h p0 l x k e → HoldR m' h' p0 l' x k e := fun k e H => by
    unfold HoldR at H ⊢
    rw [e5, lost]
    exact H.imp id fun q => ⟨q.1, E.miss hx q.2⟩
  have hd : ∀ k e, HoldD m h p0 l det x k e → HoldD m' h' p0 l' det x k e := fun k e H => by
    unfold HoldD at H ⊢
    rw [hb, lost]
    refine H.imp id fun q => q.imp (fun q => ⟨q.1, E.miss hx q.2⟩) fun ⟨d, q1, q2, q3⟩ => ⟨d, q1, by rw [E.ops]; exact q2, E.slot hx q3⟩
  have hm : ∀ n, m'.madeTo n ↔ m.madeTo n := fun n => by unfold M.madeTo; simp only [e4, e5, e6]
  have ml := E.mem x hxc
  have no : t.e < 0 → ∀ k, Nothing h p0 l x k → Nothing h' p0 l' x k := fun r k N => E.nothing (fun q => by have := hs q; omega) N
  refine ⟨?_, ?_, fun a b => hr _ _ (T.sHold a b), T.s3, ?_, ?_, ?_, ?_, ?_, ?_, ?_, ?_, ?_, ?_, ?_, T.dd, ?_, ?_, ?_, ?_, fun a => ?_, fun a => ?_, fun a b => ?_, fun a b => ?_, fun a b => ?_, fun a b => ?_, T.d9⟩
  · simpa only [ml] using T.sOut
  · simpa only [ml] using T.sIn
  · simpa only [e5] using T.s67
  · simpa only [e4] using T.s7
  · simpa only [hb] using T.s13
  · simpa only [e5] using T.s8
  · simpa only [e6] using T.s9
  · simpa only [e7] using T.sAm0
  · simpa only [e7] using T.sAm1
  · simpa only [hm] using T.s10
  · simpa only [hm] using T.s11
  · simpa only [e6] using T.s10n
  · simpa only [e6] using T.mid5
  · simpa only [ml] using T.fOut
  · simpa only [e5, e7] using T.f4
  · simpa only [e7] using T.fAm1
  · simpa only [e7] using T.fAm0
  · have q := T.mid a
    rw [ml, hb]
    exact ⟨q.1, fun r => no r _ (q.2 r)⟩
  · have q := T.fin a
    rw [ml]
    exact ⟨q.1, hd _ _ q.2⟩
  · have q := T.d5 a b
    rw [ml, e5, e6]
    exact ⟨q.1, fun r => ⟨no r _ (q.2 r).1, (q.2 r).2⟩⟩
  · have q := T.d6 a b
    exact ⟨q.1, fun r => no r _ (q.2 r)⟩
  · have q := T.d7 a b
    rw [ml, e5]
    exact ⟨q.1, fun r => no r _ (q.2 r)⟩
  · rw [ml]
    exact (T.d8 a b).imp id fun q => ⟨q.1, hr _ _ q.2⟩
/-- Does this thread, at this step, hold no lock? -/
def Free (t : Thr) : Prop := ¬ Locked t.kind t.at_
/-- The tables turn under another's lock. -/
theorem TS.x2 {m m' : M} {h h' : Hist} {p0 : Nat → Int} {l l' : List Nat} {det det' : Nat → Option Nat} {t : Thr} {x : Nat} (T : TS m h p0 l det t x) (ml : x ∈ l' ↔ x ∈ l) (hF : Free t) (hk : 0 ≤ t.kind ∧ t.kind ≤ 3) (hne : NeedsE t.kind t.at_ → 0 ≤ t.e)
    (hr : 0 ≤ t.e → HoldR m h p0 l x t.key.toNat t.e → HoldR m' h' p0 l' x t.key.toNat t.e) (hd : 0 ≤ t.e → HoldD m h p0 l det x t.key.toNat t.e → HoldD m' h' p0 l' det' x t.key.toNat t.e) (hq : det t.e.toNat = some x → det' t.e.toNat = some x) (hq2 : ∀ e, det' e = some x → det e = some x) : TS m' h' p0 l' det' t x := by
  unfold Free Locked at hF
  refine ⟨fun a b => by rw [ml]; exact T.sOut a b, fun a b => by omega, fun a b => hr (hne (by unfold NeedsE; omega)) (T.sHold a b), T.s3, fun a b => by omega, fun a b => by omega, fun a b => by omega, fun a b => by omega, fun a b => by omega, fun a b => by omega, fun a b => by omega, fun a b => by omega, fun a b => by omega, fun a b => by omega, fun a b => by omega, fun e q => T.dd e (hq2 e q),
    fun a b => by rw [ml]; exact T.fOut a b, fun a b => by omega, fun a b => by omega, fun a b => by omega, fun a => by omega, fun a => ?_, fun a b => by omega, fun a b => by omega, fun a b => by omega, fun a b => ?_, T.d9⟩
  · have q := T.fin a
    rw [ml]
    exact ⟨q.1, hd (hne (by unfold NeedsE; omega)) q.2⟩
  · rw [ml]
    exact (T.d8 a b).imp hq fun q => ⟨q.1, hr (hne (by unfold NeedsE; omega)) q.2⟩
theorem done_before {h : Hist} {c now : Nat} {r : Bool × Int} (hf : ∀ x, x < h.n → h.frm x ≤ now) {x y : Nat} (hx : x < h.n) : (h.done c now r).before y x → y ≠ c ∧ h.before y x := by
  intro q
  unfold Hist.before Hist.done at q
  simp only at q
  by_cases e : y = c
  · subst e
    rw [put_same] at q
    have := hf x hx
    omega
  · rw [put_other _ _ e] at q
    exact ⟨e, q⟩
/-- The end of a call that stands in the order. -/
theorem Order.done {h : Hist} {p0 : Nat → Int} {l : List Nat} (o : Order h p0 l) {c now : Nat} {r : Bool × Int} (hf : ∀ x, x < h.n → h.frm x ≤ now) (ha : ∀ a b, l = a ++ c :: b → pans (pst h.ops p0 a) (h.ops c) = r) : Order (h.done c now r) p0 l := by
  refine ⟨o.nodup, o.lt, ?_, fun a x b e hx => ?_⟩
  · refine (List.pairwise_iff_getElem.2 fun i j hi hj hij q => ?_)
    have hxi := o.lt l[i] (List.getElem_mem hi)
    exact (List.pairwise_iff_getElem.1 o.pw i j hi hj hij) (done_before hf hxi q).2
  · show pans (pst h.ops p0 a) (h.ops x) = put h.res c r x
    by_cases q : x = c
    · subst q
      rw [put_same]
      exact ha a b e
    · rw [put_other _ _ q]
      refine o.ans a x b e ?_
      have hx' : 0 < put h.til c now x := hx
      rwa [put_other _ _ q] at hx'
theorem ext_same {h : Hist} {p0 : Nat → Int} {l : List Nat} {c : Nat} (hc : h.til c = 0) : Ext h h p0 l l c none :=
  ⟨rfl, fun _ _ _ _ q => q, fun _ _ q => by unfold Hist.before at q; omega, fun _ _ => Iff.rfl, fun a _ b e _ => ⟨a, b, e, rfl, fun _ hy => .inl hy⟩, fun a _ b e => ⟨a, b, e, fun _ hy => .inl hy⟩, fun a b e => ⟨a, b, e, rfl, fun _ hy => .inl hy⟩⟩
theorem ext_done {h : Hist} {p0 : Nat → Int} {l : List Nat} {c now : Nat} {r : Bool × Int} (hf : ∀ x, x < h.n → h.frm x ≤ now) : Ext h (h.done c now r) p0 l l c none :=
  ⟨rfl, fun _ _ hx _ q p => q (done_before hf hx p).2, fun _ hx p => (done_before hf hx p).1 rfl, fun _ _ => Iff.rfl, fun a _ b e _ => ⟨a, b, e, rfl, fun _ hy => .inl hy⟩, fun a _ b e => ⟨a, b, e, fun _ hy => .inl hy⟩, fun a b e => ⟨a, b, e, rfl, fun _ hy => .inl hy⟩⟩
/-- A call that is put where it changes nothing. -/
theorem ext_ins {h h' : Hist} {p0 : Nat → Int} {a b : List Nat} {c : Nat} (E : Ext h h' p0 (a ++ b) (a ++ b) c none) (q : pnext (pst h.ops p0 a) (h.ops c) = pst h.ops p0 a ∨ b = []) : Ext h h' p0 (a ++ b) (a ++ c :: b) c none := by
  have Q : Quiet h.ops p0 a b c := q.imp id .inl
  refine ⟨E.ops, E.bef, E.cbef, fun x hx => by simp [hx], fun a1 x b1 e _ => ?_, fun a1 x b1 e => ?_, fun a1 b1 e => ins_split0 Q e⟩
  · obtain ⟨a2, b2, e2, p, q2⟩ := ins_split Q e
    refine ⟨a2, b2, e2, ?_, q2⟩
    rcases p with p | ⟨p1, p2, p3⟩
    · exact p
    · rcases q with q | q
      · rw [p3, p1, pst_snoc]; exact q
      · rw [q] at p2; cases p2
  · obtain ⟨a2, b2, e2, _, q2⟩ := ins_split Q e
    exact ⟨a2, b2, e2, q2⟩
/-- A call that is put ahead of a Delete of its key. -/
theorem ext_insD {h h' : Hist} {p0 : Nat → Int} {a b : List Nat} {c d : Nat} (E : Ext h h' p0 (a ++ d :: b) (a ++ d :: b) c none) (q : pnext (pnext (pst h.ops p0 a) (h.ops c)) (h.ops d) = pnext (pst h.ops p0 a) (h.ops d)) : Ext h h' p0 (a ++ d :: b) (a ++ c :: d :: b) c (some d) := by
  have Q : Quiet h.ops p0 a (d :: b) c := .inr (.inr ⟨d, b, rfl, q⟩)
  refine ⟨E.ops, E.bef, E.cbef, fun x hx => by simp [hx], fun a1 x b1 e hs => ?_, fun a1 x b1 e => ?_, fun a1 b1 e => ins_split0 Q e⟩
  · obtain ⟨a2, b2, e2, p, q2⟩ := ins_split Q e
    refine ⟨a2, b2, e2, ?_, q2⟩
    rcases p with p | ⟨_, p2, _⟩
    · exact p
    · simp only [List.cons.injEq] at p2
      exact absurd (by rw [p2.1]) hs
  · obtain ⟨a2, b2, e2, _, q2⟩ := ins_split Q e
    exact ⟨a2, b2, e2, q2⟩
end Go.Proofs.Ytmnkphenobfbfaa
namespace Go.Proofs.Ytmnkphenobfbfaa
/-- What must be of the entries that Deletes took out of DIRTY. -/
def DetOk (m : M) (h : Hist) (p0 : Nat → Int) (l : List Nat) (det : Nat → Option Nat) : Prop :=
  ∀ e d, det e = some d → e < m.nc ∧ (∀ k, k < 8 → ¬ m.bnd k = (e : Int)) ∧ (h.ops d).kind = 2 ∧ ∃ a b, l = a ++ d :: b ∧ ((m.cells e).st = 0 → h.til d = 0 ∧ pst h.ops p0 a (h.ops d).key = (m.cells e).v) ∧ (¬ (m.cells e).st = 0 → (m.cells e).st = 1 ∧ 0 < h.til d)
/-- A step of thread i. -/
theorem LInv.gen {m : M} {h : Hist} {p0 : Nat → Int} {cur : Nat → Option Nat} {l : List Nat} {det : Nat → Option Nat} {now : Nat} (L : LInv m h p0 cur l det now) {i c : Nat} (hi : i < m.nth) (hc : cur i = some c)
    (m' : M) (t' : Thr) (h' : Hist) (l' : List Nat) (det' : Nat → Option Nat) (cur' : Nat → Option Nat) (now' : Nat) (hI : m'.Inv) (e1 : m'.nth = m.nth) (e2 : m'.ths = put m.ths i t')
    (hops : h'.ops = h.ops) (hmem : ∀ x, x ≠ c → (x ∈ l' ↔ x ∈ l)) (hO : Order h' p0 l') (hn : h'.n = h.n) (hfrm : h'.frm = h.frm) (htil : ∀ x, x ≠ c → h'.til x = h.til x) (hin : 0 < h'.til c → c ∈ l') (hnow : now ≤ now' ∧ h'.til c ≤ now')
    (hcur : (cur' = cur ∧ ¬ t'.at_ = 0 ∧ h'.til c = 0 ∧ opOf t' = opOf (m.ths i) ∧ TS m' h' p0 l' det' t' c) ∨ (cur' = put cur i none ∧ t'.at_ = 0))
    (hinj : ∀ e e' d, det' e = some d → det' e' = some d → e = e')
    (habs : ∀ k, k < 8 → pst h.ops p0 l' k = m'.valE (m'.bnd k)) (htab : Tab m') (hdet : DetOk m' h' p0 l' det')
    (hth : ∀ j d, j < m.nth → ¬ j = i → cur j = some d → d < h.n → d ≠ c → TS m h p0 l det (m.ths j) d → TS m' h' p0 l' det' (m.ths j) d) : LInv m' h' p0 cur' l' det' now' := by
  have hcn := (L.curOk i c hi hc).1
  have th : ∀ j, m'.ths j = if j = i then t' else m.ths j := fun j => by rw [e2]; rfl
  have oth : ∀ j d, ¬ j = i → cur' j = some d → cur j = some d := fun j d hj hd => by
    rcases hcur with ⟨q, _⟩ | ⟨q, _⟩
    · rw [q] at hd; exact hd
    · rw [q, put_other _ _ hj] at hd; exact hd
  have ne : ∀ j d, j < m.nth → ¬ j = i → cur j = some d → d ≠ c := fun j d hj hji hd q => hji (L.curInj j i c hj hi (by rw [← q]; exact hd) hc)
  have own : ∀ d, cur' i = some d → d = c ∧ cur' = cur ∧ ¬ t'.at_ = 0 ∧ h'.til c = 0 ∧ opOf t' = opOf (m.ths i) ∧ TS m' h' p0 l' det' t' c := fun d hd => by
    rcases hcur with ⟨q, r⟩ | ⟨q, _⟩
    · rw [q, hc] at hd; exact ⟨(Option.some.inj hd).symm, q, r⟩
    · rw [q, put_same] at hd; cases hd
  refine ⟨hI, hO, fun x hx ht => ?_, fun x hx => ?_, fun j hj => ?_, fun j d hj hd => ?_, fun j j' d hj hj' hd hd' => ?_, hinj, fun k hk => ?_, htab, hdet, fun j d hj hd => ?_⟩
  · by_cases q : x = c
    · subst q; exact hin ht
    · rw [htil x q] at ht
      exact (hmem x q).2 (L.all x (by omega) ht)
  · have := L.time x (by omega)
    rw [hfrm]
    by_cases q : x = c
    · subst q; omega
    · rw [htil x q]; omega
  · rw [e1] at hj
    rw [th]
    by_cases q : j = i
    · subst q
      rw [if_pos rfl]
      rcases hcur with ⟨r, ha, _⟩ | ⟨r, ha⟩
      · rw [r, hc]; simp [ha]
      · rw [r, put_same]; simp [ha]
    · rw [if_neg q]
      rcases hcur with ⟨r, _⟩ | ⟨r, _⟩
      · rw [r]; exact L.idle j hj
      · rw [r, put_other _ _ q]; exact L.idle j hj
  · rw [e1] at hj
    rw [th]
    by_cases q : j = i
    · subst q
      obtain ⟨rfl, _, _, q3, q4, _⟩ := own d hd
      rw [if_pos rfl, hops, q4]
      exact ⟨by omega, q3, (L.curOk j d hj hc).2.2⟩
    · have hd' := oth j d q hd
      obtain ⟨a, b, r⟩ := L.curOk j d hj hd'
      rw [if_neg q, hops, htil d (ne j d hj q hd')]
      exact ⟨by omega, b, r⟩
  · rw [e1] at hj hj'
    by_cases q : j = i
    · by_cases q' : j' = i
      · rw [q, q']
      · subst q
        obtain ⟨rfl, _⟩ := own d hd
        exact absurd rfl (ne j' d hj' q' (oth j' d q' hd'))
    · by_cases q' : j' = i
      · subst q'
        obtain ⟨rfl, _⟩ := own d hd'
        exact absurd rfl (ne j d hj q (oth j d q hd))
      · exact L.curInj j j' d hj hj' (oth j d q hd) (oth j' d q' hd')
  · rw [hops]; exact habs k hk
  · rw [e1] at hj
    rw [th]
    by_cases q : j = i
    · subst q
      obtain ⟨rfl, _, _, _, _, r⟩ := own d hd
      rw [if_pos rfl]; exact r
    · have hd' := oth j d q hd
      rw [if_neg q]
      exact hth j d hj q hd' (L.curOk j d hj hd').1 (ne j d hj q hd') (L.th j d hj hd')
/-- A step that leaves the tables as they are. -/
theorem LInv.x1 {m : M} {h : Hist} {p0 : Nat → Int} {cur : Nat → Option Nat} {l : List Nat} {det : Nat → Option Nat} {now : Nat} (L : LInv m h p0 cur l det now) {i c : Nat} (hi : i < m.nth) (hc : cur i = some c)
    (m' : M) (t' : Thr) (h' : Hist) (l' : List Nat) (cur' : Nat → Option Nat) (now' : Nat) (sp : Option Nat) (hI : m'.Inv) (e1 : m'.nth = m.nth) (e2 : m'.ths = put m.ths i t') (e5 : m'.read = m.read) (e6 : m'.dirty = m.dirty) (e7 : m'.am = m.am) (e4 : ∀ e, (m'.cells e).st = 2 ↔ (m.cells e).st = 2)
    (E : Ext h h' p0 l l' c sp) (hsp : ∀ j d, j < m.nth → ¬ j = i → cur j = some d → sp = some d → 0 ≤ (m.ths j).e) (hO : Order h' p0 l') (hn : h'.n = h.n) (hfrm : h'.frm = h.frm) (htil : ∀ x, x ≠ c → h'.til x = h.til x) (hin : 0 < h'.til c → c ∈ l') (hnow : now ≤ now' ∧ h'.til c ≤ now')
    (hcur : (cur' = cur ∧ ¬ t'.at_ = 0 ∧ h'.til c = 0 ∧ opOf t' = opOf (m.ths i) ∧ TS m' h' p0 l' det t' c) ∨ (cur' = put cur i none ∧ t'.at_ = 0))
    (habs : ∀ k, k < 8 → pst h.ops p0 l' k = m'.valE (m'.bnd k)) (htab : Tab m') (hdet : DetOk m' h' p0 l' det) : LInv m' h' p0 cur' l' det now' :=
  L.gen hi hc m' t' h' l' det cur' now' hI e1 e2 E.ops E.mem hO hn hfrm htil hin hnow hcur L.detInj habs htab hdet
    fun j d hj q hd hn hne T => T.x1 E hn hne (hsp j d hj q hd) e5 e6 e7 e4
end Go.Proofs.Ytmnkphenobfbfaa
namespace Go.Proofs.Ytmnkphenobfbfaa
theorem split_unique {l a b a' b' : List Nat} {c : Nat} (hn : l.Nodup) (e : l = a ++ c :: b) (e' : l = a' ++ c :: b') : a' = a ∧ b' = b := by
  induction a generalizing l a' with
  | nil =>
    cases a' with
    | nil => rw [e] at e'; simp only [List.nil_append, List.cons.injEq] at e'; exact ⟨rfl, e'.2.symm⟩
    | cons x a' =>
      rw [e] at e' hn
      simp only [List.nil_append, List.cons_append, List.cons.injEq] at e'
      have := (List.nodup_cons.1 hn).1
      rw [e'.2] at this
      exact absurd (List.mem_append_right _ (List.mem_cons_self ..)) this
  | cons x a ih =>
    cases a' with
    | nil =>
      rw [e] at e' hn
      simp only [List.nil_append, List.cons_append, List.cons.injEq] at e'
      have := (List.nodup_cons.1 hn).1
      rw [e'.1] at this
      exact absurd (List.mem_append_right _ (List.mem_cons_self ..)) this
    | cons y a' =>
      rw [e] at e' hn
      simp only [List.cons_append, List.cons.injEq] at e'
      obtain ⟨p, q⟩ := ih (List.nodup_cons.1 hn).2 rfl e'.2
      exact ⟨by rw [p, e'.1], q⟩
theorem Tab.cel {m m' : M} (T : Tab m) {i : Nat} {t' : Thr} (e1 : m'.nth = m.nth) (e2 : m'.ths = put m.ths i t') (h7 : ¬ ((m.ths i).kind = 1 ∧ (m.ths i).at_ = 7)) (e5 : m'.read = m.read) (e6 : m'.dirty = m.dirty) (e7 : m'.am = m.am) (e4 : ∀ e, (m'.cells e).st = 2 ↔ (m.cells e).st = 2)
    (hn : ∀ k, k < 8 → 0 ≤ m.dirty k → m.read k < 0 → (m'.cells (m.dirty k).toNat).st = 0) : Tab m' := by
  have th : ∀ j, m'.ths j = if j = i then t' else m.ths j := fun j => by rw [e2]; rfl
  refine ⟨?_, ?_, ?_, ?_, fun ham k hk h1 h2 => ?_, ?_⟩
  · simpa only [e5, e6] using T.both
  · simpa only [e5, e6, e7] using T.none
  · simpa only [e4, e6] using T.live
  · simpa only [e5, e6] using hn
  · rw [e7] at ham; rw [e5] at h1; rw [e6] at h2
    rcases T.gone ham k hk h1 h2 with q | ⟨j, hj, q1, q2, q3⟩
    · exact .inl (by rw [e4, e5]; exact q)
    · refine .inr ⟨j, by omega, ?_⟩
      have hji : ¬ j = i := fun q => by subst q; exact h7 ⟨q1, q2⟩
      unfold M.key
      rw [th, if_neg hji]
      exact ⟨q1, q2, q3⟩
  · have hb : ∀ k, m'.bnd k = m.bnd k := fun k => by unfold M.bnd; rw [e5, e6]
    simpa only [hb] using T.inj
/-- Behind an insertion that changes no later state, or the end of a call: the entries that were taken out. -/
theorem DetOk.ext {m m' : M} {h h' : Hist} {p0 : Nat → Int} {l l' : List Nat} {det : Nat → Option Nat} {c : Nat} (D : DetOk m h p0 l det) (E : Ext h h' p0 l l' c none) (e3 : m'.nc = m.nc) (hb : ∀ k, k < 8 → m'.bnd k = m.bnd k) (hc : ∀ e, (∃ d, det e = some d) → m'.cells e = m.cells e)
    (ht : ∀ x, x ≠ c → h'.til x = h.til x) (hdc : h'.til c = h.til c ∨ ∀ e, ¬ det e = some c) : DetOk m' h' p0 l' det := by
  intro e d hd
  obtain ⟨a1, a2, a3, a, b, q1, q2, q3⟩ := D e d hd
  have tl : h'.til d = h.til d := by
    by_cases q : d = c
    · rcases hdc with r | r
      · rw [q]; exact r
      · subst q; exact absurd hd (r e)
    · exact ht d q
  obtain ⟨x, y, z1, z2, _⟩ := E.split a d b q1 (by simp)
  refine ⟨by omega, fun k hk => by rw [hb k hk]; exact a2 k hk, by rw [E.ops]; exact a3, x, y, z1, ?_⟩
  rw [hc e ⟨d, hd⟩, tl, E.ops, z2]
  exact ⟨q2, q3⟩
/-- A step that leaves tables and entries as they are. -/
theorem LInv.quiet {m : M} {h : Hist} {p0 : Nat → Int} {cur : Nat → Option Nat} {l : List Nat} {det : Nat → Option Nat} {now : Nat} (L : LInv m h p0 cur l det now) {i c : Nat} (hi : i < m.nth) (hc : cur i = some c)
    (m' : M) (t' : Thr) (h' : Hist) (l' : List Nat) (cur' : Nat → Option Nat) (hI : m'.Inv) (e1 : m'.nth = m.nth) (e2 : m'.ths = put m.ths i t') (e3 : m'.nc = m.nc) (e4 : m'.cells = m.cells) (e5 : m'.read = m.read) (e6 : m'.dirty = m.dirty) (e7 : m'.am = m.am) (h7 : ¬ ((m.ths i).kind = 1 ∧ (m.ths i).at_ = 7))
    (E : Ext h h' p0 l l' c none) (hO : Order h' p0 l') (hn : h'.n = h.n) (hfrm : h'.frm = h.frm) (htil : ∀ x, x ≠ c → h'.til x = h.til x) (hin : 0 < h'.til c → c ∈ l') (hnow : h'.til c ≤ now)
    (hcur : (cur' = cur ∧ ¬ t'.at_ = 0 ∧ h'.til c = 0 ∧ opOf t' = opOf (m.ths i) ∧ TS m' h' p0 l' det t' c) ∨ (cur' = put cur i none ∧ t'.at_ = 0))
    (hp : pst h.ops p0 l' = pst h.ops p0 l) (hdc : h'.til c = h.til c ∨ ∀ e, ¬ det e = some c) : LInv m' h' p0 cur' l' det now := by
  have hb : ∀ k, m'.bnd k = m.bnd k := fun k => by unfold M.bnd; rw [e5, e6]
  refine L.x1 hi hc m' t' h' l' cur' now none hI e1 e2 e5 e6 e7 (fun e => by rw [e4]) E (fun _ _ _ _ _ q => by cases q) hO hn hfrm htil hin ⟨Nat.le_refl _, hnow⟩ hcur (fun k hk => ?_) ?_ ?_
  · rw [hp, hb, L.abs k hk]; unfold M.valE; rw [e4]
  · exact L.tab.cel e1 e2 h7 e5 e6 e7 (fun e => by rw [e4]) (fun k a b d => by rw [e4]; exact L.tab.new k a b d)
  · exact DetOk.ext L.detOk E e3 (fun k _ => hb k) (fun e _ => by rw [e4]) htil hdc
/-- A call that is put, with no change, where it may stand. -/
theorem LInv.puts {m : M} {h : Hist} {p0 : Nat → Int} {cur : Nat → Option Nat} {l : List Nat} {det : Nat → Option Nat} {now : Nat} (L : LInv m h p0 cur l det now) {i c : Nat} (hi : i < m.nth) (hc : cur i = some c) {a b : List Nat} (e : l = a ++ b) (hn : c ∉ l) (hb : ∀ y, y ∈ b → ¬ h.before y c)
    (hp : pnext (pst h.ops p0 a) (h.ops c) = pst h.ops p0 a) : Order h p0 (a ++ c :: b) ∧ Ext h h p0 l (a ++ c :: b) c none ∧ pst h.ops p0 (a ++ c :: b) = pst h.ops p0 l := by
  obtain ⟨c1, c2, c3⟩ := L.curOk i c hi hc
  subst e
  refine ⟨L.ord.insert c1 hn hb (fun y _ q => by unfold Hist.before at q; omega) (fun q => by omega) (.inl hp), ext_ins (ext_same c2) (.inl hp), ?_⟩
  rw [pst_append, pst_append]
  show pst h.ops (pnext (pst h.ops p0 a) (h.ops c)) b = _
  rw [hp]
/-- Its end there. -/
theorem LInv.endAt {m : M} {h : Hist} {p0 : Nat → Int} {cur : Nat → Option Nat} {l : List Nat} {det : Nat → Option Nat} {now : Nat} (L : LInv m h p0 cur l det now) {i c : Nat} (hi : i < m.nth) (hc : cur i = some c) {a b : List Nat} (e : l = a ++ b) (hn : c ∉ l) (hb : ∀ y, y ∈ b → ¬ h.before y c)
    (hp : pnext (pst h.ops p0 a) (h.ops c) = pst h.ops p0 a) {r : Bool × Int} (hr : pans (pst h.ops p0 a) (h.ops c) = r)
    (m' : M) (t' : Thr) (hI : m'.Inv) (e1 : m'.nth = m.nth) (e2 : m'.ths = put m.ths i t') (e3 : m'.nc = m.nc) (e4 : m'.cells = m.cells) (e5 : m'.read = m.read) (e6 : m'.dirty = m.dirty) (e7 : m'.am = m.am) (h7 : ¬ ((m.ths i).kind = 1 ∧ (m.ths i).at_ = 7)) (ha : t'.at_ = 0) :
    LInv m' (h.done c now r) p0 (put cur i none) (a ++ c :: b) det now := by
  obtain ⟨c1, c2, c3⟩ := L.curOk i c hi hc
  obtain ⟨p1, _, p3⟩ := L.puts hi hc e hn hb hp
  have hf : ∀ x, x < h.n → h.frm x ≤ now := fun x hx => (L.time x hx).1
  have E : Ext h (h.done c now r) p0 l (a ++ c :: b) c none := by
    subst e; exact ext_ins (ext_done hf) (.inl hp)
  refine L.quiet hi hc m' t' _ _ _ hI e1 e2 e3 e4 e5 e6 e7 h7 E (p1.done hf fun a' b' q => ?_) rfl rfl (fun x hx => put_other _ _ hx) (fun _ => by simp) (by show put h.til c now c ≤ now; rw [put_same]; exact Nat.le_refl _) (.inr ⟨rfl, ha⟩) p3 (.inr fun x hx => ?_)
  · rw [(split_unique p1.nodup rfl q).1]; exact hr
  · obtain ⟨_, _, _, x, y, q, _⟩ := L.detOk x c hx
    exact hn (by rw [q]; simp)
/-- The end of a call that stands in the order. -/
theorem LInv.endIn {m : M} {h : Hist} {p0 : Nat → Int} {cur : Nat → Option Nat} {l : List Nat} {det : Nat → Option Nat} {now : Nat} (L : LInv m h p0 cur l det now) {i c : Nat} (hi : i < m.nth) (hc : cur i = some c) {a b : List Nat} (e : l = a ++ c :: b) {r : Bool × Int} (hr : pans (pst h.ops p0 a) (h.ops c) = r) (hdc : ∀ e, ¬ det e = some c)
    (m' : M) (t' : Thr) (hI : m'.Inv) (e1 : m'.nth = m.nth) (e2 : m'.ths = put m.ths i t') (e3 : m'.nc = m.nc) (e4 : m'.cells = m.cells) (e5 : m'.read = m.read) (e6 : m'.dirty = m.dirty) (e7 : m'.am = m.am) (h7 : ¬ ((m.ths i).kind = 1 ∧ (m.ths i).at_ = 7)) (ha : t'.at_ = 0) :
    LInv m' (h.done c now r) p0 (put cur i none) l det now := by
  have hf : ∀ x, x < h.n → h.frm x ≤ now := fun x hx => (L.time x hx).1
  refine L.quiet hi hc m' t' _ _ _ hI e1 e2 e3 e4 e5 e6 e7 h7 (ext_done hf) (L.ord.done hf fun a' b' q => ?_) rfl rfl (fun x hx => put_other _ _ hx) (fun _ => by rw [e]; simp) (by show put h.til c now c ≤ now; rw [put_same]; exact Nat.le_refl _) (.inr ⟨rfl, ha⟩) rfl (.inr hdc)
  rw [(split_unique L.ord.nodup e q).1]; exact hr
/-- Silent, but the call takes its place at the order's end. -/
theorem LInv.putEnd {m : M} {h : Hist} {p0 : Nat → Int} {cur : Nat → Option Nat} {l : List Nat} {det : Nat → Option Nat} {now : Nat} (L : LInv m h p0 cur l det now) {i c : Nat} (hi : i < m.nth) (hc : cur i = some c) (hn : c ∉ l) (hp : pnext (pst h.ops p0 l) (h.ops c) = pst h.ops p0 l)
    (m' : M) (t' : Thr) (hI : m'.Inv) (e1 : m'.nth = m.nth) (e2 : m'.ths = put m.ths i t') (e3 : m'.nc = m.nc) (e4 : m'.cells = m.cells) (e5 : m'.read = m.read) (e6 : m'.dirty = m.dirty) (e7 : m'.am = m.am) (h7 : ¬ ((m.ths i).kind = 1 ∧ (m.ths i).at_ = 7)) (ha : ¬ t'.at_ = 0) (ho : opOf t' = opOf (m.ths i)) (ht : TS m' h p0 (l ++ [c]) det t' c) :
    LInv m' h p0 cur (l ++ [c]) det now := by
  obtain ⟨c1, c2, c3⟩ := L.curOk i c hi hc
  obtain ⟨p1, p2, p3⟩ := L.puts hi hc (a := l) (b := []) (by simp) hn (fun _ q => by cases q) hp
  exact L.quiet hi hc m' t' h _ cur hI e1 e2 e3 e4 e5 e6 e7 h7 p2 p1 rfl rfl (fun _ _ => rfl) (fun _ => by simp) (by omega) (.inl ⟨rfl, ha, c2, ho, ht⟩) p3 (.inl rfl)
theorem LInv.later {m : M} {h : Hist} {p0 : Nat → Int} {cur : Nat → Option Nat} {l : List Nat} {det : Nat → Option Nat} {now now' : Nat} (L : LInv m h p0 cur l det now) (hn : now ≤ now') : LInv m h p0 cur l det now' :=
  { L with time := fun c hc => by have := L.time c hc; omega }
/-- The tables turn under the lock. -/
theorem LInv.x2 {m : M} {h : Hist} {p0 : Nat → Int} {cur : Nat → Option Nat} {l : List Nat} {det : Nat → Option Nat} {now : Nat} (L : LInv m h p0 cur l det now) {i c : Nat} (hi : i < m.nth) (hc : cur i = some c) (hh : m.hol = i)
    (m' : M) (t' : Thr) (l' : List Nat) (det' : Nat → Option Nat) (hI : m'.Inv) (e1 : m'.nth = m.nth) (e2 : m'.ths = put m.ths i t') (hmem : ∀ x, x ≠ c → (x ∈ l' ↔ x ∈ l)) (hO : Order h p0 l') (ha : ¬ t'.at_ = 0) (ho : opOf t' = opOf (m.ths i)) (ht : TS m' h p0 l' det' t' c)
    (hinj : ∀ e e' d, det' e = some d → det' e' = some d → e = e') (habs : ∀ k, k < 8 → pst h.ops p0 l' k = m'.valE (m'.bnd k)) (htab : Tab m') (hdet : DetOk m' h p0 l' det')
    (hr : ∀ x k (e : Int), x < h.n → x ≠ c → k < 8 → 0 ≤ e → e < m.nc → HoldR m h p0 l x k e → HoldR m' h p0 l' x k e) (hd : ∀ x k (e : Int), x < h.n → x ≠ c → k < 8 → 0 ≤ e → e < m.nc → HoldD m h p0 l det x k e → HoldD m' h p0 l' det' x k e)
    (hq : ∀ x e, x ≠ c → (det' e = some x ↔ det e = some x)) : LInv m' h p0 cur l' det' now := by
  obtain ⟨c1, c2, c3⟩ := L.curOk i c hi hc
  refine L.gen hi hc m' t' h l' det' cur now hI e1 e2 rfl hmem hO rfl rfl (fun _ _ => rfl) (fun q => by omega) ⟨Nat.le_refl _, by omega⟩ (.inl ⟨rfl, ha, c2, ho, ht⟩) hinj habs htab hdet fun j d hj hji hd' hdn hdc T => ?_
  have hth := (L.inv.th j hj).resolve_left fun q => by rw [(L.idle j hj).1 q] at hd'; cases hd'
  have hop := hth.op
  unfold OpOk at hop
  refine T.x2 (hmem d hdc) (fun q => ?_) ⟨hop.1, hop.2.1⟩ hth.ne (fun q => hr d (m.ths j).key.toNat _ hdn hdc (by omega) q hth.e.2) (fun q => hd d (m.ths j).key.toNat _ hdn hdc (by omega) q hth.e.2) (hq d _ hdc).2 fun e => (hq d e hdc).1
  have := (L.inv.lock j hj).1 q
  omega
end Go.Proofs.Ytmnkphenobfbfaa
namespace Go.Proofs.Ytmnkphenobfbfaa
/-- What a step leaves: it goes on, or the call is done. -/
def Aft (h : Hist) (p0 : Nat → Int) (cur : Nat → Option Nat) (i c now : Nat) (o : Out) : Prop :=
  (o.d = false → ∃ l' det', LInv o.m h p0 cur l' det' now) ∧ (o.d = true → ∃ l' det', LInv o.m (h.done c now (o.f, o.v)) p0 (put cur i none) l' det' now)
theorem aft_ite {h : Hist} {p0 : Nat → Int} {cur : Nat → Option Nat} {i c now : Nat} {q : Prop} [Decidable q] {A B : Out} (ha : q → Aft h p0 cur i c now A) (hb : ¬ q → Aft h p0 cur i c now B) : Aft h p0 cur i c now (if q then A else B) := by
  by_cases r : q
  · rw [if_pos r]; exact ha r
  · rw [if_neg r]; exact hb r
theorem aft_go {h : Hist} {p0 : Nat → Int} {cur : Nat → Option Nat} {i c now : Nat} {X : M} {a : Int} (l' : List Nat) (det' : Nat → Option Nat) (L : LInv (X.goes i a).m h p0 cur l' det' now) : Aft h p0 cur i c now (X.goes i a) :=
  ⟨fun _ => ⟨_, _, L⟩, fun q => by cases q⟩
theorem aft_end {h : Hist} {p0 : Nat → Int} {cur : Nat → Option Nat} {i c now : Nat} {X : M} {f : Bool} {v : Int} (l' : List Nat) (det' : Nat → Option Nat) (L : LInv (X.ends i f v).m (h.done c now (f, v)) p0 (put cur i none) l' det' now) : Aft h p0 cur i c now (X.ends i f v) :=
  ⟨fun q => (by cases q), fun _ => ⟨_, _, L⟩⟩
/-- What is known of the thread whose step it is. -/
structure Own (m : M) (h : Hist) (p0 : Nat → Int) (cur : Nat → Option Nat) (l : List Nat) (det : Nat → Option Nat) (now i c : Nat) : Prop where
  L : LInv m h p0 cur l det now
  hi : i < m.nth
  hc : cur i = some c
  ho : ThOk m (m.ths i)
  T : TS m h p0 l det (m.ths i) c
  cn : c < h.n
  til : h.til c = 0
  op : h.ops c = ⟨(m.ths i).kind, m.key i, (m.ths i).val, (m.ths i).old⟩
  key : m.key i < 8
theorem LInv.own {m : M} {h : Hist} {p0 : Nat → Int} {cur : Nat → Option Nat} {l : List Nat} {det : Nat → Option Nat} {now i c : Nat} (L : LInv m h p0 cur l det now) (hi : i < m.nth) (hc : cur i = some c) : Own m h p0 cur l det now i c := by
  have ho := (L.inv.th i hi).resolve_left fun q => by rw [(L.idle i hi).1 q] at hc; cases hc
  obtain ⟨a, b, e⟩ := L.curOk i c hi hc
  exact ⟨L, hi, hc, ho, L.th i c hi hc, a, b, e, M.Inv.keyLt ho⟩
theorem Own.nd {m : M} {h : Hist} {p0 : Nat → Int} {cur : Nat → Option Nat} {l : List Nat} {det : Nat → Option Nat} {now i c : Nat} (O : Own m h p0 cur l det now i c) (hn : c ∉ l) (e : Nat) : ¬ det e = some c := fun q => by
  obtain ⟨_, _, _, a, b, r, _⟩ := O.L.detOk e c q
  exact hn (by rw [r]; simp)
theorem Own.nd2 {m : M} {h : Hist} {p0 : Nat → Int} {cur : Nat → Option Nat} {l : List Nat} {det : Nat → Option Nat} {now i c : Nat} (O : Own m h p0 cur l det now i c) (hn : ¬ (m.ths i).kind = 2) (e : Nat) : ¬ det e = some c := fun q => by
  obtain ⟨_, _, r, _⟩ := O.L.detOk e c q
  rw [O.op] at r
  exact hn r
theorem Own.ndE {m : M} {h : Hist} {p0 : Nat → Int} {cur : Nat → Option Nat} {l : List Nat} {det : Nat → Option Nat} {now i c : Nat} (O : Own m h p0 cur l det now i c) (hn : (m.ths i).e < 0) (e : Nat) : ¬ det e = some c := fun q => by
  have := O.T.dd e q
  omega
/-- An operation that finds nothing. -/
theorem op_none {p : Nat → Int} {o : Opn} (h1 : ¬ o.kind = 1) (h3 : o.kind = 3 → 1 ≤ o.old) (hp : p o.key = 0) : pans p o = (false, 0) ∧ pnext p o = p := by
  unfold pans pnext
  rw [if_neg h1, if_neg h1, hp]
  constructor
  · split
    · rfl
    · rfl
  · split
    · funext j; by_cases q : j = o.key
      · subst q; rw [put_same, hp]
      · rw [put_other _ _ q]
    · rw [if_neg]; intro q; have := h3 q.1; omega
theorem Own.nix {m : M} {h : Hist} {p0 : Nat → Int} {cur : Nat → Option Nat} {l : List Nat} {det : Nat → Option Nat} {now i c : Nat} (O : Own m h p0 cur l det now i c) (h1 : ¬ (m.ths i).kind = 1) {p : Nat → Int} (hp : p (m.key i) = 0) : pans p (h.ops c) = (false, 0) ∧ pnext p (h.ops c) = p := by
  have hop := O.ho.op
  unfold OpOk at hop
  refine op_none ?_ ?_ ?_
  · rw [O.op]; exact h1
  · rw [O.op]; intro q; have q' : (m.ths i).kind = 3 := q; show 1 ≤ (m.ths i).old; omega
  · rw [O.op]; exact hp
theorem valE_neg {m : M} {e : Int} (h : e < 0) : m.valE e = 0 := by unfold M.valE; rw [if_pos h]
theorem valE_pos {m : M} {e : Int} (h : 0 ≤ e) : m.valE e = if (m.cells e.toNat).st = 0 then (m.cells e.toNat).v else 0 := by unfold M.valE; rw [if_neg (by omega)]
theorem valE_dead {m : M} {e : Int} (h : ¬ (m.cells e.toNat).st = 0) : m.valE e = 0 := by unfold M.valE; split <;> first | rfl | exact if_neg h
theorem bnd_read {m : M} {k : Nat} (h : 0 ≤ m.read k) : m.bnd k = m.read k := by unfold M.bnd; rw [if_pos h]
theorem bnd_dirty {m : M} {k : Nat} (h : m.read k < 0) : m.bnd k = m.dirty k := by unfold M.bnd; rw [if_neg (by omega)]
/-- The key has nothing now. -/
theorem Own.absent {m : M} {h : Hist} {p0 : Nat → Int} {cur : Nat → Option Nat} {l : List Nat} {det : Nat → Option Nat} {now i c : Nat} (O : Own m h p0 cur l det now i c) (hr : m.read (m.key i) < 0) (hd : m.dirty (m.key i) < 0) : pst h.ops p0 l (m.key i) = 0 := by
  rw [O.L.abs _ O.key, bnd_dirty hr, valE_neg hd]
theorem Own.lost {m : M} {h : Hist} {p0 : Nat → Int} {cur : Nat → Option Nat} {l : List Nat} {det : Nat → Option Nat} {now i c : Nat} (O : Own m h p0 cur l det now i c) (hr : m.read (m.key i) < 0) (ha : ¬ m.am = true) : pst h.ops p0 l (m.key i) = 0 :=
  O.absent hr (O.L.tab.none (by simpa using ha) _ O.key hr)
theorem l_first {m : M} {h : Hist} {p0 : Nat → Int} {cur : Nat → Option Nat} {l : List Nat} {det : Nat → Option Nat} {now i c : Nat} (O : Own m h p0 cur l det now i c) (hat : (m.ths i).at_ = 1) (entry : Int) (hk : ((m.ths i).kind = 0 ∧ entry = 7) ∨ (((m.ths i).kind = 2 ∨ (m.ths i).kind = 3) ∧ entry = 8)) : Aft h p0 cur i c now (m.first i entry) := by
  have hI := inv_first O.L.inv O.hi O.ho hat entry (by omega)
  have h1 : ¬ (m.ths i).kind = 1 := by omega
  have hn := O.T.fOut h1 (by omega)
  have hd := O.nd hn
  unfold M.first at hI ⊢
  by_cases r : 0 ≤ m.read (m.key i)
  · rw [if_pos r] at hI ⊢
    refine aft_go l det ?_
    rw [sets_goes] at hI ⊢
    refine O.L.localStep O.hi O.hc _ _ hI rfl rfl rfl rfl rfl rfl rfl (by show ¬ entry = 0; omega) rfl (by omega) ?_
    constructor <;> dsimp only <;> intros <;> (try omega)
    case dd => exact absurd ‹_› (hd _)
    case fin => exact ⟨hn, .inl (bnd_read r)⟩
    case d8 => exact .inr ⟨hn, .inl rfl⟩
  · rw [if_neg r] at hI ⊢
    by_cases a : m.am = true
    · rw [if_pos a] at hI ⊢
      refine aft_go l det ?_
      rw [sets_goes] at hI ⊢
      refine O.L.localStep O.hi O.hc _ _ hI rfl rfl rfl rfl rfl rfl rfl (by simp) rfl (by omega) ?_
      constructor <;> dsimp only <;> intros <;> (try omega)
      case dd => exact absurd ‹_› (hd _)
    · rw [if_neg a] at hI ⊢
      refine aft_end (l ++ [c]) det ?_
      rw [sets_ends] at hI ⊢
      have q := O.nix h1 (O.lost (by omega) a)
      exact O.L.endAt O.hi O.hc (a := l) (b := []) (by simp) hn (fun _ q => by cases q) q.2 q.1 _ _ hI rfl rfl rfl rfl rfl rfl rfl (by omega) rfl
end Go.Proofs.Ytmnkphenobfbfaa
namespace Go.Proofs.Ytmnkphenobfbfaa
/-- The call stands at the order's end, and finds nothing there. -/
theorem nothing_end {h : Hist} {p0 : Nat → Int} {l : List Nat} {c k : Nat} (hp : pst h.ops p0 l k = 0) : Nothing h p0 (l ++ [c]) c k := ⟨l, [], rfl, hp⟩
theorem l_third {m : M} {h : Hist} {p0 : Nat → Int} {cur : Nat → Option Nat} {l : List Nat} {det : Nat → Option Nat} {now i c : Nat} (O : Own m h p0 cur l det now i c) (hat : (m.ths i).at_ = 3) (free : Int) (hk : ((m.ths i).kind = 0 ∧ free = 6) ∨ (((m.ths i).kind = 2 ∨ (m.ths i).kind = 3) ∧ free = 7)) : Aft h p0 cur i c now (m.third i free) := by
  have hI := inv_third O.L.inv O.hi O.ho hat free (by omega)
  have h1 : ¬ (m.ths i).kind = 1 := by omega
  have hn := O.T.fOut h1 (by omega)
  have hd := O.nd hn
  unfold M.third at hI ⊢
  by_cases r : 0 ≤ m.read (m.key i)
  · rw [if_pos r] at hI ⊢
    refine aft_go l det ?_
    rw [sets_goes] at hI ⊢
    refine O.L.localStep O.hi O.hc _ _ hI rfl rfl rfl rfl rfl rfl rfl (by show ¬ free = 0; omega) rfl (by omega) ?_
    constructor <;> dsimp only <;> intros <;> (try omega)
    case dd => exact absurd ‹_› (hd _)
    case mid => exact ⟨fun _ => ⟨hn, bnd_read r⟩, fun q => by omega⟩
    case d7 => exact ⟨fun _ => .inr ⟨hn, rfl⟩, fun q => by omega⟩
  · rw [if_neg r] at hI ⊢
    by_cases a : m.am = true
    · rw [if_pos a] at hI ⊢
      refine aft_go l det ?_
      rw [sets_goes] at hI ⊢
      refine O.L.localStep O.hi O.hc _ _ hI rfl rfl rfl rfl rfl rfl rfl (by simp) rfl (by omega) ?_
      constructor <;> dsimp only <;> intros <;> (try omega)
      case dd => exact absurd ‹_› (hd _)
      case f4 => exact ⟨Int.not_le.1 r, a⟩
    · rw [if_neg a] at hI ⊢
      refine aft_go (l ++ [c]) det ?_
      rw [sets_goes] at hI ⊢
      have hp := O.lost (by omega) a
      have q := O.nix h1 hp
      refine O.L.putEnd O.hi O.hc hn q.2 _ _ hI rfl rfl rfl rfl rfl rfl rfl (by omega) (by show ¬ free = 0; omega) rfl ?_
      constructor <;> dsimp only <;> intros <;> (try omega)
      case dd => exact absurd ‹_› (hd _)
      case mid => exact ⟨fun q => absurd q r, fun _ => nothing_end hp⟩
      case d7 => exact ⟨fun q => absurd q r, fun _ => nothing_end hp⟩
theorem l_frees {m : M} {h : Hist} {p0 : Nat → Int} {cur : Nat → Option Nat} {l : List Nat} {det : Nat → Option Nat} {now i c : Nat} (O : Own m h p0 cur l det now i c) (entry : Int) (hk : ((m.ths i).kind = 0 ∧ entry = 7 ∧ (m.ths i).at_ = 6) ∨ (((m.ths i).kind = 2 ∨ (m.ths i).kind = 3) ∧ entry = 8 ∧ (m.ths i).at_ = 7)) : Aft h p0 cur i c now (m.frees i entry) := by
  have hI := inv_frees O.L.inv O.hi O.ho entry (by omega)
  have h1 : ¬ (m.ths i).kind = 1 := by omega
  have T := O.T
  unfold M.frees at hI ⊢
  by_cases r : (m.ths i).e < 0
  · rw [if_pos r] at hI ⊢
    refine aft_end l det ?_
    have N : Nothing h p0 l c (m.key i) := by
      by_cases k2 : (m.ths i).kind = 2
      · exact (T.d7 k2 (by omega)).2 r
      · exact (T.mid (by omega)).2 r
    obtain ⟨a, b, e, hp⟩ := N
    exact O.L.endIn O.hi O.hc e (O.nix h1 hp).1 (O.ndE r) _ { m.ths i with at_ := 0 } hI rfl rfl rfl rfl rfl rfl rfl (by omega) rfl
  · rw [if_neg r] at hI ⊢
    refine aft_go l det ?_
    refine O.L.localStep O.hi O.hc _ { m.ths i with at_ := entry } hI rfl rfl rfl rfl rfl rfl rfl (by show ¬ entry = 0; omega) rfl (by omega) ?_
    have md : ¬ (m.ths i).kind = 2 → c ∉ l ∧ m.bnd (m.key i) = (m.ths i).e := fun k2 => (T.mid (by omega)).1 (by omega)
    constructor <;> dsimp only <;> intros <;> (try omega)
    case dd => exact T.dd _ ‹_›
    case fin => exact ⟨(md (by omega)).1, .inl (md (by omega)).2⟩
    case d8 k2 _ => exact ((T.d7 k2 (by omega)).1 (by omega)).imp id fun q => ⟨q.1, .inl q.2⟩
/-- Step 4: DIRTY's entry. -/
theorem l_fourth {m : M} {h : Hist} {p0 : Nat → Int} {cur : Nat → Option Nat} {l : List Nat} {det : Nat → Option Nat} {now i c : Nat} (O : Own m h p0 cur l det now i c) (hat : (m.ths i).at_ = 4) (a : Int) (hI : ((m.sets i (m.dirty (m.key i))).goes i a).m.Inv)
    (hk : (((m.ths i).kind = 0 ∨ (m.ths i).kind = 2) ∧ a = 5) ∨ ((m.ths i).kind = 3 ∧ ((a = 7 ∧ m.dirty (m.key i) < 0) ∨ (a = 6 ∧ 0 ≤ m.dirty (m.key i))))) : Aft h p0 cur i c now ((m.sets i (m.dirty (m.key i))).goes i a) := by
  have h1 : ¬ (m.ths i).kind = 1 := by omega
  have hn := O.T.fOut h1 (by omega)
  have hd := O.nd hn
  obtain ⟨hr, ham⟩ := O.T.f4 h1 hat
  have hr' : m.read (m.key i) < 0 := hr
  have hdt := O.L.inv.dt _ O.key
  rw [sets_goes] at hI
  by_cases r : m.dirty (m.key i) < 0
  · refine aft_go (l ++ [c]) det ?_
    rw [sets_goes]
    have hp := O.absent hr r
    have q := O.nix h1 hp
    refine O.L.putEnd O.hi O.hc hn q.2 _ _ hI rfl rfl rfl rfl rfl rfl rfl (by omega) (by show ¬ a = 0; omega) rfl ?_
    constructor <;> dsimp only <;> intros <;> (try omega)
    case dd => exact absurd ‹_› (hd _)
    case fAm1 => exact ham
    case mid => exact ⟨fun q => by omega, fun _ => nothing_end hp⟩
    case d5 => exact ⟨fun q => by omega, fun _ => ⟨nothing_end hp, r⟩⟩
  · refine aft_go l det ?_
    rw [sets_goes]
    refine O.L.localStep O.hi O.hc _ _ hI rfl rfl rfl rfl rfl rfl rfl (by show ¬ a = 0; omega) rfl (by omega) ?_
    constructor <;> dsimp only <;> intros <;> (try omega)
    case dd => exact absurd ‹_› (hd _)
    case mid => exact ⟨fun _ => ⟨hn, bnd_dirty hr⟩, fun q => by omega⟩
    case mid5 => rfl
    case d5 => exact ⟨fun _ => ⟨hn, rfl, hr⟩, fun q => by omega⟩
end Go.Proofs.Ytmnkphenobfbfaa
namespace Go.Proofs.Ytmnkphenobfbfaa
theorem bnd_of {m m' : M} {k : Nat} (e5 : m'.read k = m.read k) (h : m.read k < 0 → m'.dirty k = m.dirty k) : m'.bnd k = m.bnd k := by
  unfold M.bnd
  rw [e5]
  split
  · rfl
  · exact h (by omega)
/-- Under the lock: READ stays, each key's entry stays, no entry without a key changes. -/
theorem Own.tables {m : M} {h : Hist} {p0 : Nat → Int} {cur : Nat → Option Nat} {l : List Nat} {det : Nat → Option Nat} {now i c : Nat} (O : Own m h p0 cur l det now i c) (hh : m.hol = i)
    (m' : M) (t' : Thr) (hI : m'.Inv) (e1 : m'.nth = m.nth) (e2 : m'.ths = put m.ths i t') (e3 : m'.nc = m.nc) (e5 : m'.read = m.read) (hb : ∀ k, k < 8 → m'.bnd k = m.bnd k) (hv : ∀ k, k < 8 → m'.valE (m.bnd k) = m.valE (m.bnd k)) (hcl : ∀ e : Nat, (∀ k, k < 8 → ¬ m.bnd k = (e : Int)) → m'.cells e = m.cells e)
    (htab : Tab m') (ha : ¬ t'.at_ = 0) (ho : opOf t' = opOf (m.ths i)) (ht : TS m' h p0 l det t' c) : LInv m' h p0 cur l det now := by
  have L := O.L
  have lost : ∀ e : Int, 0 ≤ e → Lost m e → Lost m' e := fun e he q => by
    refine ⟨?_, fun k hk => by rw [hb k hk]; exact q.2 k hk⟩
    rw [hcl e.toNat fun k hk => by rw [Int.toNat_of_nonneg he]; exact q.2 k hk]
    exact q.1
  refine L.x2 O.hi O.hc hh m' t' l det hI e1 e2 (fun _ _ => Iff.rfl) L.ord ha ho ht L.detInj (fun k hk => by rw [hb k hk, hv k hk]; exact L.abs k hk) htab ?_ (fun x k e _ _ hk he _ H => ?_) (fun x k e _ _ hk he _ H => ?_) fun _ _ _ => Iff.rfl
  · refine DetOk.ext (c := c) L.detOk (ext_same O.til) e3 hb (fun e ⟨d, hd⟩ => hcl e (L.detOk e d hd).2.1) (fun _ _ => rfl) (.inl rfl)
  · unfold HoldR at H ⊢
    rw [e5]
    exact H.imp id fun q => ⟨lost e he q.1, q.2⟩
  · unfold HoldD at H ⊢
    rw [hb k hk]
    exact H.imp id fun q => q.imp (fun q => ⟨lost e he q.1, q.2⟩) id
theorem Own.lone {m : M} {h : Hist} {p0 : Nat → Int} {cur : Nat → Option Nat} {l : List Nat} {det : Nat → Option Nat} {now i c : Nat} (O : Own m h p0 cur l det now i c) (hh : m.hol = i) (j : Nat) (hj : j < m.nth) (hk : (m.ths j).kind = 1) (ha : (m.ths j).at_ = 7) : j = i := by
  have := (O.L.inv.lock j hj).1 (by unfold Locked; omega)
  omega
theorem l_missed {m : M} {h : Hist} {p0 : Nat → Int} {cur : Nat → Option Nat} {l : List Nat} {det : Nat → Option Nat} {now i c : Nat} (O : Own m h p0 cur l det now i c) (a free : Int) (hk : ((m.ths i).kind = 0 ∧ a = 5 ∧ free = 6) ∨ ((m.ths i).kind = 2 ∧ a = 6 ∧ free = 7) ∨ ((m.ths i).kind = 3 ∧ a = 6 ∧ free = 7))
    (hat : (m.ths i).at_ = a ∨ (m.ths i).at_ = 10 * a + 1 ∨ (m.ths i).at_ = 10 * a + 2 ∨ (m.ths i).at_ = 10 * a + 3) : Aft h p0 cur i c now (m.missed i a free) := by
  have hI := inv_missed O.L.inv O.hi O.ho a free hk hat
  have h1 : ¬ (m.ths i).kind = 1 := by omega
  have hh : m.hol = i := holds O.L.inv O.hi (by unfold Locked; omega)
  have T := O.T
  have L := O.L
  unfold M.missed at hI ⊢
  by_cases a1 : (m.ths i).at_ = 10 * a + 1
  · rw [if_pos a1] at hI ⊢
    refine aft_go l det ?_
    have ham := T.fAm1 h1 (by omega)
    have gone : ∀ k, k < 8 → 0 ≤ m.read k → m.dirty k < 0 → (m.cells (m.read k).toNat).st = 2 := fun k hk h2 h3 => by
      rcases L.tab.gone ham k hk h2 h3 with q | ⟨j, hj, q1, q2, _⟩
      · exact q
      · have := O.lone hh j hj q1 q2
        subst this
        exact absurd q1 h1
    have hb : ∀ k, ({ m with read := m.dirty, am := false }.goes i (10 * a + 2)).m.bnd k = m.dirty k := fun k => by show (if 0 ≤ m.dirty k then m.dirty k else m.dirty k) = _; split <;> rfl
    have old : ∀ k, k < 8 → 0 ≤ m.dirty k → m.bnd k = m.dirty k := fun k hk hd => by
      by_cases q : 0 ≤ m.read k
      · rw [bnd_read q, L.tab.both k hk hd q]
      · exact bnd_dirty (by omega)
    have old' : ∀ k, k < 8 → m.dirty k < 0 → m.valE (m.bnd k) = 0 := fun k hk hd => by
      by_cases q : 0 ≤ m.read k
      · rw [bnd_read q]; exact valE_dead (by rw [gone k hk q hd]; omega)
      · rw [bnd_dirty (by omega)]; exact valE_neg hd
    have dead : ∀ e : Int, 0 ≤ e → (m.cells e.toNat).st = 2 → ∀ k, k < 8 → ¬ m.dirty k = e := fun e he hs k hk q => L.tab.live k hk (by omega) (by rw [q]; exact hs)
    have miss : ∀ x k, k < 8 → m.dirty k < 0 → Miss h p0 l x k := fun x k hk hd => ⟨l, [], by simp, by rw [L.abs k hk]; exact old' k hk hd, fun _ q => by cases q⟩
    refine L.x2 O.hi O.hc hh _ { m.ths i with at_ := 10 * a + 2 } l det hI rfl rfl (fun _ _ => Iff.rfl) L.ord (by show ¬ 10 * a + 2 = 0; omega) rfl ?_ L.detInj (fun k hk => ?_) ?_ (fun e d hd => ?_) (fun x k e _ _ hk he _ H => ?_) (fun x k e _ _ hk he _ H => ?_) fun _ _ _ => Iff.rfl
    · constructor <;> dsimp only <;> intros <;> (try omega)
      case dd => exact T.dd _ ‹_›
      case fAm0 => rfl
      case mid =>
        have q := T.mid (by omega)
        refine ⟨fun r => ⟨(q.1 r).1, ?_⟩, q.2⟩
        rw [hb]
        exact T.mid5 (by omega) r
      case d6 => exact T.d6 (by omega) (by omega)
    · rw [hb]
      show _ = m.valE (m.dirty k)
      rw [L.abs k hk]
      by_cases q : m.dirty k < 0
      · rw [old' k hk q, valE_neg q]
      · rw [old k hk (by omega)]
    · refine ⟨fun _ _ _ _ => rfl, fun _ _ _ q => q, L.tab.live, fun k _ (q1 : 0 ≤ m.dirty k) (q2 : m.dirty k < 0) => by omega, fun q => (by cases q), fun k k' hk hk' h1 h2 => ?_⟩
      rw [hb] at h1
      rw [hb, hb] at h2
      exact L.tab.inj k k' hk hk' (by rw [old k hk h1]; exact h1) (by rw [old k hk h1, old k' hk' (by omega)]; exact h2)
    · obtain ⟨a1, a2, a3⟩ := L.detOk e d hd
      refine ⟨a1, fun k hk q => ?_, a3⟩
      rw [hb] at q
      exact a2 k hk (by rw [old k hk (by omega)]; exact q)
    · have lost : (m.cells e.toNat).st = 2 → Lost ({ m with read := m.dirty, am := false }.goes i (10 * a + 2)).m e := fun q => ⟨q, fun k hk => by rw [hb]; exact dead e he q k hk⟩
      rcases H with q | ⟨q1, q2⟩
      · by_cases r : m.dirty k < 0
        · exact .inr ⟨lost (by rw [← q]; exact gone k hk (by omega) r), miss x k hk r⟩
        · exact .inl (by show m.dirty k = e; rw [L.tab.both k hk (by omega) (by omega)]; exact q)
      · exact .inr ⟨lost q1.1, q2⟩
    · have lost : (m.cells e.toNat).st = 2 → Lost ({ m with read := m.dirty, am := false }.goes i (10 * a + 2)).m e := fun q => ⟨q, fun k hk => by rw [hb]; exact dead e he q k hk⟩
      rcases H with q | ⟨q1, q2⟩ | q
      · by_cases r : m.dirty k < 0
        · by_cases r2 : 0 ≤ m.read k
          · rw [bnd_read r2] at q
            exact .inr (.inl ⟨lost (by rw [← q]; exact gone k hk r2 r), miss x k hk r⟩)
          · rw [bnd_dirty (by omega)] at q
            omega
        · exact .inl (by rw [hb, ← old k hk (by omega)]; exact q)
      · exact .inr (.inl ⟨lost q1.1, q2⟩)
      · exact .inr (.inr q)
  rw [if_neg a1] at hI ⊢
  by_cases a2 : (m.ths i).at_ = 10 * a + 2
  · rw [if_pos a2] at hI ⊢
    refine aft_go l det ?_
    have ham := T.fAm0 h1 (by omega)
    have hb : ∀ k, k < 8 → ({ m with hd := false, dirty := fun _ => -1 }.goes i (10 * a + 3)).m.bnd k = m.bnd k := fun k hk => by
      refine bnd_of rfl fun q => ?_
      have d1 := L.tab.none ham k hk q
      have d2 := L.inv.dt k hk
      show (-1 : Int) = m.dirty k
      omega
    refine O.tables hh _ { m.ths i with at_ := 10 * a + 3 } hI rfl rfl rfl rfl hb (fun _ _ => rfl) (fun _ _ => rfl) ?_ (by show ¬ 10 * a + 3 = 0; omega) rfl ?_
    · refine ⟨fun k _ (q : (0 : Int) ≤ -1) => by omega, fun _ _ _ _ => (by show (-1 : Int) < 0; omega), fun k _ (q : (0 : Int) ≤ -1) => by omega, fun k _ (q : (0 : Int) ≤ -1) => by omega, fun (q : m.am = true) => (by rw [ham] at q; cases q), fun k k' hk hk' => ?_⟩
      rw [hb k hk, hb k' hk']
      exact L.tab.inj k k' hk hk'
    · constructor <;> dsimp only <;> intros <;> (try omega)
      case dd => exact T.dd _ ‹_›
      case mid =>
        have q := T.mid (by omega)
        exact ⟨fun r => ⟨(q.1 r).1, (hb _ O.key).trans (q.1 r).2⟩, q.2⟩
      case d6 => exact T.d6 (by omega) (by omega)
  rw [if_neg a2] at hI ⊢
  by_cases a3 : (m.ths i).at_ = 10 * a + 3
  · rw [if_pos a3] at hI ⊢
    refine aft_go l det ?_
    refine L.localStep O.hi O.hc _ { m.ths i with at_ := free } hI rfl rfl rfl rfl rfl rfl rfl (by show ¬ free = 0; omega) rfl (by omega) ?_
    constructor <;> dsimp only <;> intros <;> (try omega)
    case dd => exact T.dd _ ‹_›
    case mid => exact T.mid (by omega)
    case d7 =>
      have q := T.d6 (by omega) (by omega)
      exact ⟨fun r => .inl (q.1 r), q.2⟩
  rw [if_neg a3] at hI ⊢
  by_cases a4 : m.mis + 1 < cnt m.dirty 8
  · rw [if_pos a4] at hI ⊢
    refine aft_go l det ?_
    refine L.localStep O.hi O.hc _ { m.ths i with at_ := free } hI rfl rfl rfl rfl rfl rfl rfl (by show ¬ free = 0; omega) rfl (by omega) ?_
    constructor <;> dsimp only <;> intros <;> (try omega)
    case dd => exact T.dd _ ‹_›
    case mid => exact T.mid (by omega)
    case d7 =>
      have q := T.d6 (by omega) (by omega)
      exact ⟨fun r => .inl (q.1 r), q.2⟩
  · rw [if_neg a4] at hI ⊢
    refine aft_go l det ?_
    refine L.localStep O.hi O.hc _ { m.ths i with at_ := 10 * a + 1 } hI rfl rfl rfl rfl rfl rfl rfl (by show ¬ 10 * a + 1 = 0; omega) rfl (by omega) ?_
    constructor <;> dsimp only <;> intros <;> (try omega)
    case dd => exact T.dd _ ‹_›
    case mid => exact T.mid (by omega)
    case mid5 => exact T.mid5 (by omega) ‹_›
    case fAm1 => exact T.fAm1 h1 (by omega)
    case d6 => exact T.d6 (by omega) (by omega)
end Go.Proofs.Ytmnkphenobfbfaa
namespace Go.Proofs.Ytmnkphenobfbfaa
theorem Order.snoc {h : Hist} {p0 : Nat → Int} {l : List Nat} (o : Order h p0 l) {c : Nat} (hc : c < h.n) (hn : c ∉ l) (hz : h.til c = 0) : Order h p0 (l ++ [c]) := by
  have nb : ∀ y, ¬ h.before c y := fun y q => by unfold Hist.before at q; omega
  refine ⟨?_, fun x hx => ?_, ?_, fun a0 x b0 e hx => ?_⟩
  · rw [List.nodup_append]
    refine ⟨o.nodup, by simp, fun x hx y hy => ?_⟩
    rw [List.mem_singleton] at hy
    intro q
    subst q
    subst hy
    exact hn hx
  · rcases List.mem_append.1 hx with q | q
    · exact o.lt x q
    · rw [List.mem_singleton.1 q]; exact hc
  · refine List.pairwise_append.2 ⟨o.pw, by simp, fun x hx y hy => ?_⟩
    rw [List.mem_singleton.1 hy]; exact nb x
  · have hxc : x ≠ c := fun q => by subst q; omega
    rcases List.append_eq_append_iff.1 e with ⟨a', e1, e2⟩ | ⟨c', e1, e2⟩
    · cases a' with
      | nil =>
        simp only [List.nil_append, List.cons.injEq] at e2
        exact absurd e2.1.symm hxc
      | cons y a' => simp at e2
    · cases c' with
      | nil =>
        simp only [List.nil_append, List.cons.injEq] at e2
        exact absurd e2.1 hxc
      | cons y c' =>
        simp only [List.cons_append, List.cons.injEq] at e2
        exact o.ans a0 x c' (by rw [e1, e2.1]) hx
theorem put_self {α : Type} (f : Nat → α) (i : Nat) : put f i (f i) = f := by
  funext j
  by_cases q : j = i
  · subst q; exact put_same _ _ _
  · exact put_other _ _ q
theorem valE_put {m m' : M} {e e' : Int} {x : Cel} (he : 0 ≤ e) (hm : m'.cells = put m.cells e.toNat x) (hne : ¬ e' = e) : m'.valE e' = m.valE e' := by
  unfold M.valE
  by_cases q : e' < 0
  · rw [if_pos q, if_pos q]
  · rw [if_neg q, if_neg q, hm, put_other _ _ (by omega)]
theorem valE_put_same {m m' : M} {e : Int} {x : Cel} (he : 0 ≤ e) (hm : m'.cells = put m.cells e.toNat x) : m'.valE e = if x.st = 0 then x.v else 0 := by
  rw [valE_pos he, hm, put_same]
/-- An entry that has the call's key changes; the call takes its place at the order's end, and may be done. -/
theorem Own.change {m : M} {h : Hist} {p0 : Nat → Int} {cur : Nat → Option Nat} {l : List Nat} {det : Nat → Option Nat} {now i c : Nat} (O : Own m h p0 cur l det now i c) {e : Int} (he : 0 ≤ e) (hbe : m.bnd (m.key i) = e) (x : Cel) (h2 : ¬ (m.cells e.toNat).st = 2) (hx2 : ¬ x.st = 2) (hnew : m.read (m.key i) < 0 → x.st = 0) (hn : c ∉ l)
    (hp : pnext (pst h.ops p0 l) (h.ops c) = put (pst h.ops p0 l) (m.key i) (if x.st = 0 then x.v else 0)) (h7 : ¬ ((m.ths i).kind = 1 ∧ (m.ths i).at_ = 7))
    (m' : M) (t' : Thr) (hI : m'.Inv) (e1 : m'.nth = m.nth) (e2 : m'.ths = put m.ths i t') (e3 : m'.nc = m.nc) (e4 : m'.cells = put m.cells e.toNat x) (e5 : m'.read = m.read) (e6 : m'.dirty = m.dirty) (e7 : m'.am = m.am)
    (h' : Hist) (cur' : Nat → Option Nat) (D : (h' = h ∧ cur' = cur ∧ ¬ t'.at_ = 0 ∧ opOf t' = opOf (m.ths i) ∧ TS m' h p0 (l ++ [c]) det t' c) ∨ (∃ r, pans (pst h.ops p0 l) (h.ops c) = r ∧ h' = h.done c now r ∧ cur' = put cur i none ∧ t'.at_ = 0)) : LInv m' h' p0 cur' (l ++ [c]) det now := by
  have L := O.L
  have hf : ∀ x, x < h.n → h.frm x ≤ now := fun x hx => (L.time x hx).1
  have hb : ∀ k, m'.bnd k = m.bnd k := fun k => by unfold M.bnd; rw [e5, e6]
  have nd := O.nd hn
  have S := L.ord.snoc O.cn hn O.til
  have E : Ext h h' p0 l (l ++ [c]) c none := by
    have E0 : Ext h h' p0 l l c none := by
      rcases D with ⟨q, _⟩ | ⟨r, _, q, _⟩
      · rw [q]; exact ext_same O.til
      · rw [q]; exact ext_done hf
    have := ext_ins (a := l) (b := []) (c := c) (h := h) (h' := h') (p0 := p0) (by simpa using E0) (.inr rfl)
    simpa using this
  have st2 : ∀ y, (m'.cells y).st = 2 ↔ (m.cells y).st = 2 := fun y => by
    rw [e4]
    by_cases q : y = e.toNat
    · subst q; rw [put_same]; exact ⟨fun q => absurd q hx2, fun q => absurd q h2⟩
    · rw [put_other _ _ q]
  have tl : ∀ x, x ≠ c → h'.til x = h.til x := fun x hx => by
    rcases D with ⟨q, _⟩ | ⟨r, _, q, _⟩
    · rw [q]
    · rw [q]; exact put_other _ _ hx
  refine L.x1 O.hi O.hc m' t' h' _ cur' now none hI e1 e2 e5 e6 e7 st2 E (fun _ _ _ _ _ q => by cases q) ?_ ?_ ?_ tl (fun _ => by simp) ⟨Nat.le_refl _, ?_⟩ ?_ (fun k hk => ?_) ?_ ?_
  · rcases D with ⟨q, _⟩ | ⟨r, r1, q, _⟩
    · rw [q]; exact S
    · rw [q]
      refine S.done hf fun a b e => ?_
      rw [(split_unique S.nodup rfl e).1]; exact r1
  · rcases D with ⟨q, _⟩ | ⟨r, _, q, _⟩ <;> rw [q] <;> rfl
  · rcases D with ⟨q, _⟩ | ⟨r, _, q, _⟩ <;> rw [q] <;> rfl
  · rcases D with ⟨q, _⟩ | ⟨r, _, q, _⟩
    · rw [q, O.til]; omega
    · rw [q]; show put h.til c now c ≤ now; rw [put_same]; exact Nat.le_refl _
  · rcases D with ⟨q, q2, q3, q4, q5⟩ | ⟨r, _, q, q2, q3⟩
    · rw [q]; exact .inl ⟨q2, q3, O.til, q4, q5⟩
    · exact .inr ⟨q2, q3⟩
  · rw [pst_snoc, hp, hb]
    by_cases q : k = m.key i
    · subst q; rw [put_same, hbe, valE_put_same he e4]
    · rw [put_other _ _ q, L.abs k hk]
      refine (valE_put he e4 fun r => q ?_).symm
      exact L.tab.inj k _ hk O.key (by rw [r]; exact he) (by rw [r, hbe])
  · refine L.tab.cel e1 e2 h7 e5 e6 e7 st2 fun k hk q1 q2 => ?_
    rw [e4]
    by_cases q : (m.dirty k).toNat = e.toNat
    · rw [q, put_same]
      have : k = m.key i := L.tab.inj k _ hk O.key (by rw [bnd_dirty q2]; exact q1) (by rw [hbe, bnd_dirty q2]; omega)
      subst this
      exact hnew q2
    · rw [put_other _ _ q]; exact L.tab.new k hk q1 q2
  · refine DetOk.ext L.detOk E e3 (fun k _ => hb k) (fun y ⟨d, hd⟩ => ?_) tl (.inr nd)
    rw [e4, put_other]
    intro q
    refine (L.detOk y d hd).2.1 _ O.key ?_
    rw [hbe, q]; omega
theorem HoldR.toD {m : M} {h : Hist} {p0 : Nat → Int} {l : List Nat} {det : Nat → Option Nat} {c k : Nat} {e : Int} (H : HoldR m h p0 l c k e) (he : 0 ≤ e) : HoldD m h p0 l det c k e := by
  rcases H with q | q
  · exact .inl (by rw [bnd_read (by omega)]; exact q)
  · exact .inr (.inl q)
/-- A moment at which the key had what its entry has now. -/
theorem Own.looks {m : M} {h : Hist} {p0 : Nat → Int} {cur : Nat → Option Nat} {l : List Nat} {det : Nat → Option Nat} {now i c : Nat} (O : Own m h p0 cur l det now i c) {e : Int} (he : 0 ≤ e) (H : HoldD m h p0 l det c (m.key i) e) :
    ∃ a b, l = a ++ b ∧ (∀ y, y ∈ b → ¬ h.before y c) ∧ pst h.ops p0 a (m.key i) = m.valE e := by
  rcases H with q | ⟨q1, a, b, q2, q3, q4⟩ | ⟨d, q1, q2, a, b, q3, q4⟩
  · exact ⟨l, [], by simp, fun _ q => (by cases q), by rw [O.L.abs _ O.key, q]⟩
  · exact ⟨a, b, q2, q4, by rw [q3, valE_dead (by rw [q1.1]; omega)]⟩
  · obtain ⟨d1, d2, d3, a', b', d4, d5, d6⟩ := O.L.detOk _ d q1
    obtain ⟨rfl, rfl⟩ := split_unique O.L.ord.nodup q3 d4
    by_cases s : (m.cells e.toNat).st = 0
    · refine ⟨a', d :: b', q3, fun y hy => ?_, ?_⟩
      · rcases List.mem_cons.1 hy with r | r
        · rw [r]; intro z; unfold Hist.before at z; have := (d5 s).1; omega
        · exact q4 y r
      · rw [valE_pos he, if_pos s, ← (d5 s).2, q2]
    · refine ⟨a' ++ [d], b', by rw [q3]; simp, q4, ?_⟩
      rw [valE_dead s, pst_snoc]
      unfold pnext
      rw [if_neg (by rw [d3]; omega), if_pos d3, q2, put_same]
end Go.Proofs.Ytmnkphenobfbfaa
namespace Go.Proofs.Ytmnkphenobfbfaa
theorem Own.ops {m : M} {h : Hist} {p0 : Nat → Int} {cur : Nat → Option Nat} {l : List Nat} {det : Nat → Option Nat} {now i c : Nat} (O : Own m h p0 cur l det now i c) : (h.ops c).kind = (m.ths i).kind ∧ (h.ops c).key = m.key i ∧ (h.ops c).val = (m.ths i).val ∧ (h.ops c).old = (m.ths i).old := by
  rw [O.op]; exact ⟨rfl, rfl, rfl, rfl⟩
/-- The end of a look. -/
theorem Own.endLook {m : M} {h : Hist} {p0 : Nat → Int} {cur : Nat → Option Nat} {l : List Nat} {det : Nat → Option Nat} {now i c : Nat} (O : Own m h p0 cur l det now i c) (hn : c ∉ l) {e : Int} (he : 0 ≤ e) (H : HoldD m h p0 l det c (m.key i) e) {f : Bool} {v : Int}
    (hq : ∀ p : Nat → Int, p (m.key i) = m.valE e → pans p (h.ops c) = (f, v) ∧ pnext p (h.ops c) = p) (h7 : ¬ (m.ths i).kind = 1) {X : M} (t' : Thr) (hI : (X.ends i f v).m.Inv) (ex : (X.ends i f v).m = m.thr i t') (ha : t'.at_ = 0) : Aft h p0 cur i c now (X.ends i f v) := by
  obtain ⟨a, b, q1, q2, q3⟩ := O.looks he H
  obtain ⟨r1, r2⟩ := hq _ q3
  refine aft_end (a ++ c :: b) det ?_
  rw [ex] at hI ⊢
  exact O.L.endAt O.hi O.hc q1 hn q2 r2 r1 _ t' hI rfl rfl rfl rfl rfl rfl rfl (fun q => h7 q.1) ha
theorem l_load {m : M} {h : Hist} {p0 : Nat → Int} {cur : Nat → Option Nat} {l : List Nat} {det : Nat → Option Nat} {now i c : Nat} (O : Own m h p0 cur l det now i c) (hk : (m.ths i).kind = 0) (h2 : ¬ (m.ths i).at_ = 2) : Aft h p0 cur i c now (m.load i) := by
  have hI := inv_load O.L.inv O.hi O.ho hk h2
  have hak := O.ho.ak
  unfold M.load at hI ⊢
  by_cases a1 : (m.ths i).at_ = 1
  · rw [if_pos a1]; exact l_first O a1 7 (.inl ⟨hk, rfl⟩)
  rw [if_neg a1] at hI ⊢
  by_cases a3 : (m.ths i).at_ = 3
  · rw [if_pos a3]; exact l_third O a3 6 (.inl ⟨hk, rfl⟩)
  rw [if_neg a3] at hI ⊢
  by_cases a4 : (m.ths i).at_ = 4
  · rw [if_pos a4] at hI ⊢; exact l_fourth O a4 5 hI (.inl ⟨.inl hk, rfl⟩)
  rw [if_neg a4] at hI ⊢
  by_cases a5 : (m.ths i).at_ = 5 ∨ (m.ths i).at_ = 51 ∨ (m.ths i).at_ = 52 ∨ (m.ths i).at_ = 53
  · rw [if_pos a5]; exact l_missed O 5 6 (.inl ⟨hk, rfl, rfl⟩) (by omega)
  rw [if_neg a5] at hI ⊢
  by_cases a6 : (m.ths i).at_ = 6
  · rw [if_pos a6]; exact l_frees O 7 (.inl ⟨hk, rfl, a6⟩)
  rw [if_neg a6] at hI ⊢
  have a7 : (m.ths i).at_ = 7 := by unfold AtOk at hak; omega
  have F := O.T.fin (.inl ⟨hk, a7⟩)
  have he := O.ho.ne (by unfold NeedsE; omega)
  refine O.endLook F.1 he F.2 (fun p hp => ?_) (by omega) { m.ths i with at_ := 0 } hI rfl rfl
  obtain ⟨o1, o2, o3, o4⟩ := O.ops
  have cel := O.L.inv.cel (m.ths i).e.toNat (by have := O.ho.e; omega)
  unfold pans pnext
  rw [o1, o2, hp, hk, valE_pos he]
  simp only [if_false, Int.reduceEq, false_and, and_true]
  unfold CelOk at cel
  by_cases s : (m.cells (m.ths i).e.toNat).st = 0
  · rw [if_pos s]
    simp only [s, Prod.mk.injEq, and_true]
    have : 0 < (m.cells (m.ths i).e.toNat).v := by omega
    simp [this]
  · rw [if_neg s]
    have : (m.cells (m.ths i).e.toNat).v = 0 := by omega
    simp [this, s]
theorem l_replace {m : M} {h : Hist} {p0 : Nat → Int} {cur : Nat → Option Nat} {l : List Nat} {det : Nat → Option Nat} {now i c : Nat} (O : Own m h p0 cur l det now i c) (hk : (m.ths i).kind = 3) (h2 : ¬ (m.ths i).at_ = 2) : Aft h p0 cur i c now (m.replace i) := by
  have hI := inv_replace O.L.inv O.hi O.ho hk h2
  have hak := O.ho.ak
  have L := O.L
  have hop := O.ho.op
  unfold OpOk at hop
  unfold M.replace at hI ⊢
  by_cases a1 : (m.ths i).at_ = 1
  · rw [if_pos a1]; exact l_first O a1 8 (.inr ⟨.inr hk, rfl⟩)
  rw [if_neg a1] at hI ⊢
  by_cases a3 : (m.ths i).at_ = 3
  · rw [if_pos a3]; exact l_third O a3 7 (.inr ⟨.inr hk, rfl⟩)
  rw [if_neg a3] at hI ⊢
  by_cases a4 : (m.ths i).at_ = 4
  · rw [if_pos a4] at hI ⊢
    refine l_fourth O a4 _ hI (.inr ⟨hk, ?_⟩)
    split <;> omega
  rw [if_neg a4] at hI ⊢
  by_cases a5 : (m.ths i).at_ = 6 ∨ (m.ths i).at_ = 61 ∨ (m.ths i).at_ = 62 ∨ (m.ths i).at_ = 63
  · rw [if_pos a5]; exact l_missed O 6 7 (.inr (.inr ⟨hk, rfl, rfl⟩)) (by omega)
  rw [if_neg a5] at hI ⊢
  by_cases a6 : (m.ths i).at_ = 7
  · rw [if_pos a6]; exact l_frees O 8 (.inr ⟨.inr hk, rfl, a6⟩)
  rw [if_neg a6] at hI ⊢
  have a89 : (m.ths i).at_ = 8 ∨ (m.ths i).at_ = 9 := by unfold AtOk at hak; omega
  have F := O.T.fin (.inr ⟨hk, a89⟩)
  have he := O.ho.ne (by unfold NeedsE; omega)
  obtain ⟨o1, o2, o3, o4⟩ := O.ops
  have cel := O.L.inv.cel (m.ths i).e.toNat (by have := O.ho.e; omega)
  unfold CelOk at cel
  by_cases a8 : (m.ths i).at_ = 8
  · rw [if_pos a8] at hI ⊢
    by_cases s : (m.cells (m.ths i).e.toNat).st = 0 ∧ (m.cells (m.ths i).e.toNat).v = (m.ths i).old
    · rw [if_pos s] at hI ⊢
      refine aft_go l det ?_
      refine L.localStep O.hi O.hc _ { m.ths i with at_ := 9 } hI rfl rfl rfl rfl rfl rfl rfl (by simp) rfl (by omega) ?_
      constructor <;> dsimp only <;> intros <;> (try omega)
      case dd => exact O.T.dd _ ‹_›
    · rw [if_neg s] at hI ⊢
      refine O.endLook F.1 he F.2 (fun p hp => ?_) (by omega) { m.ths i with at_ := 0 } hI rfl rfl
      have nv : ¬ m.valE (m.ths i).e = (m.ths i).old := by
        rw [valE_pos he]
        split
        · rename_i q; exact fun r => s ⟨q, r⟩
        · omega
      unfold pans pnext
      rw [o1, o2, o4, hp, hk]
      simp [nv]
  · rw [if_neg a8] at hI ⊢
    by_cases s : (m.cells (m.ths i).e.toNat).st = 0 ∧ (m.cells (m.ths i).e.toNat).v = (m.ths i).old
    · rw [if_pos s] at hI ⊢
      have hv : ∀ p : Nat → Int, p (m.key i) = (m.cells (m.ths i).e.toNat).v → pans p (h.ops c) = (true, (m.ths i).old) ∧ pnext p (h.ops c) = put p (m.key i) (m.ths i).val := fun p hp => by
        have : 0 < (m.ths i).old := by omega
        unfold pans pnext
        rw [o1, o2, o3, o4, hp, hk, s.2]
        simp [this]
      rcases F.2 with q | ⟨q, _⟩ | ⟨d, q1, q2, a, b, q3, q4⟩
      · have hpl : pst h.ops p0 l (m.key i) = (m.cells (m.ths i).e.toNat).v := by
          have : m.bnd (m.key i) = (m.ths i).e := q
          rw [L.abs _ O.key, this, valE_pos he, if_pos s.1]
        obtain ⟨v1, v2⟩ := hv _ hpl
        refine aft_end (l ++ [c]) det ?_
        exact O.change he q ⟨0, (m.ths i).val⟩ (by rw [s.1]; omega) (by simp) (fun _ => rfl) F.1 (by rw [v2]; simp) (by omega) _ { m.ths i with at_ := 0 } hI rfl rfl rfl rfl rfl rfl rfl _ _ (.inr ⟨_, v1, rfl, rfl, rfl⟩)
      · have := q.1; omega
      · obtain ⟨d1, d2, d3, a', b', d4, d5, d6⟩ := L.detOk _ d q1
        obtain ⟨rfl, rfl⟩ := split_unique L.ord.nodup q3 d4
        have hf : ∀ x, x < h.n → h.frm x ≤ now := fun x hx => (L.time x hx).1
        obtain ⟨til0, hpa⟩ := d5 s.1
        rw [q2] at hpa
        have hpa' : pst h.ops p0 a' (m.key i) = (m.cells (m.ths i).e.toNat).v := hpa
        obtain ⟨v1, v2⟩ := hv _ hpa'
        have dn : ∀ p : Nat → Int, pnext p (h.ops d) = put p (m.key i) 0 := fun p => by
          unfold pnext
          rw [if_neg (by rw [d3]; omega), if_pos d3, q2]
          rfl
        have qq : pnext (pnext (pst h.ops p0 a') (h.ops c)) (h.ops d) = pnext (pst h.ops p0 a') (h.ops d) := by rw [dn, dn, v2, put_put]
        have E : Ext h (h.done c now (true, (m.ths i).old)) p0 l (a' ++ c :: d :: b') c (some d) := by
          rw [q3]; exact ext_insD (ext_done hf) qq
        have nbd : ∀ y, y ∈ d :: b' → ¬ h.before y c := fun y hy => by
          rcases List.mem_cons.1 hy with r | r
          · rw [r]; intro z; unfold Hist.before at z; omega
          · exact q4 y r
        have Or : Order h p0 (a' ++ c :: d :: b') := by
          have o := L.ord
          rw [q3] at o
          exact o.insert O.cn (by rw [← q3]; exact F.1) nbd (fun y _ z => by have := O.til; unfold Hist.before at z; omega) (fun z => by have := O.til; omega) (.inr ⟨d, b', rfl, til0, qq⟩)
        have hpl : pst h.ops p0 (a' ++ c :: d :: b') = pst h.ops p0 l := by
          rw [q3, pst_append, pst_append]
          show pst h.ops (pnext (pnext (pst h.ops p0 a') (h.ops c)) (h.ops d)) b' = pst h.ops (pnext (pst h.ops p0 a') (h.ops d)) b'
          rw [qq]
        have ecast : (((m.ths i).e.toNat : Nat) : Int) = (m.ths i).e := Int.toNat_of_nonneg he
        have st2 : ∀ y, ((put m.cells (m.ths i).e.toNat ⟨0, (m.ths i).val⟩) y).st = 2 ↔ (m.cells y).st = 2 := fun y => by
          by_cases z : y = (m.ths i).e.toNat
          · subst z; rw [put_same]; simp [s.1]
          · rw [put_other _ _ z]
        have nb : ∀ k, k < 8 → ¬ m.bnd k = (m.ths i).e := fun k hk z => d2 k hk (by rw [ecast]; exact z)
        refine aft_end (a' ++ c :: d :: b') det ?_
        refine L.x1 O.hi O.hc _ { m.ths i with at_ := 0 } _ _ _ now (some d) hI rfl rfl rfl rfl rfl st2 E (fun j x hj _ hx hs => ?_) (Or.done hf fun a b e => ?_) rfl rfl (fun x hx => put_other _ _ hx) (fun _ => by simp) ⟨Nat.le_refl _, by show put h.til c now c ≤ now; rw [put_same]; exact Nat.le_refl _⟩ (.inr ⟨rfl, rfl⟩) (fun k hk => ?_) ?_ (fun e' x hx => ?_)
        · obtain rfl := Option.some.inj hs
          rw [(L.th j d hj hx).dd _ q1]
          omega
        · rw [(split_unique Or.nodup rfl e).1]; exact v1
        · rw [hpl, L.abs k hk]
          exact (valE_put (m := m) he rfl (nb k hk)).symm
        · refine L.tab.cel rfl rfl (by omega) rfl rfl rfl st2 fun k hk z1 z2 => ?_
          show (put m.cells (m.ths i).e.toNat ⟨0, (m.ths i).val⟩ (m.dirty k).toNat).st = 0
          rw [put_other _ _ (fun z => nb k hk (by rw [bnd_dirty z2]; omega))]
          exact L.tab.new k hk z1 z2
        · by_cases z : e' = (m.ths i).e.toNat
          · subst z
            obtain rfl := Option.some.inj (q1.symm.trans hx)
            refine ⟨d1, d2, d3, a' ++ [c], b', by simp, fun _ => ⟨?_, ?_⟩, fun w => ?_⟩
            · show put h.til c now d = 0
              rw [put_other _ _ (fun w => by subst w; exact F.1 (by rw [q3]; simp))]
              exact til0
            · show pst h.ops p0 (a' ++ [c]) (h.ops d).key = (put m.cells (m.ths i).e.toNat ⟨0, (m.ths i).val⟩ (m.ths i).e.toNat).v
              rw [put_same, pst_snoc, v2, q2]
              exact put_same _ _ _
            · exact absurd (by show (put m.cells (m.ths i).e.toNat ⟨0, (m.ths i).val⟩ (m.ths i).e.toNat).st = 0; rw [put_same]) w
          · obtain ⟨f1, f2, f3, a, b, f4, f5, f6⟩ := L.detOk e' x hx
            have xd : ¬ some d = some x := fun w => z (L.detInj _ _ x hx (by rw [← w]; exact q1))
            obtain ⟨a2, b2, g1, g2, _⟩ := E.split a x b f4 xd
            have xc : x ≠ c := fun w => by subst w; exact F.1 (by rw [f4]; simp)
            refine ⟨f1, f2, f3, a2, b2, g1, ?_⟩
            show ((put m.cells (m.ths i).e.toNat ⟨0, (m.ths i).val⟩ e').st = 0 → put h.til c now x = 0 ∧ pst h.ops p0 a2 (h.ops x).key = (put m.cells (m.ths i).e.toNat ⟨0, (m.ths i).val⟩ e').v) ∧ (¬ (put m.cells (m.ths i).e.toNat ⟨0, (m.ths i).val⟩ e').st = 0 → (put m.cells (m.ths i).e.toNat ⟨0, (m.ths i).val⟩ e').st = 1 ∧ 0 < put h.til c now x)
            rw [put_other _ _ z, put_other _ _ xc, g2]
            exact ⟨f5, f6⟩
    · rw [if_neg s] at hI ⊢
      refine aft_go l det ?_
      refine L.localStep O.hi O.hc _ { m.ths i with at_ := 8 } hI rfl rfl rfl rfl rfl rfl rfl (by simp) rfl (by omega) ?_
      constructor <;> dsimp only <;> intros <;> (try omega)
      case dd => exact O.T.dd _ ‹_›
end Go.Proofs.Ytmnkphenobfbfaa
namespace Go.Proofs.Ytmnkphenobfbfaa
theorem l_remove {m : M} {h : Hist} {p0 : Nat → Int} {cur : Nat → Option Nat} {l : List Nat} {det : Nat → Option Nat} {now i c : Nat} (O : Own m h p0 cur l det now i c) (hnow : 0 < now) (hk : (m.ths i).kind = 2) (h2 : ¬ (m.ths i).at_ = 2) : Aft h p0 cur i c now (m.remove i) := by
  have hI := inv_remove O.L.inv O.hi O.ho hk h2
  have hak := O.ho.ak
  have L := O.L
  have T := O.T
  obtain ⟨o1, o2, o3, o4⟩ := O.ops
  unfold M.remove at hI ⊢
  by_cases a1 : (m.ths i).at_ = 1
  · rw [if_pos a1]; exact l_first O a1 8 (.inr ⟨.inl hk, rfl⟩)
  rw [if_neg a1] at hI ⊢
  by_cases a3 : (m.ths i).at_ = 3
  · rw [if_pos a3]; exact l_third O a3 7 (.inr ⟨.inl hk, rfl⟩)
  rw [if_neg a3] at hI ⊢
  by_cases a4 : (m.ths i).at_ = 4
  · rw [if_pos a4] at hI ⊢; exact l_fourth O a4 5 hI (.inl ⟨.inr hk, rfl⟩)
  rw [if_neg a4] at hI ⊢
  by_cases a5 : (m.ths i).at_ = 5
  · rw [if_pos a5] at hI ⊢
    have hh : m.hol = i := holds L.inv O.hi (by unfold Locked; omega)
    have ham := T.fAm1 (by omega) (by omega)
    obtain ⟨t1, t2⟩ := T.d5 hk a5
    by_cases r : (m.ths i).e < 0
    · obtain ⟨t3, t4⟩ := t2 r
      have hdt := L.inv.dt _ O.key
      have t4' : m.dirty (m.key i) < 0 := t4
      have same : put m.dirty (m.key i) (-1) = m.dirty := by
        have : m.dirty (m.key i) = -1 := by omega
        rw [← this]; exact put_self _ _
      refine aft_go l det ?_
      refine L.localStep O.hi O.hc _ { m.ths i with at_ := 6 } hI rfl rfl rfl rfl rfl same rfl (by simp) rfl (by omega) ?_
      constructor <;> dsimp only <;> intros <;> (try omega)
      case dd => exact T.dd _ ‹_›
      case d6 => exact ⟨fun q => by omega, fun _ => t3⟩
    · obtain ⟨hn, t3, t4⟩ := t1 (by omega)
      have he : 0 ≤ (m.ths i).e := by omega
      have t3' : m.dirty (m.key i) = (m.ths i).e := t3
      have t4' : m.read (m.key i) < 0 := t4
      have hbe : m.bnd (m.key i) = (m.ths i).e := by rw [bnd_dirty t4']; exact t3
      have ecast : (((m.ths i).e.toNat : Nat) : Int) = (m.ths i).e := Int.toNat_of_nonneg he
      have nd := O.nd hn
      have S := L.ord.snoc O.cn hn O.til
      have hpn : ∀ p : Nat → Int, pnext p (h.ops c) = put p (m.key i) 0 := fun p => by
        unfold pnext
        rw [o1, o2, hk]
        simp
      have E : Ext h h p0 l (l ++ [c]) c none := by
        have := ext_ins (a := l) (b := []) (c := c) (h := h) (h' := h) (p0 := p0) (by simpa using ext_same O.til) (.inr rfl)
        simpa using this
      have other : ∀ k, k < 8 → ¬ k = m.key i → ¬ m.bnd k = (m.ths i).e := fun k hk hne q => hne (L.tab.inj k _ hk O.key (by omega) (by rw [q, hbe]))
      have hb : ∀ k, ¬ k = m.key i → ({ m with dirty := put m.dirty (m.key i) (-1) }.goes i 6).m.bnd k = m.bnd k := fun k hne => bnd_of rfl fun _ => put_other _ _ hne
      have hbk : ({ m with dirty := put m.dirty (m.key i) (-1) }.goes i 6).m.bnd (m.key i) = -1 := by
        exact (bnd_dirty (m := ({ m with dirty := put m.dirty (m.key i) (-1) }.goes i 6).m) t4').trans (put_same _ _ _)
      have noe : ∀ k, k < 8 → ¬ ({ m with dirty := put m.dirty (m.key i) (-1) }.goes i 6).m.bnd k = (m.ths i).e := fun k hk => by
        by_cases q : k = m.key i
        · subst q; rw [hbk]; omega
        · rw [hb k q]; exact other k hk q
      have sub : ∀ k (e : Int), k < 8 → 0 ≤ e → ({ m with dirty := put m.dirty (m.key i) (-1) }.goes i 6).m.bnd k = e → m.bnd k = e := fun k e hk he q => by
        by_cases r : k = m.key i
        · subst r; rw [hbk] at q; omega
        · rw [hb k r] at q; exact q
      have det0 : ∀ x, det (m.ths i).e.toNat = some x → False := fun x q => (L.detOk _ x q).2.1 _ O.key (by rw [hbe, ecast])
      have lost : ∀ e : Int, 0 ≤ e → Lost m e → Lost ({ m with dirty := put m.dirty (m.key i) (-1) }.goes i 6).m e := fun e he q => ⟨q.1, fun k hk w => q.2 k hk (sub k e hk he w)⟩
      refine aft_go (l ++ [c]) (put det (m.ths i).e.toNat (some c)) ?_
      refine L.x2 O.hi O.hc hh _ { m.ths i with at_ := 6 } _ _ hI rfl rfl E.mem S (by simp) rfl ?_ (fun e e' d q q' => ?_) (fun k hk => ?_) ?_ (fun e d hd => ?_) (fun x k e hx _ hk he _ H => ?_) (fun x k e hx _ hk he _ H => ?_) (fun x e hx => ?_)
      · constructor <;> dsimp only <;> intros <;> (try omega)
        case dd e q =>
          by_cases w : e = (m.ths i).e.toNat
          · subst w; exact ecast.symm
          · rw [put_other _ _ w] at q; exact absurd q (nd _)
        case fAm1 => exact ham
        case d6 => exact ⟨fun _ => put_same _ _ _, fun q => by omega⟩
      · by_cases w : e = (m.ths i).e.toNat
        · by_cases w' : e' = (m.ths i).e.toNat
          · rw [w, w']
          · subst w
            rw [put_same] at q
            rw [put_other _ _ w'] at q'
            obtain rfl := Option.some.inj q
            exact absurd q' (nd _)
        · by_cases w' : e' = (m.ths i).e.toNat
          · subst w'
            rw [put_same] at q'
            rw [put_other _ _ w] at q
            obtain rfl := Option.some.inj q'
            exact absurd q (nd _)
          · rw [put_other _ _ w] at q
            rw [put_other _ _ w'] at q'
            exact L.detInj _ _ d q q'
      · rw [pst_snoc, hpn]
        by_cases q : k = m.key i
        · subst q; rw [put_same, hbk, valE_neg (by omega)]
        · rw [put_other _ _ q, hb k q]
          exact L.abs k hk
      · refine ⟨fun k hk q1 q2 => ?_, fun q => ?_, fun k hk q1 => ?_, fun k hk q1 q2 => ?_, fun _ k hk q1 q2 => ?_, fun k k' hk hk' q1 q2 => ?_⟩
        · by_cases w : k = m.key i
          · subst w; exact absurd q1 (by show ¬ 0 ≤ put m.dirty (m.key i) (-1) (m.key i); rw [put_same]; omega)
          · have q1' : 0 ≤ put m.dirty (m.key i) (-1) k := q1
            show put m.dirty (m.key i) (-1) k = m.read k
            rw [put_other _ _ w] at q1' ⊢
            exact L.tab.both k hk q1' q2
        · have q' : m.am = false := q
          rw [ham] at q'; cases q'
        · by_cases w : k = m.key i
          · subst w; exact absurd q1 (by show ¬ 0 ≤ put m.dirty (m.key i) (-1) (m.key i); rw [put_same]; omega)
          · have q1' : 0 ≤ put m.dirty (m.key i) (-1) k := q1
            show ¬ (m.cells (put m.dirty (m.key i) (-1) k).toNat).st = 2
            rw [put_other _ _ w] at q1' ⊢
            exact L.tab.live k hk q1'
        · by_cases w : k = m.key i
          · subst w; exact absurd q1 (by show ¬ 0 ≤ put m.dirty (m.key i) (-1) (m.key i); rw [put_same]; omega)
          · have q1' : 0 ≤ put m.dirty (m.key i) (-1) k := q1
            show (m.cells (put m.dirty (m.key i) (-1) k).toNat).st = 0
            rw [put_other _ _ w] at q1' ⊢
            exact L.tab.new k hk q1' q2
        · have q1' : 0 ≤ m.read k := q1
          have w : ¬ k = m.key i := fun w => by subst w; omega
          have q2' : put m.dirty (m.key i) (-1) k < 0 := q2
          rw [put_other _ _ w] at q2'
          rcases L.tab.gone ham k hk q1' q2' with z | ⟨j, hj, z1, z2, _⟩
          · exact .inl z
          · have := O.lone hh j hj z1 z2
            subst this
            omega
        · have s1 := sub k _ hk q1 rfl
          have s2 := sub k' _ hk' q1 q2.symm
          exact L.tab.inj k k' hk hk' (by rw [s1]; exact q1) (by rw [s1, s2])
      · by_cases w : e = (m.ths i).e.toNat
        · subst w
          have hd' : put det (m.ths i).e.toNat (some c) (m.ths i).e.toNat = some d := hd
          rw [put_same] at hd'
          obtain rfl := Option.some.inj hd'
          have hdt := L.inv.dt _ O.key
          have st0 : (m.cells (m.ths i).e.toNat).st = 0 := by
            rw [← t3']; exact L.tab.new _ O.key (by omega) t4'
          refine ⟨by show (m.ths i).e.toNat < m.nc; omega, fun k hk => by rw [ecast]; exact noe k hk, by rw [o1]; exact hk, l, [], rfl, fun _ => ⟨O.til, ?_⟩, fun q => absurd st0 q⟩
          rw [o2, L.abs _ O.key, hbe, valE_pos he, if_pos st0]
          rfl
        · have hd' : put det (m.ths i).e.toNat (some c) e = some d := hd
          rw [put_other _ _ w] at hd'
          obtain ⟨f1, f2, f3, a, b, f4, f5⟩ := L.detOk e d hd'
          refine ⟨f1, fun k hk q => f2 k hk (sub k _ hk (by omega) q), f3, a, b ++ [c], by rw [f4]; simp, f5⟩
      · rcases H with q | ⟨q1, q2⟩
        · exact .inl q
        · exact .inr ⟨lost e he q1, E.miss hx q2⟩
      · rcases H with q | ⟨q1, q2⟩ | ⟨d, q1, q2, q3⟩
        · by_cases w : k = m.key i
          · subst w
            refine .inr (.inr ⟨c, ?_, o2, l, [], rfl, fun _ q => (by cases q)⟩)
            rw [← q, hbe]
            exact put_same _ _ _
          · exact .inl (by rw [hb k w]; exact q)
        · exact .inr (.inl ⟨lost e he q1, E.miss hx q2⟩)
        · refine .inr (.inr ⟨d, ?_, q2, E.slot hx q3⟩)
          rw [put_other _ _ (fun w => det0 d (by rw [← w]; exact q1))]
          exact q1
      · by_cases w : e = (m.ths i).e.toNat
        · subst w
          rw [put_same]
          exact ⟨fun q => absurd (Option.some.inj q).symm hx, fun q => (det0 x q).elim⟩
        · rw [put_other _ _ w]
  rw [if_neg a5] at hI ⊢
  by_cases a6 : (m.ths i).at_ = 6 ∨ (m.ths i).at_ = 61 ∨ (m.ths i).at_ = 62 ∨ (m.ths i).at_ = 63
  · rw [if_pos a6]; exact l_missed O 6 7 (.inr (.inl ⟨hk, rfl, rfl⟩)) (by omega)
  rw [if_neg a6] at hI ⊢
  by_cases a7 : (m.ths i).at_ = 7
  · rw [if_pos a7]; exact l_frees O 8 (.inr ⟨.inl hk, rfl, a7⟩)
  rw [if_neg a7] at hI ⊢
  have a89 : (m.ths i).at_ = 8 ∨ (m.ths i).at_ = 9 := by unfold AtOk at hak; omega
  have F := T.d8 hk a89
  have he := O.ho.ne (by unfold NeedsE; omega)
  have ecast : (((m.ths i).e.toNat : Nat) : Int) = (m.ths i).e := Int.toNat_of_nonneg he
  by_cases a8 : (m.ths i).at_ = 8
  · rw [if_pos a8] at hI ⊢
    by_cases s : (m.cells (m.ths i).e.toNat).st = 0
    · rw [if_pos s] at hI ⊢
      refine aft_go l det ?_
      rw [sees_goes] at hI ⊢
      refine L.localStep O.hi O.hc _ _ hI rfl rfl rfl rfl rfl rfl rfl (by simp) rfl (by omega) ?_
      constructor <;> dsimp only <;> intros <;> (try omega)
      case dd => exact T.dd _ ‹_›
    · rw [if_neg s] at hI ⊢
      rcases F with q | ⟨hn, q⟩
      · obtain ⟨_, _, _, a, b, _, _, d6⟩ := L.detOk _ c q
        have := (d6 s).2
        have := O.til
        omega
      · refine O.endLook hn he (q.toD he) (fun p hp => ?_) (by omega) _ hI (sees_ends _ _ _ _ _ _) rfl
        rw [valE_dead s] at hp
        exact O.nix (by omega) hp
  · rw [if_neg a8] at hI ⊢
    have a9 : (m.ths i).at_ = 9 := by omega
    have s9 := T.d9 hk a9
    by_cases s : (m.cells (m.ths i).e.toNat).st = (m.ths i).sst ∧ (m.cells (m.ths i).e.toNat).v = (m.ths i).sv
    · rw [if_pos s] at hI ⊢
      rw [s9] at s
      have cel := L.inv.cel (m.ths i).e.toNat (by have := O.ho.e; omega)
      unfold CelOk at cel
      have hv : ∀ p : Nat → Int, p (m.key i) = (m.cells (m.ths i).e.toNat).v → pans p (h.ops c) = (true, (m.ths i).sv) ∧ pnext p (h.ops c) = put p (m.key i) 0 := fun p hp => by
        have : 0 < (m.ths i).sv := by omega
        unfold pans pnext
        rw [o1, o2, hp, hk, s.2]
        simp [this]
      rcases F with q | ⟨hn, q | ⟨q, _⟩⟩
      · obtain ⟨d1, d2, d3, a, b, d4, d5, d6⟩ := L.detOk _ c q
        obtain ⟨til0, hpa⟩ := d5 s.1
        rw [o2] at hpa
        obtain ⟨v1, v2⟩ := hv _ hpa
        have hf : ∀ x, x < h.n → h.frm x ≤ now := fun x hx => (L.time x hx).1
        have nb : ∀ k, k < 8 → ¬ m.bnd k = (m.ths i).e := fun k hk z => d2 k hk (by rw [ecast]; exact z)
        have st2 : ∀ y, ((put m.cells (m.ths i).e.toNat ⟨1, 0⟩) y).st = 2 ↔ (m.cells y).st = 2 := fun y => by
          by_cases z : y = (m.ths i).e.toNat
          · subst z; rw [put_same]; simp [s.1]
          · rw [put_other _ _ z]
        refine aft_end l det ?_
        refine L.x1 O.hi O.hc _ { m.ths i with at_ := 0 } _ _ _ now none hI rfl rfl rfl rfl rfl st2 (ext_done hf) (fun _ _ _ _ _ q => by cases q) (L.ord.done hf fun a' b' e => ?_) rfl rfl (fun x hx => put_other _ _ hx) (fun _ => by rw [d4]; simp) ⟨Nat.le_refl _, by show put h.til c now c ≤ now; rw [put_same]; exact Nat.le_refl _⟩ (.inr ⟨rfl, rfl⟩) (fun k hk => ?_) ?_ (fun e' x hx => ?_)
        · rw [(split_unique L.ord.nodup d4 e).1]; exact v1
        · rw [L.abs k hk]
          exact (valE_put (m := m) he rfl (nb k hk)).symm
        · refine L.tab.cel rfl rfl (by omega) rfl rfl rfl st2 fun k hk z1 z2 => ?_
          show (put m.cells (m.ths i).e.toNat ⟨1, 0⟩ (m.dirty k).toNat).st = 0
          rw [put_other _ _ (fun z => nb k hk (by rw [bnd_dirty z2]; omega))]
          exact L.tab.new k hk z1 z2
        · obtain ⟨f1, f2, f3, a', b', f4, f5, f6⟩ := L.detOk e' x hx
          refine ⟨f1, f2, f3, a', b', f4, ?_⟩
          show ((put m.cells (m.ths i).e.toNat ⟨1, 0⟩ e').st = 0 → put h.til c now x = 0 ∧ pst h.ops p0 a' (h.ops x).key = (put m.cells (m.ths i).e.toNat ⟨1, 0⟩ e').v) ∧ (¬ (put m.cells (m.ths i).e.toNat ⟨1, 0⟩ e').st = 0 → (put m.cells (m.ths i).e.toNat ⟨1, 0⟩ e').st = 1 ∧ 0 < put h.til c now x)
          by_cases z : e' = (m.ths i).e.toNat
          · subst z
            obtain rfl := Option.some.inj (q.symm.trans hx)
            rw [put_same, put_same]
            exact ⟨fun w => by simp at w, fun _ => ⟨rfl, hnow⟩⟩
          · have xc : x ≠ c := fun w => by subst w; exact z (L.detInj _ _ x hx q)
            rw [put_other _ _ z, put_other _ _ xc]
            exact ⟨f5, f6⟩
      · have hbe : m.bnd (m.key i) = (m.ths i).e := by
          have q' : m.read (m.key i) = (m.ths i).e := q
          rw [bnd_read (by omega)]; exact q'
        have hpl : pst h.ops p0 l (m.key i) = (m.cells (m.ths i).e.toNat).v := by
          rw [L.abs _ O.key, hbe, valE_pos he, if_pos s.1]
        obtain ⟨v1, v2⟩ := hv _ hpl
        refine aft_end (l ++ [c]) det ?_
        have q' : m.read (m.key i) = (m.ths i).e := q
        exact O.change he hbe ⟨1, 0⟩ (by rw [s.1]; omega) (by simp) (fun _ => by omega) hn (by rw [v2]; simp) (by omega) _ { m.ths i with at_ := 0 } hI rfl rfl rfl rfl rfl rfl rfl _ _ (.inr ⟨_, v1, rfl, rfl, rfl⟩)
      · have := q.1; omega
    · rw [if_neg s] at hI ⊢
      refine aft_go l det ?_
      refine L.localStep O.hi O.hc _ { m.ths i with at_ := 8 } hI rfl rfl rfl rfl rfl rfl rfl (by simp) rfl (by omega) ?_
      constructor <;> dsimp only <;> intros <;> (try omega)
      case dd => exact T.dd _ ‹_›
end Go.Proofs.Ytmnkphenobfbfaa
namespace Go.Proofs.Ytmnkphenobfbfaa
theorem nextKey_skip (f : Nat → Int) (n k j : Nat) (h1 : k ≤ j) (h2 : j < nextKey f n k) : f j < 0 := by
  induction n generalizing k with
  | zero => simp [nextKey] at h2; omega
  | succ n ih =>
    simp only [nextKey] at h2
    by_cases q : 0 ≤ f k
    · rw [if_pos q] at h2; omega
    · rw [if_neg q] at h2
      by_cases r : j = k
      · subst r; omega
      · exact ih (k + 1) (by omega) h2
/-- Store's 9 and 10. -/
theorem l_scan {m : M} {h : Hist} {p0 : Nat → Int} {cur : Nat → Option Nat} {l : List Nat} {det : Nat → Option Nat} {now i c : Nat} (O : Own m h p0 cur l det now i c) (hk : (m.ths i).kind = 1) (hat : (m.ths i).at_ = 9 ∨ (m.ths i).at_ = 10) (m2 : M) (k : Nat) (hI : (m2.scan i k).m.Inv)
    (e1 : m2.nth = m.nth) (e2 : m2.ths = m.ths) (e3 : m2.nc = m.nc) (e5 : m2.read = m.read) (e7 : m2.am = m.am) (hb : ∀ k, k < 8 → m2.bnd k = m.bnd k) (hv : ∀ k, k < 8 → m2.valE (m.bnd k) = m.valE (m.bnd k)) (hcl : ∀ e : Nat, (∀ k, k < 8 → ¬ m.bnd k = (e : Int)) → m2.cells e = m.cells e)
    (t1 : ∀ k, k < 8 → 0 ≤ m2.dirty k → m2.dirty k = m2.read k) (t2 : ∀ k, k < 8 → 0 ≤ m2.dirty k → ¬ (m2.cells (m2.dirty k).toNat).st = 2) (hmk : m2.madeTo k) (hnk : ∀ j, k ≤ j → j < 8 → m2.dirty j < 0) (hdk : m2.dirty (m.key i) < 0) : Aft h p0 cur i c now (m2.scan i k) := by
  have L := O.L
  have T := O.T
  have hh : m.hol = i := holds L.inv O.hi (by unfold Locked; omega)
  have hn := T.sOut hk (by omega)
  have ham := T.sAm0 hk (by omega)
  have hr := T.s8 hk (by omega)
  have hle := nextKey_le m2.read (8 - k) k
  have hsk := nextKey_skip m2.read (8 - k) k
  have mk : ∀ n, n ≤ nextKey m2.read (8 - k) k → m2.madeTo n := fun n hn j hj q => by
    by_cases r : j < k
    · exact hmk j r q
    · have := hsk j (by omega) (by omega)
      omega
  have tab : ∀ t', Tab (m2.thr i t') := fun t' => by
    refine ⟨fun k hk q1 _ => t1 k hk q1, fun _ k hk q => ?_, t2, fun k hk q1 (q2 : m2.read k < 0) => ?_, fun (q : m2.am = true) => ?_, fun k k' hk hk' => ?_⟩
    · have q' : m2.read k < 0 := q
      have := t1 k hk
      show m2.dirty k < 0
      omega
    · have q1' : 0 ≤ m2.dirty k := q1
      have := t1 k hk q1'
      omega
    · rw [e7, ham] at q; cases q
    · show 0 ≤ m2.bnd k → m2.bnd k = m2.bnd k' → k = k'
      rw [hb k hk, hb k' hk']
      exact L.tab.inj k k' hk hk'
  unfold M.scan at hI ⊢
  by_cases s : nextKey m2.read (8 - k) k < 8
  · rw [if_pos s] at hI ⊢
    refine aft_go l det ?_
    simp only [M.goes, scan_thr] at hI ⊢
    refine O.tables hh _ _ hI e1 (by rw [← e2]; rfl) e3 e5 hb hv hcl (tab _) (by simp) (by rw [e2]; rfl) ?_
    rw [e2]
    constructor <;> dsimp only <;> intros <;> (try omega)
    case dd => exact T.dd _ ‹_›
    case s8 => show m2.read _ < 0; rw [e5]; exact hr
    case s9 => exact hdk
    case sAm0 => show m2.am = false; rw [e7]; exact ham
    case s10 => exact mk _ (by simp)
    case s10n j q1 q2 => exact hnk j (by rw [Int.toNat_natCast] at q1; omega) q2
  · rw [if_neg s] at hI ⊢
    refine aft_go l det ?_
    simp only [M.goes, scan_thr] at hI ⊢
    refine O.tables hh _ _ hI e1 (by rw [← e2]; rfl) e3 e5 hb hv hcl (tab _) (by simp) (by rw [e2]; rfl) ?_
    rw [e2]
    constructor <;> dsimp only <;> intros <;> (try omega)
    case dd => exact T.dd _ ‹_›
    case s8 => show m2.read _ < 0; rw [e5]; exact hr
    case s9 => exact hdk
    case sAm0 => show m2.am = false; rw [e7]; exact ham
    case s11 => exact mk _ (by omega)
theorem l_store {m : M} {h : Hist} {p0 : Nat → Int} {cur : Nat → Option Nat} {l : List Nat} {det : Nat → Option Nat} {now i c : Nat} (O : Own m h p0 cur l det now i c) (hk : (m.ths i).kind = 1) (h4 : ¬ (m.ths i).at_ = 4) : Aft h p0 cur i c now (m.store i) := by
  have hI := inv_store O.L.inv O.hi O.ho hk h4
  have hak := O.ho.ak
  have L := O.L
  have T := O.T
  obtain ⟨o1, o2, o3, o4⟩ := O.ops
  have nd2 := O.nd2 (by omega)
  have hout : (m.ths i).at_ ≤ 13 → c ∉ l := T.sOut hk
  have hh : 5 ≤ (m.ths i).at_ → m.hol = i := fun q => holds L.inv O.hi (by unfold Locked; omega)
  have hpn : ∀ p : Nat → Int, pnext p (h.ops c) = put p (m.key i) (m.ths i).val ∧ pans p (h.ops c) = (true, (m.ths i).val) := fun p => by
    unfold pnext pans
    rw [o1, o2, o3, hk]
    simp
  unfold M.store at hI ⊢
  by_cases a1 : (m.ths i).at_ = 1
  · rw [if_pos a1] at hI ⊢
    refine aft_go l det ?_
    rw [sets_goes] at hI ⊢
    have hn := hout (by omega)
    by_cases r : m.read (m.key i) < 0
    · simp only [if_pos r] at hI ⊢
      refine L.localStep O.hi O.hc _ _ hI rfl rfl rfl rfl rfl rfl rfl (by simp) rfl (by omega) ?_
      constructor <;> dsimp only <;> intros <;> (try omega)
      case dd => exact absurd ‹_› (nd2 _)
    · simp only [if_neg r] at hI ⊢
      refine L.localStep O.hi O.hc _ _ hI rfl rfl rfl rfl rfl rfl rfl (by simp) rfl (by omega) ?_
      constructor <;> dsimp only <;> intros <;> (try omega)
      case dd => exact absurd ‹_› (nd2 _)
      case sHold => exact .inl rfl
  rw [if_neg a1] at hI ⊢
  by_cases a2 : (m.ths i).at_ = 2
  · rw [if_pos a2] at hI ⊢
    refine aft_go l det ?_
    rw [sees_goes] at hI ⊢
    have hn := hout (by omega)
    have H := T.sHold hk (by omega)
    by_cases r : (m.cells (m.ths i).e.toNat).st = 2
    · simp only [if_pos r] at hI ⊢
      refine L.localStep O.hi O.hc _ _ hI rfl rfl rfl rfl rfl rfl rfl (by simp) rfl (by omega) ?_
      constructor <;> dsimp only <;> intros <;> (try omega)
      case dd => exact absurd ‹_› (nd2 _)
    · simp only [if_neg r] at hI ⊢
      refine L.localStep O.hi O.hc _ _ hI rfl rfl rfl rfl rfl rfl rfl (by simp) rfl (by omega) ?_
      constructor <;> dsimp only <;> intros <;> (try omega)
      case dd => exact absurd ‹_› (nd2 _)
  rw [if_neg a2] at hI ⊢
  by_cases a3 : (m.ths i).at_ = 3
  · rw [if_pos a3] at hI ⊢
    have hn := hout (by omega)
    have H := T.sHold hk (by omega)
    have s3 := T.s3 hk a3
    have he := O.ho.ne (by unfold NeedsE; omega)
    by_cases s : (m.cells (m.ths i).e.toNat).st = (m.ths i).sst ∧ (m.cells (m.ths i).e.toNat).v = (m.ths i).sv
    · rw [if_pos s] at hI ⊢
      refine aft_end (l ++ [c]) det ?_
      rcases H with q | ⟨q, _⟩
      · have q' : m.read (m.key i) = (m.ths i).e := q
        exact O.change he (by rw [bnd_read (by omega)]; exact q') ⟨0, (m.ths i).val⟩ (by rw [s.1]; exact s3) (by simp) (fun _ => rfl) hn (by rw [(hpn _).1]; simp) (by omega) _ { m.ths i with at_ := 0 } hI rfl rfl rfl rfl rfl rfl rfl _ _ (.inr ⟨_, (hpn _).2, rfl, rfl, rfl⟩)
      · have := q.1; omega
    · rw [if_neg s] at hI ⊢
      refine aft_go l det ?_
      refine L.localStep O.hi O.hc _ { m.ths i with at_ := 2 } hI rfl rfl rfl rfl rfl rfl rfl (by simp) rfl (by omega) ?_
      constructor <;> dsimp only <;> intros <;> (try omega)
      case dd => exact absurd ‹_› (nd2 _)
  rw [if_neg a3] at hI ⊢
  by_cases a5 : (m.ths i).at_ = 5
  · rw [if_pos a5] at hI ⊢
    refine aft_go l det ?_
    rw [sets_goes] at hI ⊢
    have hn := hout (by omega)
    by_cases r : m.read (m.key i) < 0
    · simp only [if_pos r] at hI ⊢
      refine L.localStep O.hi O.hc _ _ hI rfl rfl rfl rfl rfl rfl rfl (by simp) rfl (by omega) ?_
      constructor <;> dsimp only <;> intros <;> (try omega)
      case dd => exact absurd ‹_› (nd2 _)
      case s8 => exact r
    · simp only [if_neg r] at hI ⊢
      refine L.localStep O.hi O.hc _ _ hI rfl rfl rfl rfl rfl rfl rfl (by simp) rfl (by omega) ?_
      constructor <;> dsimp only <;> intros <;> (try omega)
      case dd => exact absurd ‹_› (nd2 _)
      case s67 => rfl
  rw [if_neg a5] at hI ⊢
  by_cases a6 : (m.ths i).at_ = 6
  · rw [if_pos a6] at hI ⊢
    have hn := hout (by omega)
    have he := O.ho.ne (by unfold NeedsE; omega)
    have hre : m.read (m.key i) = (m.ths i).e := T.s67 hk (by omega)
    have hbe : m.bnd (m.key i) = (m.ths i).e := by rw [bnd_read (by omega)]; exact hre
    by_cases s : (m.cells (m.ths i).e.toNat).st = 2
    · rw [if_pos s] at hI ⊢
      refine aft_go l det ?_
      have hho := hh (by omega)
      refine O.tables hho _ { m.ths i with at_ := 7 } hI rfl rfl rfl rfl (fun k _ => rfl) (fun k hk => ?_) (fun e he' => put_other _ _ fun q => he' _ O.key (by rw [hbe, q]; omega)) ?_ (by simp) rfl ?_
      · by_cases q : m.bnd k = (m.ths i).e
        · rw [q]
          refine Eq.trans (valE_dead ?_) (valE_dead (m := m) (by rw [s]; omega)).symm
          show ¬ (put m.cells (m.ths i).e.toNat ⟨1, 0⟩ (m.ths i).e.toNat).st = 0
          rw [put_same]; simp
        · exact valE_put (m := m) he rfl q
      · refine ⟨L.tab.both, L.tab.none, fun k hk q1 => ?_, fun k hk q1 q2 => ?_, fun ham k hk q1 q2 => ?_, L.tab.inj⟩
        · show ¬ (put m.cells (m.ths i).e.toNat ⟨1, 0⟩ (m.dirty k).toNat).st = 2
          by_cases q : (m.dirty k).toNat = (m.ths i).e.toNat
          · rw [q, put_same]; simp
          · rw [put_other _ _ q]; exact L.tab.live k hk q1
        · show (put m.cells (m.ths i).e.toNat ⟨1, 0⟩ (m.dirty k).toNat).st = 0
          have q1' : 0 ≤ m.dirty k := q1
          have q2' : m.read k < 0 := q2
          rw [put_other _ _ fun q => ?_]
          · exact L.tab.new k hk q1 q2
          · have := L.tab.inj k _ hk O.key (by rw [bnd_dirty q2']; exact q1') (by rw [hbe, bnd_dirty q2']; omega)
            subst this
            omega
        · show (put m.cells (m.ths i).e.toNat ⟨1, 0⟩ (m.read k).toNat).st = 2 ∨ _
          have q1' : 0 ≤ m.read k := q1
          by_cases q : (m.read k).toNat = (m.ths i).e.toNat
          · have := L.tab.inj k _ hk O.key (by rw [bnd_read q1']; exact q1') (by rw [hbe, bnd_read q1']; omega)
            subst this
            refine .inr ⟨i, O.hi, ?_⟩
            show (put m.ths i { m.ths i with at_ := 7 } i).kind = 1 ∧ (put m.ths i { m.ths i with at_ := 7 } i).at_ = 7 ∧ (put m.ths i { m.ths i with at_ := 7 } i).key.toNat = m.key i
            rw [put_same]
            exact ⟨by assumption, rfl, rfl⟩
          · rw [put_other _ _ q]
            rcases L.tab.gone ham k hk q1 q2 with z | ⟨j, hj, z1, z2, _⟩
            · exact .inl z
            · have := O.lone hho j hj z1 z2
              subst this
              omega
      · constructor <;> dsimp only <;> intros <;> (try omega)
        case dd => exact absurd ‹_› (nd2 _)
        case s67 => exact hre
        case s7 => show ¬ (put m.cells (m.ths i).e.toNat ⟨1, 0⟩ (m.ths i).e.toNat).st = 2; rw [put_same]; simp
    · rw [if_neg s] at hI ⊢
      refine aft_go l det ?_
      refine L.localStep O.hi O.hc _ { m.ths i with at_ := 13 } hI rfl rfl rfl rfl rfl rfl rfl (by simp) rfl (by omega) ?_
      constructor <;> dsimp only <;> intros <;> (try omega)
      case dd => exact absurd ‹_› (nd2 _)
      case s13 => exact hbe
  rw [if_neg a6] at hI ⊢
  by_cases a7 : (m.ths i).at_ = 7
  · rw [if_pos a7] at hI ⊢
    have hn := hout (by omega)
    have hho := hh (by omega)
    have he := O.ho.ne (by unfold NeedsE; omega)
    have hre : m.read (m.key i) = (m.ths i).e := T.s67 hk (by omega)
    have hbe : m.bnd (m.key i) = (m.ths i).e := by rw [bnd_read (by omega)]; exact hre
    have h7 := T.s7 hk (by omega)
    refine aft_go l det ?_
    have hd : ∀ k, ¬ k = m.key i → put m.dirty (m.key i) (m.ths i).e k = m.dirty k := fun k q => put_other _ _ q
    have hb : ∀ k, k < 8 → ({ m with dirty := put m.dirty (m.key i) (m.ths i).e }.goes i 13).m.bnd k = m.bnd k := fun k _ => bnd_of rfl fun q => hd k fun w => by subst w; omega
    refine O.tables hho _ { m.ths i with at_ := 13 } hI rfl rfl rfl rfl hb (fun _ _ => rfl) (fun _ _ => rfl) ?_ (by simp) rfl ?_
    · refine ⟨fun k hk q1 q2 => ?_, fun ham k hk q => ?_, fun k hk q1 => ?_, fun k hk q1 q2 => ?_, fun ham k hk q1 q2 => ?_, fun k k' hk hk' => ?_⟩
      · have q1' : 0 ≤ put m.dirty (m.key i) (m.ths i).e k := q1
        show put m.dirty (m.key i) (m.ths i).e k = m.read k
        by_cases w : k = m.key i
        · subst w; rw [put_same]; exact hre.symm
        · rw [hd k w] at q1' ⊢; exact L.tab.both k hk q1' q2
      · have q' : m.read k < 0 := q
        show put m.dirty (m.key i) (m.ths i).e k < 0
        rw [hd k fun w => by subst w; omega]
        exact L.tab.none ham k hk q
      · have q1' : 0 ≤ put m.dirty (m.key i) (m.ths i).e k := q1
        show ¬ (m.cells (put m.dirty (m.key i) (m.ths i).e k).toNat).st = 2
        by_cases w : k = m.key i
        · subst w; rw [put_same]; exact h7
        · rw [hd k w] at q1' ⊢; exact L.tab.live k hk q1'
      · have q1' : 0 ≤ put m.dirty (m.key i) (m.ths i).e k := q1
        have q2' : m.read k < 0 := q2
        show (m.cells (put m.dirty (m.key i) (m.ths i).e k).toNat).st = 0
        have w : ¬ k = m.key i := fun w => by subst w; omega
        rw [hd k w] at q1' ⊢; exact L.tab.new k hk q1' q2
      · have q2' : put m.dirty (m.key i) (m.ths i).e k < 0 := q2
        by_cases w : k = m.key i
        · subst w; rw [put_same] at q2'; omega
        · rw [hd k w] at q2'
          rcases L.tab.gone ham k hk q1 q2' with z | ⟨j, hj, z1, z2, z3⟩
          · exact .inl z
          · have := O.lone hho j hj z1 z2
            subst this
            exact absurd z3.symm w
      · rw [hb k hk, hb k' hk']
        exact L.tab.inj k k' hk hk'
    · constructor <;> dsimp only <;> intros <;> (try omega)
      case dd => exact absurd ‹_› (nd2 _)
      case s7 => exact h7
      case s13 => exact (hb _ O.key).trans hbe
  rw [if_neg a7] at hI ⊢
  by_cases a8 : (m.ths i).at_ = 8
  · rw [if_pos a8] at hI ⊢
    refine aft_go l det ?_
    rw [sets_goes] at hI ⊢
    have hn := hout (by omega)
    have hr : m.read (m.key i) < 0 := T.s8 hk (by omega)
    by_cases r : m.dirty (m.key i) < 0
    · by_cases ham : m.am = true
      · simp only [if_pos r, if_pos ham] at hI ⊢
        refine L.localStep O.hi O.hc _ _ hI rfl rfl rfl rfl rfl rfl rfl (by simp) rfl (by omega) ?_
        constructor <;> dsimp only <;> intros <;> (try omega)
        case dd => exact absurd ‹_› (nd2 _)
        case s8 => exact hr
        case s9 => exact r
      · simp only [if_pos r, if_neg ham] at hI ⊢
        refine L.localStep O.hi O.hc _ _ hI rfl rfl rfl rfl rfl rfl rfl (by simp) rfl (by omega) ?_
        constructor <;> dsimp only <;> intros <;> (try omega)
        case dd => exact absurd ‹_› (nd2 _)
        case s8 => exact hr
        case s9 => exact r
        case sAm0 => simpa using ham
    · simp only [if_neg r] at hI ⊢
      refine L.localStep O.hi O.hc _ _ hI rfl rfl rfl rfl rfl rfl rfl (by simp) rfl (by omega) ?_
      constructor <;> dsimp only <;> intros <;> (try omega)
      case dd => exact absurd ‹_› (nd2 _)
      case s7 => exact L.tab.live _ O.key (by omega)
      case s13 => exact bnd_dirty hr
  rw [if_neg a8] at hI ⊢
  by_cases a9 : (m.ths i).at_ = 9
  · rw [if_pos a9] at hI ⊢
    have ham := T.sAm0 hk (by omega)
    refine l_scan O hk (.inl a9) _ 0 hI rfl rfl rfl rfl rfl (fun k hk => bnd_of rfl fun q => ?_) (fun _ _ => rfl) (fun _ _ => rfl) (fun k _ (q : (0 : Int) ≤ -1) => by omega) (fun k _ (q : (0 : Int) ≤ -1) => by omega) (fun k q => by omega) (fun _ _ _ => by show (-1 : Int) < 0; omega) (by show (-1 : Int) < 0; omega)
    have d1 := L.tab.none ham k hk q
    have d2 := L.inv.dt k hk
    show (-1 : Int) = m.dirty k
    omega
  rw [if_neg a9] at hI ⊢
  by_cases a10 : (m.ths i).at_ = 10
  · rw [if_pos a10] at hI ⊢
    have ham := T.sAm0 hk (by omega)
    have hx := O.ho.nx hk a10
    have hx' : (m.nxt i : Int) < 8 ∧ 0 ≤ m.read (m.nxt i) := by unfold M.nxt; exact ⟨by omega, hx.2.2⟩
    have mk : m.madeTo (m.nxt i) := T.s10 hk a10
    have nk : ∀ j, m.nxt i ≤ j → j < 8 → m.dirty j < 0 := T.s10n hk a10
    have hr : m.read (m.key i) < 0 := T.s8 hk (by omega)
    have hd : m.dirty (m.key i) < 0 := T.s9 hk (by omega)
    have kn : ¬ m.key i = m.nxt i := fun q => by rw [q] at hr; omega
    have dr : ∀ k, k < 8 → 0 ≤ m.dirty k → 0 ≤ m.read k := fun k hk q => by
      by_cases w : 0 ≤ m.read k
      · exact w
      · have := L.tab.none ham k hk (by omega); omega
    have bb : ∀ k, k < 8 → 0 ≤ m.dirty k → m.dirty k = m.read k := fun k hk q => L.tab.both k hk q (dr k hk q)
    unfold M.copied at hI ⊢
    by_cases s0 : (m.cells (m.read (m.nxt i)).toNat).st = 0
    · rw [if_pos s0] at hI ⊢
      have hdd : ∀ k, ¬ k = m.nxt i → put m.dirty (m.nxt i) (m.read (m.nxt i)) k = m.dirty k := fun k q => put_other _ _ q
      refine l_scan O hk (.inr a10) _ _ hI rfl rfl rfl rfl rfl (fun k hk => bnd_of rfl fun q => hdd k fun w => by subst w; omega) (fun _ _ => rfl) (fun _ _ => rfl) (fun k hk q => ?_) (fun k hk q => ?_) (fun k hk q => ?_) (fun j q1 q2 => ?_) (by show put m.dirty (m.nxt i) (m.read (m.nxt i)) (m.key i) < 0; rw [hdd _ kn]; exact hd)
      · have q' : 0 ≤ put m.dirty (m.nxt i) (m.read (m.nxt i)) k := q
        show put m.dirty (m.nxt i) (m.read (m.nxt i)) k = m.read k
        by_cases w : k = m.nxt i
        · subst w; exact put_same _ _ _
        · rw [hdd k w] at q' ⊢; exact bb k hk q'
      · have q' : 0 ≤ put m.dirty (m.nxt i) (m.read (m.nxt i)) k := q
        show ¬ (m.cells (put m.dirty (m.nxt i) (m.read (m.nxt i)) k).toNat).st = 2
        by_cases w : k = m.nxt i
        · subst w; rw [put_same, s0]; omega
        · rw [hdd k w] at q' ⊢; exact L.tab.live k hk q'
      · show put m.dirty (m.nxt i) (m.read (m.nxt i)) k = m.read k ∨ _
        by_cases w : k = m.nxt i
        · subst w; exact .inl (put_same _ _ _)
        · rw [hdd k w]; exact mk k (by omega) q
      · show put m.dirty (m.nxt i) (m.read (m.nxt i)) j < 0
        rw [hdd j (by omega)]
        exact nk j (by omega) q2
    · rw [if_neg s0] at hI ⊢
      by_cases s1 : (m.cells (m.read (m.nxt i)).toNat).st = 1
      · rw [if_pos s1] at hI ⊢
        have hbn : m.bnd (m.nxt i) = m.read (m.nxt i) := bnd_read hx'.2
        refine l_scan O hk (.inr a10) _ _ hI rfl rfl rfl rfl rfl (fun k hk => rfl) (fun k hk => ?_) (fun e he' => put_other _ _ fun q => he' (m.nxt i) (by omega) (by rw [hbn, q]; omega)) bb (fun k hk q => ?_) (fun k hk q => ?_) (fun j q1 q2 => nk j (by omega) q2) hd
        · by_cases q : m.bnd k = m.read (m.nxt i)
          · rw [q]
            refine Eq.trans (valE_dead ?_) (valE_dead (m := m) s0).symm
            show ¬ (put m.cells (m.read (m.nxt i)).toNat ⟨2, 0⟩ (m.read (m.nxt i)).toNat).st = 0
            rw [put_same]; simp
          · exact valE_put (m := m) hx'.2 rfl q
        · show ¬ (put m.cells (m.read (m.nxt i)).toNat ⟨2, 0⟩ (m.dirty k).toNat).st = 2
          have q' : 0 ≤ m.dirty k := q
          rw [put_other _ _ fun w => ?_]
          · exact L.tab.live k hk q
          · have b1 := bb k hk q'
            have := L.tab.inj k (m.nxt i) hk (by omega) (by rw [bnd_read (dr k hk q')]; omega) (by rw [bnd_read (dr k hk q'), hbn]; omega)
            subst this
            have := nk _ (Nat.le_refl _) hk
            omega
        · show m.dirty k = m.read k ∨ (put m.cells (m.read (m.nxt i)).toNat ⟨2, 0⟩ (m.read k).toNat).st = 2
          by_cases w : (m.read k).toNat = (m.read (m.nxt i)).toNat
          · rw [w, put_same]; exact .inr rfl
          · rw [put_other _ _ w]
            have : ¬ k = m.nxt i := fun z => by subst z; exact w rfl
            exact mk k (by omega) q
      · rw [if_neg s1] at hI ⊢
        have cel := L.inv.cel (m.read (m.nxt i)).toNat (by have := L.inv.rd (m.nxt i) (by omega); omega)
        unfold CelOk at cel
        refine l_scan O hk (.inr a10) _ _ hI rfl rfl rfl rfl rfl (fun k hk => rfl) (fun k hk => rfl) (fun _ _ => rfl) bb L.tab.live (fun k hk q => ?_) (fun j q1 q2 => nk j (by omega) q2) hd
        by_cases w : k = m.nxt i
        · subst w; exact .inr (by omega)
        · exact mk k (by omega) q
  rw [if_neg a10] at hI ⊢
  by_cases a11 : (m.ths i).at_ = 11
  · rw [if_pos a11] at hI ⊢
    have hho := hh (by omega)
    have hn := hout (by omega)
    have mk : m.madeTo 8 := T.s11 hk a11
    refine aft_go l det ?_
    refine O.tables hho _ { m.ths i with at_ := 12 } hI rfl rfl rfl rfl (fun _ _ => rfl) (fun _ _ => rfl) (fun _ _ => rfl) ?_ (by simp) rfl ?_
    · refine ⟨L.tab.both, fun q => (by cases q), L.tab.live, L.tab.new, fun _ k hk q1 q2 => ?_, L.tab.inj⟩
      have q1' : 0 ≤ m.read k := q1
      have q2' : m.dirty k < 0 := q2
      refine .inl ((mk k hk q1').resolve_left fun w => ?_)
      omega
    · constructor <;> dsimp only <;> intros <;> (try omega)
      case dd => exact absurd ‹_› (nd2 _)
      case s8 => exact T.s8 hk (by omega)
      case s9 => exact T.s9 hk (by omega)
      case sAm1 => rfl
  rw [if_neg a11] at hI ⊢
  by_cases a12 : (m.ths i).at_ = 12
  · rw [if_pos a12] at hI ⊢
    have hho := hh (by omega)
    have hn := hout (by omega)
    have nd := O.nd hn
    have hr : m.read (m.key i) < 0 := T.s8 hk (by omega)
    have hd : m.dirty (m.key i) < 0 := T.s9 hk (by omega)
    have ham := T.sAm1 hk a12
    have S := L.ord.snoc O.cn hn O.til
    have E : Ext h h p0 l (l ++ [c]) c none := by
      have := ext_ins (a := l) (b := []) (c := c) (h := h) (h' := h) (p0 := p0) (by simpa using ext_same O.til) (.inr rfl)
      simpa using this
    have hbk : ({ m.adds 0 (m.ths i).val with dirty := put m.dirty (m.key i) m.nc }.goes i 14).m.bnd (m.key i) = (m.nc : Int) :=
      (bnd_dirty (m := ({ m.adds 0 (m.ths i).val with dirty := put m.dirty (m.key i) m.nc }.goes i 14).m) hr).trans (put_same _ _ _)
    have hdd : ∀ k, ¬ k = m.key i → put m.dirty (m.key i) (m.nc : Int) k = m.dirty k := fun k q => put_other _ _ q
    have hb : ∀ k, ¬ k = m.key i → ({ m.adds 0 (m.ths i).val with dirty := put m.dirty (m.key i) m.nc }.goes i 14).m.bnd k = m.bnd k := fun k q => bnd_of rfl fun _ => hdd k q
    have bl : ∀ k, k < 8 → m.bnd k < m.nc := fun k hk => by
      have := L.inv.dt k hk
      have := L.inv.rd k hk
      unfold M.bnd
      split <;> omega
    have cl : ∀ e : Nat, e < m.nc → put m.cells m.nc ⟨0, (m.ths i).val⟩ e = m.cells e := fun e q => put_other _ _ (by omega)
    have lost : ∀ e : Int, 0 ≤ e → e < m.nc → Lost m e → Lost ({ m.adds 0 (m.ths i).val with dirty := put m.dirty (m.key i) m.nc }.goes i 14).m e := fun e he hen q => by
      refine ⟨?_, fun k hk w => ?_⟩
      · show (put m.cells m.nc ⟨0, (m.ths i).val⟩ e.toNat).st = 2
        rw [cl _ (by omega)]; exact q.1
      · by_cases z : k = m.key i
        · subst z; rw [hbk] at w; omega
        · rw [hb k z] at w; exact q.2 k hk w
    refine aft_go (l ++ [c]) det ?_
    refine L.x2 O.hi O.hc hho _ { m.ths i with at_ := 14 } _ _ hI rfl rfl E.mem S (by simp) rfl ?_ L.detInj (fun k hk => ?_) ?_ (fun e d hd => ?_) (fun x k e hx _ hk he hen H => ?_) (fun x k e hx _ hk he hen H => ?_) (fun _ _ _ => Iff.rfl)
    · constructor <;> dsimp only <;> intros <;> (try omega)
      case dd => exact absurd ‹_› (nd _)
      case sIn => simp
    · rw [pst_snoc, (hpn _).1]
      by_cases q : k = m.key i
      · subst q
        rw [put_same, hbk, valE_pos (by omega)]
        show _ = if (put m.cells m.nc ⟨0, (m.ths i).val⟩ (m.nc : Int).toNat).st = 0 then (put m.cells m.nc ⟨0, (m.ths i).val⟩ (m.nc : Int).toNat).v else 0
        rw [Int.toNat_natCast, put_same]
        rfl
      · rw [put_other _ _ q, hb k q, L.abs k hk]
        have := bl k hk
        by_cases z : m.bnd k < 0
        · rw [valE_neg z, valE_neg z]
        · rw [valE_pos (by omega), valE_pos (by omega)]
          show _ = if (put m.cells m.nc ⟨0, (m.ths i).val⟩ (m.bnd k).toNat).st = 0 then (put m.cells m.nc ⟨0, (m.ths i).val⟩ (m.bnd k).toNat).v else 0
          rw [cl _ (by omega)]
    · refine ⟨fun k hk q1 q2 => ?_, fun q => ?_, fun k hk q1 => ?_, fun k hk q1 q2 => ?_, fun _ k hk q1 q2 => ?_, fun k k' hk hk' q1 q2 => ?_⟩
      · have q1' : 0 ≤ put m.dirty (m.key i) (m.nc : Int) k := q1
        have q2' : 0 ≤ m.read k := q2
        show put m.dirty (m.key i) (m.nc : Int) k = m.read k
        have w : ¬ k = m.key i := fun w => by subst w; omega
        rw [hdd k w] at q1' ⊢
        exact L.tab.both k hk q1' q2
      · have q' : m.am = false := q
        rw [ham] at q'; cases q'
      · have q1' : 0 ≤ put m.dirty (m.key i) (m.nc : Int) k := q1
        show ¬ (put m.cells m.nc ⟨0, (m.ths i).val⟩ (put m.dirty (m.key i) (m.nc : Int) k).toNat).st = 2
        by_cases w : k = m.key i
        · subst w; rw [put_same, Int.toNat_natCast, put_same]; simp
        · rw [hdd k w] at q1' ⊢
          rw [cl _ (by have := L.inv.dt k hk; omega)]
          exact L.tab.live k hk q1'
      · have q1' : 0 ≤ put m.dirty (m.key i) (m.nc : Int) k := q1
        show (put m.cells m.nc ⟨0, (m.ths i).val⟩ (put m.dirty (m.key i) (m.nc : Int) k).toNat).st = 0
        by_cases w : k = m.key i
        · subst w; rw [put_same, Int.toNat_natCast, put_same]
        · rw [hdd k w] at q1' ⊢
          rw [cl _ (by have := L.inv.dt k hk; omega)]
          exact L.tab.new k hk q1' q2
      · have q1' : 0 ≤ m.read k := q1
        have q2' : put m.dirty (m.key i) (m.nc : Int) k < 0 := q2
        have w : ¬ k = m.key i := fun w => by subst w; omega
        rw [hdd k w] at q2'
        rcases L.tab.gone ham k hk q1' q2' with z | ⟨j, hj, z1, z2, _⟩
        · refine .inl ?_
          show (put m.cells m.nc ⟨0, (m.ths i).val⟩ (m.read k).toNat).st = 2
          rw [cl _ (by have := L.inv.rd k hk; omega)]
          exact z
        · have := O.lone hho j hj z1 z2
          subst this
          omega
      · by_cases w : k = m.key i
        · by_cases w' : k' = m.key i
          · rw [w, w']
          · subst w; rw [hbk, hb k' w'] at q2; have := bl k' hk'; omega
        · rw [hb k w] at q1 q2
          by_cases w' : k' = m.key i
          · subst w'; rw [hbk] at q2; have := bl k hk; omega
          · rw [hb k' w'] at q2; exact L.tab.inj k k' hk hk' q1 q2
    · obtain ⟨f1, f2, f3, a, b, f4, f5⟩ := L.detOk e d hd
      refine ⟨by show e < m.nc + 1; omega, fun k hk q => ?_, f3, a, b ++ [c], by rw [f4]; simp, ?_⟩
      · by_cases w : k = m.key i
        · subst w; rw [hbk] at q; omega
        · rw [hb k w] at q; exact f2 k hk q
      · show ((put m.cells m.nc ⟨0, (m.ths i).val⟩ e).st = 0 → h.til d = 0 ∧ pst h.ops p0 a (h.ops d).key = (put m.cells m.nc ⟨0, (m.ths i).val⟩ e).v) ∧ (¬ (put m.cells m.nc ⟨0, (m.ths i).val⟩ e).st = 0 → (put m.cells m.nc ⟨0, (m.ths i).val⟩ e).st = 1 ∧ 0 < h.til d)
        rw [cl e f1]; exact f5
    · rcases H with q | ⟨q1, q2⟩
      · exact .inl q
      · exact .inr ⟨lost e he hen q1, E.miss hx q2⟩
    · rcases H with q | ⟨q1, q2⟩ | ⟨d, q1, q2, q3⟩
      · have w : ¬ k = m.key i := fun w => by subst w; rw [bnd_dirty hr] at q; omega
        exact .inl (by rw [hb k w]; exact q)
      · exact .inr (.inl ⟨lost e he hen q1, E.miss hx q2⟩)
      · exact .inr (.inr ⟨d, q1, q2, E.slot hx q3⟩)
  rw [if_neg a12] at hI ⊢
  by_cases a13 : (m.ths i).at_ = 13
  · rw [if_pos a13] at hI ⊢
    have hn := hout (by omega)
    have he := O.ho.ne (by unfold NeedsE; omega)
    refine aft_go (l ++ [c]) det ?_
    refine O.change he (T.s13 hk a13) ⟨0, (m.ths i).val⟩ (T.s7 hk (by omega)) (by simp) (fun _ => rfl) hn (by rw [(hpn _).1]; simp) (by omega) _ { m.ths i with at_ := 14 } hI rfl rfl rfl rfl rfl rfl rfl _ _ (.inl ⟨rfl, rfl, by simp, rfl, ?_⟩)
    constructor <;> dsimp only <;> intros <;> (try omega)
    case dd => exact absurd ‹_› (nd2 _)
    case sIn => simp
  rw [if_neg a13] at hI ⊢
  have a14 : (m.ths i).at_ = 14 := by unfold AtOk at hak; omega
  have hin := T.sIn hk a14
  obtain ⟨a, b, q⟩ := List.append_of_mem hin
  refine aft_end l det ?_
  exact L.endIn O.hi O.hc q (hpn _).2 nd2 _ { m.ths i with at_ := 0 } hI rfl rfl rfl rfl rfl rfl rfl (by omega) rfl
end Go.Proofs.Ytmnkphenobfbfaa
namespace Go.Proofs.Ytmnkphenobfbfaa
/-- Each step keeps what must be. -/
theorem l_does {m : M} {h : Hist} {p0 : Nat → Int} {cur : Nat → Option Nat} {l : List Nat} {det : Nat → Option Nat} {now i c : Nat} (L : LInv m h p0 cur l det now) (hi : i < m.nth) (hc : cur i = some c) (hnow : 0 < now) {o : Out} (hd : m.does i = some o) : Aft h p0 cur i c now o := by
  have O := L.own hi hc
  have hop := O.ho.op
  have hak := O.ho.ak
  unfold OpOk at hop
  have ha : ¬ (m.ths i).at_ = 0 := by unfold AtOk at hak; omega
  have hI := inv_does L.inv hi ha hd
  unfold M.does at hd
  by_cases e : (m.ths i).at_ = m.lockAt i
  · rw [if_pos e] at hd
    by_cases hf : 0 ≤ m.hol
    · rw [if_pos hf] at hd; cases hd
    · rw [if_neg hf, Option.some.injEq] at hd
      subst hd
      refine aft_go l det ?_
      have hn : c ∉ l := by
        by_cases k1 : (m.ths i).kind = 1
        · refine O.T.sOut k1 ?_
          rw [e]; unfold M.lockAt; rw [if_pos k1]; omega
        · refine O.T.fOut k1 ?_
          rw [e]; unfold M.lockAt; rw [if_neg k1]; omega
      have lk : ((m.ths i).kind = 1 ∧ m.lockAt i = 4) ∨ (¬ (m.ths i).kind = 1 ∧ m.lockAt i = 2) := by
        unfold M.lockAt
        by_cases k1 : (m.ths i).kind = 1
        · rw [if_pos k1]; exact .inl ⟨k1, rfl⟩
        · rw [if_neg k1]; exact .inr ⟨k1, rfl⟩
      refine L.localStep hi hc _ { m.ths i with at_ := m.lockAt i + 1 } hI rfl rfl rfl rfl rfl rfl rfl (by show ¬ m.lockAt i + 1 = 0; omega) rfl (by omega) ?_
      constructor <;> dsimp only <;> intros <;> (try omega)
      case dd => exact O.T.dd _ ‹_›
  · rw [if_neg e] at hd
    by_cases k0 : (m.ths i).kind = 0
    · rw [if_pos k0, Option.some.injEq] at hd
      subst hd
      exact l_load O k0 fun q => e (by rw [q]; unfold M.lockAt; rw [if_neg (by omega)])
    rw [if_neg k0] at hd
    by_cases k1 : (m.ths i).kind = 1
    · rw [if_pos k1, Option.some.injEq] at hd
      subst hd
      exact l_store O k1 fun q => e (by rw [q]; unfold M.lockAt; rw [if_pos k1])
    rw [if_neg k1] at hd
    by_cases k2 : (m.ths i).kind = 2
    · rw [if_pos k2, Option.some.injEq] at hd
      subst hd
      exact l_remove O hnow k2 fun q => e (by rw [q]; unfold M.lockAt; rw [if_neg (by omega)])
    rw [if_neg k2, Option.some.injEq] at hd
    subst hd
    exact l_replace O (by omega) fun q => e (by rw [q]; unfold M.lockAt; rw [if_neg (by omega)])
theorem pst_congr {ops ops' : Nat → Opn} (p0 : Nat → Int) (a : List Nat) (e : ∀ c, c ∈ a → ops' c = ops c) : pst ops' p0 a = pst ops p0 a := by
  induction a generalizing p0 with
  | nil => rfl
  | cons c l ih =>
    show pst ops' (pnext p0 (ops' c)) l = pst ops (pnext p0 (ops c)) l
    rw [e c (List.mem_cons_self ..), ih _ fun x hx => e x (List.mem_cons_of_mem _ hx)]
/-- One more call. -/
def Hist.more (h : Hist) (o : Opn) (now : Nat) : Hist := ⟨h.n + 1, put h.ops h.n o, put h.frm h.n now, put h.til h.n 0, h.res⟩
theorem more_before {h : Hist} {o : Opn} {now x y : Nat} (hx : x < h.n) (hy : y < h.n) : (h.more o now).before y x ↔ h.before y x := by
  unfold Hist.before Hist.more
  simp only
  rw [put_other _ _ (by omega), put_other _ _ (by omega)]
theorem TS.more {m : M} {h : Hist} {p0 : Nat → Int} {l : List Nat} {det : Nat → Option Nat} {t : Thr} {x : Nat} (T : TS m h p0 l det t x) (hl : ∀ c, c ∈ l → c < h.n) (hd : ∀ e d, det e = some d → d < h.n) (hx : x < h.n) (o : Opn) (now : Nat) : TS m (h.more o now) p0 l det t x := by
  have po : ∀ a b, l = a ++ b → pst (h.more o now).ops p0 a = pst h.ops p0 a := fun a b e => pst_congr p0 a fun c hc => put_other _ _ (by have := hl c (by rw [e]; simp [hc]); omega)
  have miss : ∀ k, Miss h p0 l x k → Miss (h.more o now) p0 l x k := fun k ⟨a, b, e, p, q⟩ => ⟨a, b, e, by rw [po a b e]; exact p, fun y hy => by rw [more_before hx (hl y (by rw [e]; simp [hy]))]; exact q y hy⟩
  have slot : ∀ d, Slot h l x d → Slot (h.more o now) l x d := fun d ⟨a, b, e, q⟩ => ⟨a, b, e, fun y hy => by rw [more_before hx (hl y (by rw [e]; simp [hy]))]; exact q y hy⟩
  have noth : ∀ k, Nothing h p0 l x k → Nothing (h.more o now) p0 l x k := fun k ⟨a, b, e, p⟩ => ⟨a, b, e, by rw [po a _ e]; exact p⟩
  have hr : ∀ k e, HoldR m h p0 l x k e → HoldR m (h.more o now) p0 l x k e := fun k e H => H.imp id fun q => ⟨q.1, miss k q.2⟩
  have hdd : ∀ k e, HoldD m h p0 l det x k e → HoldD m (h.more o now) p0 l det x k e := fun k e H => H.imp id fun q => q.imp (fun q => ⟨q.1, miss k q.2⟩) fun ⟨d, q1, q2, q3⟩ => ⟨d, q1, by show (put h.ops h.n o d).key = k; rw [put_other _ _ (by have := hd _ d q1; omega)]; exact q2, slot d q3⟩
  refine ⟨T.sOut, T.sIn, fun a b => hr _ _ (T.sHold a b), T.s3, T.s67, T.s7, T.s13, T.s8, T.s9, T.sAm0, T.sAm1, T.s10, T.s11, T.s10n, T.mid5, T.dd, T.fOut, T.f4, T.fAm1, T.fAm0, fun a => ?_, fun a => ?_, fun a b => ?_, fun a b => ?_, fun a b => ?_, fun a b => ?_, T.d9⟩
  · have q := T.mid a; exact ⟨q.1, fun r => noth _ (q.2 r)⟩
  · have q := T.fin a; exact ⟨q.1, hdd _ _ q.2⟩
  · have q := T.d5 a b; exact ⟨q.1, fun r => ⟨noth _ (q.2 r).1, (q.2 r).2⟩⟩
  · have q := T.d6 a b; exact ⟨q.1, fun r => noth _ (q.2 r)⟩
  · have q := T.d7 a b; exact ⟨q.1, fun r => noth _ (q.2 r)⟩
  · exact (T.d8 a b).imp id fun q => ⟨q.1, hr _ _ q.2⟩
/-- A call begins. -/
theorem l_begin {m : M} {h : Hist} {p0 : Nat → Int} {cur : Nat → Option Nat} {l : List Nat} {det : Nat → Option Nat} {now i : Nat} (L : LInv m h p0 cur l det now) (hi : i < m.nth) (hc : cur i = none) {kind key val old : Int} (hI : (m.thr i ⟨kind, key, val, old, 1, -1, 0, 0, 0⟩).Inv) :
    LInv (m.thr i ⟨kind, key, val, old, 1, -1, 0, 0, 0⟩) (h.more ⟨kind, key.toNat, val, old⟩ now) p0 (put cur i (some h.n)) l det now := by
  have ha := (L.idle i hi).2 hc
  have hl := L.ord.lt
  have hd : ∀ e d, det e = some d → d < h.n := fun e d q => by
    obtain ⟨_, _, _, a, b, r, _⟩ := L.detOk e d q
    exact hl d (by rw [r]; simp)
  have nl : h.n ∉ l := fun q => by have := hl _ q; omega
  have nd : ∀ e, ¬ det e = some h.n := fun e q => by have := hd e _ q; omega
  have po : ∀ a b, l = a ++ b → pst (h.more ⟨kind, key.toNat, val, old⟩ now).ops p0 a = pst h.ops p0 a := fun a b e => pst_congr p0 a fun c hc => put_other _ _ (by have := hl c (by rw [e]; simp [hc]); omega)
  have th : ∀ j, (m.thr i ⟨kind, key, val, old, 1, -1, 0, 0, 0⟩).ths j = if j = i then ⟨kind, key, val, old, 1, -1, 0, 0, 0⟩ else m.ths j := fun j => rfl
  refine ⟨hI, ⟨L.ord.nodup, fun c hc => ?_, ?_, fun a x b e hx => ?_⟩, fun c hc ht => ?_, fun c hc => ?_, fun j hj => ?_, fun j c hj hjc => ?_, fun j j' c hj hj' q q' => ?_, L.detInj, fun k hk => ?_, ?_, fun e d q => ?_, fun j c hj q => ?_⟩
  · have := hl c hc; show c < h.n + 1; omega
  · refine List.pairwise_iff_getElem.2 fun a b ha hb hab => ?_
    rw [more_before (hl _ (List.getElem_mem ha)) (hl _ (List.getElem_mem hb))]
    exact List.pairwise_iff_getElem.1 L.ord.pw a b ha hb hab
  · have hxn := hl x (by rw [e]; simp)
    have hx' : 0 < put h.til h.n 0 x := hx
    rw [put_other _ _ (by omega)] at hx'
    rw [po a _ e]
    show pans _ (put h.ops h.n _ x) = h.res x
    rw [put_other _ _ (by omega)]
    exact L.ord.ans a x b e hx'
  · have ht' : 0 < put h.til h.n 0 c := ht
    by_cases q : c = h.n
    · subst q; rw [put_same] at ht'; omega
    · rw [put_other _ _ q] at ht'
      have hc' : c < h.n + 1 := hc
      exact L.all c (by omega) ht'
  · have hc' : c < h.n + 1 := hc
    show put h.frm h.n now c ≤ now ∧ put h.til h.n 0 c ≤ now
    by_cases q : c = h.n
    · subst q; rw [put_same, put_same]; omega
    · rw [put_other _ _ q, put_other _ _ q]; exact L.time c (by omega)
  · rw [th]
    by_cases q : j = i
    · subst q; rw [if_pos rfl, put_same]; simp
    · rw [if_neg q, put_other _ _ q]; exact L.idle j hj
  · rw [th]
    by_cases q : j = i
    · subst q
      rw [put_same] at hjc
      obtain rfl := Option.some.inj hjc
      rw [if_pos rfl]
      exact ⟨Nat.lt_succ_self _, put_same _ _ _, put_same _ _ _⟩
    · rw [put_other _ _ q] at hjc
      obtain ⟨a, b, r⟩ := L.curOk j c hj hjc
      rw [if_neg q]
      refine ⟨Nat.lt_succ_of_lt a, ?_, ?_⟩
      · show put h.til h.n 0 c = 0; rw [put_other _ _ (by omega)]; exact b
      · show put h.ops h.n _ c = _; rw [put_other _ _ (by omega)]; exact r
  · have new : ∀ j, j < m.nth → ¬ j = i → cur j = some h.n → False := fun j hj _ q => by have := (L.curOk j _ hj q).1; omega
    by_cases w : j = i
    · by_cases w' : j' = i
      · rw [w, w']
      · subst w
        rw [put_same] at q
        rw [put_other _ _ w'] at q'
        obtain rfl := Option.some.inj q
        exact (new j' hj' w' q').elim
    · rw [put_other _ _ w] at q
      by_cases w' : j' = i
      · subst w'
        rw [put_same] at q'
        obtain rfl := Option.some.inj q'
        exact (new j hj w q).elim
      · rw [put_other _ _ w'] at q'; exact L.curInj j j' c hj hj' q q'
  · rw [po l [] (by simp)]; exact L.abs k hk
  · exact L.tab.cel (i := i) (t' := ⟨kind, key, val, old, 1, -1, 0, 0, 0⟩) rfl rfl (by omega) rfl rfl rfl (fun _ => Iff.rfl) L.tab.new
  · obtain ⟨f1, f2, f3, a, b, f4, f5⟩ := L.detOk e d q
    have := hd e d q
    refine ⟨f1, f2, ?_, a, b, f4, ?_⟩
    · show (put h.ops h.n _ d).kind = 2; rw [put_other _ _ (by omega)]; exact f3
    · rw [po a _ f4]
      show (_ → put h.til h.n 0 d = 0 ∧ pst h.ops p0 a (put h.ops h.n _ d).key = _) ∧ (_ → _ ∧ 0 < put h.til h.n 0 d)
      rw [put_other _ _ (by omega), put_other _ _ (by omega)]
      exact f5
  · rw [th]
    by_cases w : j = i
    · subst w
      rw [put_same] at q
      obtain rfl := Option.some.inj q
      rw [if_pos rfl]
      constructor <;> dsimp only <;> intros <;> (try omega)
      case dd => exact absurd ‹_› (nd _)
    · rw [put_other _ _ w] at q
      rw [if_neg w]
      have hcn := (L.curOk j c hj q).1
      have T := (L.th j c hj q).more hl hd hcn ⟨kind, key.toNat, val, old⟩ now
      exact T.x1 (c := h.n) (sp := none) (ext_same (put_same _ _ _)) (Nat.lt_succ_of_lt hcn) (by omega) (fun q => by cases q) rfl rfl rfl fun _ => Iff.rfl
/-- A map at rest. -/
theorem l_rest {m : M} {p0 : Nat → Int} (hI : m.Inv) (hT : Tab m) (hr : ∀ i, i < m.nth → (m.ths i).at_ = 0) (hp : ∀ k, k < 8 → p0 k = m.valE (m.bnd k)) (ops : Nat → Opn) (frm til : Nat → Nat) (res : Nat → Bool × Int) : LInv m ⟨0, ops, frm, til, res⟩ p0 (fun _ => none) [] (fun _ => none) 0 := by
  refine ⟨hI, ⟨by simp, fun c hc => (by cases hc), by simp, fun a x b e => by cases a <;> cases e⟩, fun c (hc : c < 0) => by omega, fun c (hc : c < 0) => by omega, fun i hi => ⟨fun _ => rfl, fun _ => hr i hi⟩, fun i c _ q => (by cases q), fun i j c _ _ q => (by cases q), fun _ _ _ q => (by cases q), hp, hT, fun _ _ q => (by cases q), fun _ _ _ q => (by cases q)⟩
end Go.Proofs.Ytmnkphenobfbfaa
