import Derived.Test.YtfgfpggjcfhccaaGreatMt
namespace Go.Proofs.YtfgfpggjcfhccaaGreat
/-! What must be of the machine, and that each step keeps it. -/
/-- Which steps hold the lock. -/
def Locked (kind a : Int) : Prop :=
  (kind = 1 ∧ 5 ≤ a) ∨ (kind = 0 ∧ ((3 ≤ a ∧ a ≤ 6) ∨ 51 ≤ a)) ∨ (2 ≤ kind ∧ ((3 ≤ a ∧ a ≤ 7) ∨ 61 ≤ a))
/-- At which steps an operation can be. -/
def AtOk (kind a : Int) : Prop :=
  (kind = 0 ∧ ((1 ≤ a ∧ a ≤ 7) ∨ (51 ≤ a ∧ a ≤ 53))) ∨ (kind = 1 ∧ 1 ≤ a ∧ a ≤ 14) ∨ (kind = 2 ∧ ((1 ≤ a ∧ a ≤ 9) ∨ (61 ≤ a ∧ a ≤ 63))) ∨
    (kind = 3 ∧ ((1 ≤ a ∧ a ≤ 4) ∨ (6 ≤ a ∧ a ≤ 9) ∨ (61 ≤ a ∧ a ≤ 63)))
/-- Steps that want an entry. -/
def NeedsE (kind a : Int) : Prop := (kind = 0 ∧ a = 7) ∨ (kind = 1 ∧ (a = 2 ∨ a = 3 ∨ a = 6 ∨ a = 7 ∨ a = 13)) ∨ (2 ≤ kind ∧ (a = 8 ∨ a = 9))
structure ThOk (m : M) (t : Thr) : Prop where
  op : OpOk t.kind t.key t.val t.old
  ak : AtOk t.kind t.at_
  e : -1 ≤ t.e ∧ t.e < m.nc
  ne : NeedsE t.kind t.at_ → 0 ≤ t.e
  nx : t.kind = 1 → t.at_ = 10 → 0 ≤ t.next ∧ t.next < 8 ∧ 0 ≤ m.read t.next.toNat
def CelOk (c : Cel) : Prop := (c.st = 0 ∧ 1 ≤ c.v ∧ c.v ≤ 1000) ∨ (c.st = 1 ∧ c.v = 0) ∨ (c.st = 2 ∧ c.v = 0)
structure M.Inv (m : M) : Prop where
  hol : -1 ≤ m.hol ∧ m.hol < m.nth
  lock : ∀ i, i < m.nth → (Locked (m.ths i).kind (m.ths i).at_ ↔ m.hol = i)
  th : ∀ i, i < m.nth → (m.ths i).at_ = 0 ∨ ThOk m (m.ths i)
  rd : ∀ k, k < 8 → -1 ≤ m.read k ∧ m.read k < m.nc
  dt : ∀ k, k < 8 → -1 ≤ m.dirty k ∧ m.dirty k < m.nc
  cel : ∀ j, j < m.nc → CelOk (m.cells j)
  mis : 0 ≤ m.mis ∧ (m.mis ≤ 7 ∨ (m.mis ≤ 8 ∧ 0 ≤ m.hol ∧ 51 ≤ (m.ths m.hol.toNat).at_))
theorem not_locked0 (kind : Int) : ¬ Locked kind 0 := by unfold Locked; omega
/-- A step of thread i keeps what must be. -/
theorem M.Inv.go {m : M} (h : m.Inv) {i : Nat} (hi : i < m.nth) (m' : M) (t' : Thr) (e1 : m'.nth = m.nth) (e2 : m'.ths = put m.ths i t') (e3 : m.nc ≤ m'.nc)
    (ok : t'.at_ = 0 ∨ ThOk m' t')
    (lk : (m'.hol = m.hol ∧ (Locked t'.kind t'.at_ ↔ Locked (m.ths i).kind (m.ths i).at_)) ∨ (m.hol < 0 ∧ m'.hol = i ∧ Locked t'.kind t'.at_) ∨ (m.hol = i ∧ m'.hol = -1 ∧ ¬ Locked t'.kind t'.at_))
    (rd : ∀ k, k < 8 → -1 ≤ m'.read k ∧ m'.read k < m'.nc) (dt : ∀ k, k < 8 → -1 ≤ m'.dirty k ∧ m'.dirty k < m'.nc) (cel : ∀ j, j < m'.nc → CelOk (m'.cells j))
    (mis : 0 ≤ m'.mis ∧ (m'.mis ≤ 7 ∨ (m'.mis ≤ 8 ∧ m'.hol = i ∧ 51 ≤ t'.at_)) ∨ (m'.mis = m.mis ∧ ¬ m.hol = i))
    (rs : (∀ k, m'.read k = m.read k) ∨ m.hol = i) : m'.Inv := by
  have hl := h.lock i hi
  refine ⟨?_, fun j hj => ?_, fun j hj => ?_, rd, dt, cel, ?_⟩
  · have := h.hol
    rw [e1]
    rcases lk with ⟨a, _⟩ | ⟨_, a, _⟩ | ⟨_, a, _⟩ <;> rw [a] <;> omega
  · rw [e1] at hj
    have hlj := h.lock j hj
    rw [e2]
    by_cases hji : j = i
    · subst hji
      rw [put_same]
      rcases lk with ⟨a, b⟩ | ⟨a, b, c⟩ | ⟨a, b, c⟩
      · rw [a, b]; exact hl
      · rw [b]; simp [c]
      · rw [b]
        constructor
        · intro hh; exact absurd hh c
        · intro hh; omega
    · rw [put_other _ _ hji]
      rcases lk with ⟨a, b⟩ | ⟨a, b, c⟩ | ⟨a, b, c⟩
      · rw [a]; exact hlj
      · rw [b, hlj]; constructor <;> intro hh <;> omega
      · rw [b, hlj]; constructor <;> intro hh <;> omega
  · rw [e1] at hj
    rw [e2]
    by_cases hji : j = i
    · subst hji
      rw [put_same]; exact ok
    · rw [put_other _ _ hji]
      rcases h.th j hj with a | a
      · exact .inl a
      · refine .inr ⟨a.op, a.ak, ⟨a.e.1, by have := a.e.2; omega⟩, a.ne, fun hk ha => ?_⟩
        have hn := a.nx hk ha
        rcases rs with r | r
        · rw [r]; exact hn
        · have hlj := (h.lock j hj).1 (by unfold Locked; omega)
          omega
  · rcases mis with ⟨a, b⟩ | ⟨a, b⟩
    · refine ⟨a, ?_⟩
      rcases b with b | ⟨b, c, d⟩
      · exact .inl b
      · refine .inr ⟨b, by omega, ?_⟩
        rw [c, e2, Int.toNat_natCast, put_same]; exact d
    · have hm := h.mis
      rw [a]
      refine ⟨hm.1, ?_⟩
      rcases hm.2 with c | ⟨c, d, e⟩
      · exact .inl c
      · refine .inr ⟨c, ?_⟩
        have hh : m'.hol = m.hol := by
          rcases lk with ⟨x, _⟩ | ⟨x, _, _⟩ | ⟨x, _, _⟩
          · exact x
          · omega
          · exact absurd x b
        rw [hh, e2, put_other _ _ (by omega)]
        exact ⟨d, e⟩
theorem M.Inv.misA {m : M} (h : m.Inv) {i : Nat} (hat : (m.ths i).at_ < 51) (x y : Int) :
    0 ≤ m.mis ∧ (m.mis ≤ 7 ∨ (m.mis ≤ 8 ∧ y = i ∧ 51 ≤ x)) ∨ (m.mis = m.mis ∧ ¬ m.hol = i) := by
  by_cases hh : m.hol = i
  · left
    refine ⟨h.mis.1, ?_⟩
    rcases h.mis.2 with a | ⟨_, _, c⟩
    · exact .inl a
    · rw [hh, Int.toNat_natCast] at c; omega
  · exact .inr ⟨rfl, hh⟩
theorem M.Inv.keyLt {m : M} {i : Nat} (ho : ThOk m (m.ths i)) : m.key i < 8 := by
  have := ho.op
  unfold OpOk at this
  unfold M.key
  omega
/-- A step that sets but the thread. -/
theorem M.Inv.thr {m : M} (h : m.Inv) {i : Nat} (hi : i < m.nth) (hat : (m.ths i).at_ < 51) (t : Thr) (ok : t.at_ = 0 ∨ ThOk m t) (lk : Locked t.kind t.at_ ↔ Locked (m.ths i).kind (m.ths i).at_) : (m.thr i t).Inv := by
  refine h.go hi (m.thr i t) t rfl rfl (Nat.le_refl _) ?_ (.inl ⟨rfl, lk⟩) h.rd h.dt h.cel (h.misA hat _ _) (.inl fun _ => rfl)
  rcases ok with a | a
  · exact .inl a
  · exact .inr ⟨a.op, a.ak, a.e, a.ne, a.nx⟩
theorem inv_first {m : M} (h : m.Inv) {i : Nat} (hi : i < m.nth) (ho : ThOk m (m.ths i)) (hat : (m.ths i).at_ = 1) (entry : Int) (hk : ((m.ths i).kind = 0 ∧ entry = 7) ∨ (2 ≤ (m.ths i).kind ∧ entry = 8)) : (m.first i entry).m.Inv := by
  have hr := h.rd _ (M.Inv.keyLt ho)
  have hop := ho.op
  unfold OpOk at hop
  unfold M.first
  split
  · rename_i he
    simp only [M.goes, sets_thr]
    refine h.thr hi (by omega) _ (.inr ⟨ho.op, ?_, hr, fun _ => he, ?_⟩) ?_
    · show AtOk _ _; unfold AtOk; simp only; omega
    · intro a b; simp only at a b; omega
    · simp only; unfold Locked; omega
  · split
    · simp only [M.goes, sets_thr]
      refine h.thr hi (by omega) _ (.inr ⟨ho.op, ?_, hr, ?_, ?_⟩) ?_
      · show AtOk _ _; unfold AtOk; simp only; omega
      · simp only; unfold NeedsE; omega
      · intro a b; simp only at a b; omega
      · simp only; unfold Locked; omega
    · simp only [M.ends, sets_thr]
      refine h.thr hi (by omega) _ (.inl rfl) ?_
      simp only; unfold Locked; omega
theorem inv_third {m : M} (h : m.Inv) {i : Nat} (hi : i < m.nth) (ho : ThOk m (m.ths i)) (hat : (m.ths i).at_ = 3) (free : Int) (hk : ((m.ths i).kind = 0 ∧ free = 6) ∨ (2 ≤ (m.ths i).kind ∧ free = 7)) : (m.third i free).m.Inv := by
  have hr := h.rd _ (M.Inv.keyLt ho)
  have hop := ho.op
  unfold OpOk at hop
  unfold M.third
  have key : ∀ a : Int, a = free ∨ a = 4 → (m.thr i { m.ths i with e := m.read (m.key i), at_ := a }).Inv := by
    intro a ha
    refine h.thr hi (by omega) _ (.inr ⟨ho.op, ?_, hr, ?_, ?_⟩) ?_
    · show AtOk _ _; unfold AtOk; simp only; omega
    · simp only; unfold NeedsE; omega
    · intro a b; simp only at a b; omega
    · simp only; unfold Locked; omega
  split
  · simp only [M.goes, sets_thr]; exact key _ (.inl rfl)
  · split
    · simp only [M.goes, sets_thr]; exact key _ (.inr rfl)
    · simp only [M.goes, sets_thr]; exact key _ (.inl rfl)
theorem holds {m : M} (h : m.Inv) {i : Nat} (hi : i < m.nth) (hl : Locked (m.ths i).kind (m.ths i).at_) : m.hol = i := (h.lock i hi).1 hl
theorem inv_frees {m : M} (h : m.Inv) {i : Nat} (hi : i < m.nth) (ho : ThOk m (m.ths i)) (entry : Int) (hk : ((m.ths i).kind = 0 ∧ entry = 7 ∧ (m.ths i).at_ = 6) ∨ (2 ≤ (m.ths i).kind ∧ entry = 8 ∧ (m.ths i).at_ = 7)) : (m.frees i entry).m.Inv := by
  have hop := ho.op
  unfold OpOk at hop
  have hh := holds h hi (by unfold Locked; omega)
  unfold M.frees
  split
  · refine h.go hi _ { m.ths i with at_ := 0 } rfl rfl (Nat.le_refl _) (.inl rfl) (.inr (.inr ⟨hh, rfl, not_locked0 _⟩)) h.rd h.dt h.cel (h.misA (by omega) _ _) (.inl fun _ => rfl)
  · rename_i he
    refine h.go hi _ { m.ths i with at_ := entry } rfl rfl (Nat.le_refl _) (.inr ⟨ho.op, ?_, ho.e, fun _ => ?_, ?_⟩) (.inr (.inr ⟨hh, rfl, ?_⟩)) h.rd h.dt h.cel (h.misA (by omega) _ _) (.inl fun _ => rfl)
    · show AtOk _ _; unfold AtOk; simp only; omega
    · exact Int.not_lt.1 he
    · intro a b; simp only at a b; omega
    · simp only; unfold Locked; omega
theorem cnt_pos_le (f : Nat → Int) : (cnt f 8 : Int) ≤ 8 := by have := cnt_le f 8; omega
theorem kind23 {m : M} {t : Thr} (ho : ThOk m t) (h : 2 ≤ t.kind) : t.kind = 2 ∨ t.kind = 3 := by
  have := ho.op
  unfold OpOk at this
  omega
theorem missed_ok {kind a free x : Int} (hk : (kind = 0 ∧ a = 5 ∧ free = 6) ∨ (kind = 2 ∧ a = 6 ∧ free = 7) ∨ (kind = 3 ∧ a = 6 ∧ free = 7)) (hx : x = a ∨ x = free ∨ x = 10 * a + 1 ∨ x = 10 * a + 2 ∨ x = 10 * a + 3) :
    AtOk kind x ∧ ¬ NeedsE kind x ∧ ¬ kind = 1 ∧ Locked kind x := by
  rcases hk with ⟨rfl, rfl, rfl⟩ | ⟨rfl, rfl, rfl⟩ | ⟨rfl, rfl, rfl⟩ <;> rcases hx with rfl | rfl | rfl | rfl | rfl <;> simp [AtOk, NeedsE, Locked]
theorem inv_missed {m : M} (h : m.Inv) {i : Nat} (hi : i < m.nth) (ho : ThOk m (m.ths i)) (a free : Int) (hk : ((m.ths i).kind = 0 ∧ a = 5 ∧ free = 6) ∨ ((m.ths i).kind = 2 ∧ a = 6 ∧ free = 7) ∨ ((m.ths i).kind = 3 ∧ a = 6 ∧ free = 7))
    (hat : (m.ths i).at_ = a ∨ (m.ths i).at_ = 10 * a + 1 ∨ (m.ths i).at_ = 10 * a + 2 ∨ (m.ths i).at_ = 10 * a + 3) : (m.missed i a free).m.Inv := by
  have hl := (missed_ok hk (x := (m.ths i).at_) (by rcases hat with e | e | e | e <;> simp [e])).2.2.2
  have hh := holds h hi hl
  have hm := h.mis
  have ha56 : a = 5 ∨ a = 6 := by rcases hk with ⟨_, e, _⟩ | ⟨_, e, _⟩ | ⟨_, e, _⟩ <;> simp [e]
  have hok : ∀ (m' : M) (x : Int), m'.nc = m.nc → (x = a ∨ x = free ∨ x = 10 * a + 1 ∨ x = 10 * a + 2 ∨ x = 10 * a + 3) → ThOk m' { m.ths i with at_ := x } := by
    intro m' x e hx
    have hq := missed_ok hk hx
    exact ⟨ho.op, hq.1, by rw [e]; exact ho.e, fun hn => absurd hn hq.2.1, fun hn => absurd hn hq.2.2.1⟩
  have hlk : ∀ x : Int, (x = a ∨ x = free ∨ x = 10 * a + 1 ∨ x = 10 * a + 2 ∨ x = 10 * a + 3) → (Locked (m.ths i).kind x ↔ Locked (m.ths i).kind (m.ths i).at_) := by
    intro x hx
    exact ⟨fun _ => hl, fun _ => (missed_ok hk hx).2.2.2⟩
  have hm8 : 0 ≤ m.mis ∧ m.mis ≤ 8 := ⟨hm.1, by rcases hm.2 with c | ⟨c, _, _⟩ <;> omega⟩
  clear hk
  unfold M.missed
  split
  · refine h.go hi _ { m.ths i with at_ := 10 * a + 2 } rfl rfl (Nat.le_refl _) (.inr (hok _ _ rfl (by simp))) (.inl ⟨rfl, hlk _ (by simp)⟩) h.dt h.dt h.cel (.inl ⟨hm8.1, .inr ⟨hm8.2, hh, by show (51 : Int) ≤ 10 * a + _; omega⟩⟩) (.inr hh)
  · split
    · refine h.go hi _ { m.ths i with at_ := 10 * a + 3 } rfl rfl (Nat.le_refl _) (.inr (hok _ _ rfl (by simp))) (.inl ⟨rfl, hlk _ (by simp)⟩) h.rd (fun k _ => ?_) h.cel (.inl ⟨hm8.1, .inr ⟨hm8.2, hh, by show (51 : Int) ≤ 10 * a + _; omega⟩⟩) (.inr hh)
      exact ⟨Int.le_refl _, by show (-1 : Int) < (m.nc : Int); omega⟩
    · split
      · refine h.go hi _ { m.ths i with at_ := free } rfl rfl (Nat.le_refl _) (.inr (hok _ _ rfl (by simp))) (.inl ⟨rfl, hlk _ (by simp)⟩) h.rd h.dt h.cel (.inl ⟨Int.le_refl _, .inl (by show (0 : Int) ≤ 7; omega)⟩) (.inr hh)
      · rename_i n1 n2 n3
        have ha : (m.ths i).at_ = a := by
          rcases hat with e | e | e | e
          · exact e
          · exact absurd e n1
          · exact absurd e n2
          · exact absurd e n3
        have h7 : m.mis ≤ 7 := by
          rcases hm.2 with c | ⟨_, _, c⟩
          · exact c
          · rw [hh, Int.toNat_natCast] at c; omega
        have hc := cnt_pos_le m.dirty
        split
        · rename_i hx
          refine h.go hi _ { m.ths i with at_ := free } rfl rfl (Nat.le_refl _) (.inr (hok _ _ rfl (by simp))) (.inl ⟨rfl, hlk _ (by simp)⟩) h.rd h.dt h.cel (.inl ⟨?_, .inl ?_⟩) (.inr hh)
          · show 0 ≤ m.mis + 1; omega
          · show m.mis + 1 ≤ 7; omega
        · refine h.go hi _ { m.ths i with at_ := 10 * a + 1 } rfl rfl (Nat.le_refl _) (.inr (hok _ _ rfl (by simp))) (.inl ⟨rfl, hlk _ (by simp)⟩) h.rd h.dt h.cel (.inl ⟨?_, .inr ⟨?_, hh, by show (51 : Int) ≤ 10 * a + 1; omega⟩⟩) (.inr hh)
          · show 0 ≤ m.mis + 1; omega
          · show m.mis + 1 ≤ 8; omega
theorem inv_load {m : M} (h : m.Inv) {i : Nat} (hi : i < m.nth) (ho : ThOk m (m.ths i)) (hk : (m.ths i).kind = 0) (h2 : ¬ (m.ths i).at_ = 2) : (m.load i).m.Inv := by
  have hak := ho.ak
  unfold M.load
  split
  · rename_i e; exact inv_first h hi ho e 7 (.inl ⟨hk, rfl⟩)
  · split
    · rename_i e; exact inv_third h hi ho e 6 (.inl ⟨hk, rfl⟩)
    · split
      · rename_i e
        simp only [M.goes, sets_thr]
        refine h.thr hi (by omega) _ (.inr ⟨ho.op, by simp [AtOk, hk], h.dt _ (M.Inv.keyLt ho), by simp [NeedsE, hk], by simp [hk]⟩) (by simp [Locked, hk, e])
      · split
        · rename_i e
          exact inv_missed h hi ho 5 6 (.inl ⟨hk, rfl, rfl⟩) (by simpa using e)
        · split
          · rename_i e; exact inv_frees h hi ho 7 (.inl ⟨hk, rfl, e⟩)
          · rename_i n1 n3 n4 n5 n6
            have e7 : (m.ths i).at_ = 7 := by unfold AtOk at hak; omega
            exact h.thr hi (by omega) _ (.inl rfl) (by simp [Locked, hk, e7])
/-- A step that sets an entry, and the thread. -/
theorem M.Inv.cellThr {m : M} (h : m.Inv) {i : Nat} (hi : i < m.nth) (hat : (m.ths i).at_ < 51) (j : Nat) (c : Cel) (hc : CelOk c) (t : Thr) (ok : t.at_ = 0 ∨ ThOk m t) (lk : Locked t.kind t.at_ ↔ Locked (m.ths i).kind (m.ths i).at_) : ({ m with cells := put m.cells j c }.thr i t).Inv := by
  refine h.go hi _ t rfl rfl (Nat.le_refl _) ?_ (.inl ⟨rfl, lk⟩) h.rd h.dt (fun a ha => ?_) (h.misA hat _ _) (.inl fun _ => rfl)
  · rcases ok with a | a
    · exact .inl a
    · exact .inr ⟨a.op, a.ak, a.e, a.ne, a.nx⟩
  · show CelOk (put m.cells j c a)
    by_cases e : a = j
    · subst e; rw [put_same]; exact hc
    · rw [put_other _ _ e]; exact h.cel a ha
/-- A step that sets a place of DIRTY, and the thread. -/
theorem M.Inv.dirtyThr {m : M} (h : m.Inv) {i : Nat} (hi : i < m.nth) (hat : (m.ths i).at_ < 51) (k : Nat) (x : Int) (hx : -1 ≤ x ∧ x < m.nc) (t : Thr) (ok : t.at_ = 0 ∨ ThOk m t) (lk : Locked t.kind t.at_ ↔ Locked (m.ths i).kind (m.ths i).at_) : ({ m with dirty := put m.dirty k x }.thr i t).Inv := by
  refine h.go hi _ t rfl rfl (Nat.le_refl _) ?_ (.inl ⟨rfl, lk⟩) h.rd (fun a ha => ?_) h.cel (h.misA hat _ _) (.inl fun _ => rfl)
  · rcases ok with a | a
    · exact .inl a
    · exact .inr ⟨a.op, a.ak, a.e, a.ne, a.nx⟩
  · show -1 ≤ put m.dirty k x a ∧ put m.dirty k x a < m.nc
    by_cases e : a = k
    · subst e; rw [put_same]; exact hx
    · rw [put_other _ _ e]; exact h.dt a ha
theorem sees_thr (m : M) (i : Nat) (x y a : Int) : (m.sees i x y).thr i { (m.sees i x y).ths i with at_ := a } = m.thr i { m.ths i with sst := x, sv := y, at_ := a } := by
  simp only [M.sees, thr_thr, thr_ths]
theorem ThOk.to {m m' : M} {t : Thr} (ho : ThOk m t) (a e sst sv next : Int) (hn : m.nc ≤ m'.nc) (ak : AtOk t.kind a) (he : -1 ≤ e ∧ e < m'.nc) (hne : NeedsE t.kind a → 0 ≤ e) (hx : t.kind = 1 → a = 10 → 0 ≤ next ∧ next < 8 ∧ 0 ≤ m'.read next.toNat) :
    ThOk m' ⟨t.kind, t.key, t.val, t.old, a, e, sst, sv, next⟩ := by
  have _ := hn
  exact ⟨ho.op, ak, he, hne, hx⟩
theorem scan_thr (m : M) (i : Nat) (n a : Int) : (m.thr i { m.ths i with next := n }).thr i { (m.thr i { m.ths i with next := n }).ths i with at_ := a } = m.thr i { m.ths i with next := n, at_ := a } := by
  simp only [thr_thr, thr_ths]
theorem inv_scan {m m' : M} (h : m.Inv) {i : Nat} (hi : i < m.nth) (ho : ThOk m (m.ths i)) (hk : (m.ths i).kind = 1) (hat : (m.ths i).at_ = 9 ∨ (m.ths i).at_ = 10) (k : Nat) (hk8 : k ≤ 8)
    (e1 : m'.nth = m.nth) (e2 : m'.ths = m.ths) (e3 : m'.nc = m.nc) (e4 : m'.read = m.read) (e5 : m'.hol = m.hol) (e6 : m'.mis = m.mis) (hd : ∀ k, k < 8 → -1 ≤ m'.dirty k ∧ m'.dirty k < m.nc) (hc : ∀ j, j < m.nc → CelOk (m'.cells j)) : (m'.scan i k).m.Inv := by
  have hl : Locked (m.ths i).kind (m.ths i).at_ := by rcases hat with e | e <;> simp [Locked, hk, e]
  have hmis := h.misA (i := i) (by omega)
  have key : ∀ (a : Int) (n : Nat), (a = 11 ∨ (a = 10 ∧ n < 8 ∧ 0 ≤ m.read n)) → (m'.thr i { m'.ths i with next := n, at_ := a }).Inv := by
    intro a n ha
    have hl' : Locked (m.ths i).kind a := by rcases ha with e | ⟨e, _⟩ <;> simp [Locked, hk, e]
    rw [e2]
    refine h.go hi _ { m.ths i with next := n, at_ := a } (by exact e1) (by rw [← e2]; rfl) (by show m.nc ≤ m'.nc; omega) (.inr ⟨ho.op, ?_, ?_, ?_, ?_⟩) (.inl ⟨e5, ⟨fun _ => hl, fun _ => hl'⟩⟩) ?_ ?_ ?_ ?_ (.inl fun k => ?_)
    · show AtOk (m.ths i).kind a
      rcases ha with e | ⟨e, _⟩ <;> simp [AtOk, hk, e]
    · show -1 ≤ (m.ths i).e ∧ (m.ths i).e < (m'.nc : Int)
      rw [e3]; exact ho.e
    · show NeedsE (m.ths i).kind a → 0 ≤ (m.ths i).e
      rcases ha with e | ⟨e, _⟩ <;> simp [NeedsE, hk, e]
    · show (m.ths i).kind = 1 → a = 10 → 0 ≤ (n : Int) ∧ (n : Int) < 8 ∧ 0 ≤ m'.read (n : Int).toNat
      intro _ hh
      rcases ha with e | ⟨_, e, f⟩
      · omega
      · rw [e4, Int.toNat_natCast]; exact ⟨by omega, by omega, f⟩
    · show ∀ k, k < 8 → -1 ≤ m'.read k ∧ m'.read k < (m'.nc : Int)
      rw [e4, e3]; exact h.rd
    · show ∀ k, k < 8 → -1 ≤ m'.dirty k ∧ m'.dirty k < (m'.nc : Int)
      rw [e3]; exact hd
    · show ∀ j, j < m'.nc → CelOk (m'.cells j)
      rw [e3]; exact hc
    · show 0 ≤ m'.mis ∧ (m'.mis ≤ 7 ∨ (m'.mis ≤ 8 ∧ m'.hol = i ∧ 51 ≤ a)) ∨ (m'.mis = m.mis ∧ ¬ m.hol = i)
      rw [e6, e5]
      exact hmis a m.hol
    · show m'.read k = m.read k
      rw [e4]
  have hle := nextKey_le m'.read (8 - k) k
  unfold M.scan
  split
  · rename_i hx
    simp only [M.goes, scan_thr]
    refine key 10 _ (.inr ⟨rfl, hx, ?_⟩)
    have := nextKey_has m'.read (8 - k) k (by omega)
    rw [e4] at this ⊢
    exact this
  · simp only [M.goes, scan_thr]
    exact key 11 _ (.inl rfl)
theorem celVal {m : M} {t : Thr} (ho : ThOk m t) (hk : t.kind = 1 ∨ t.kind = 3) : CelOk ⟨0, t.val⟩ := by
  have := ho.op
  unfold OpOk at this
  exact .inl ⟨rfl, this.2.2.2.2.1 hk⟩
theorem inv_store {m : M} (h : m.Inv) {i : Nat} (hi : i < m.nth) (ho : ThOk m (m.ths i)) (hk : (m.ths i).kind = 1) (h4 : ¬ (m.ths i).at_ = 4) : (m.store i).m.Inv := by
  have hak := ho.ak
  have hv := celVal ho (.inl hk)
  have hkl := M.Inv.keyLt ho
  unfold M.store
  by_cases e : (m.ths i).at_ = 1
  · rw [if_pos e]
    simp only [M.goes, sets_thr]
    refine h.thr hi (by omega) _ (.inr ⟨ho.op, ?_, h.rd _ hkl, ?_, by simp only; intro _; split <;> simp⟩) ?_
    · show AtOk (m.ths i).kind _; split <;> simp [AtOk, hk]
    · show NeedsE (m.ths i).kind _ → 0 ≤ m.read (m.key i); split <;> simp [NeedsE, hk] <;> omega
    · show Locked (m.ths i).kind _ ↔ _; split <;> simp [Locked, hk, e]
  rw [if_neg e]
  have n1 := e
  clear e
  by_cases e : (m.ths i).at_ = 2
  · rw [if_pos e]
    simp only [M.goes, sees_thr]
    have hn : NeedsE (m.ths i).kind (m.ths i).at_ := by simp [NeedsE, hk, e]
    refine h.thr hi (by omega) _ (.inr ⟨ho.op, ?_, ho.e, fun _ => ho.ne hn, by simp only; intro _; split <;> simp⟩) ?_
    · show AtOk (m.ths i).kind _; split <;> simp [AtOk, hk]
    · show Locked (m.ths i).kind _ ↔ _; split <;> simp [Locked, hk, e]
  rw [if_neg e]
  have n2 := e
  clear e
  by_cases e : (m.ths i).at_ = 3
  · rw [if_pos e]
    have hn : NeedsE (m.ths i).kind (m.ths i).at_ := by simp [NeedsE, hk, e]
    split
    · exact h.cellThr hi (by omega) _ _ hv _ (.inl rfl) (by simp [Locked, hk, e])
    · exact h.thr hi (by omega) _ (.inr ⟨ho.op, by simp [AtOk, hk], ho.e, fun _ => ho.ne hn, by simp⟩) (by simp [Locked, hk, e])
  rw [if_neg e]
  have n3 := e
  clear e
  by_cases e : (m.ths i).at_ = 5
  · rw [if_pos e]
    simp only [M.goes, sets_thr]
    refine h.thr hi (by omega) _ (.inr ⟨ho.op, ?_, h.rd _ hkl, ?_, by simp only; intro _; split <;> simp⟩) ?_
    · show AtOk (m.ths i).kind _; split <;> simp [AtOk, hk]
    · show NeedsE (m.ths i).kind _ → 0 ≤ m.read (m.key i); split <;> simp [NeedsE, hk] <;> omega
    · show Locked (m.ths i).kind _ ↔ _; split <;> simp [Locked, hk, e]
  rw [if_neg e]
  have n5 := e
  clear e
  by_cases e : (m.ths i).at_ = 6
  · rw [if_pos e]
    have hn : NeedsE (m.ths i).kind (m.ths i).at_ := by simp [NeedsE, hk, e]
    split
    · exact h.cellThr hi (by omega) _ _ (.inr (.inl ⟨rfl, rfl⟩)) _ (.inr ⟨ho.op, by simp [AtOk, hk], ho.e, fun _ => ho.ne hn, by simp⟩) (by simp [Locked, hk, e])
    · exact h.thr hi (by omega) _ (.inr ⟨ho.op, by simp [AtOk, hk], ho.e, fun _ => ho.ne hn, by simp⟩) (by simp [Locked, hk, e])
  rw [if_neg e]
  have n6 := e
  clear e
  by_cases e : (m.ths i).at_ = 7
  · rw [if_pos e]
    have hn : NeedsE (m.ths i).kind (m.ths i).at_ := by simp [NeedsE, hk, e]
    exact h.dirtyThr hi (by omega) _ _ ho.e _ (.inr ⟨ho.op, by simp [AtOk, hk], ho.e, fun _ => ho.ne hn, by simp⟩) (by simp [Locked, hk, e])
  rw [if_neg e]
  have n7 := e
  clear e
  by_cases e : (m.ths i).at_ = 8
  · rw [if_pos e]
    simp only [M.goes, sets_thr]
    refine h.thr hi (by omega) _ (.inr ⟨ho.op, ?_, h.dt _ hkl, ?_, ?_⟩) ?_
    · show AtOk (m.ths i).kind _; split <;> (try split) <;> simp [AtOk, hk]
    · show NeedsE (m.ths i).kind _ → 0 ≤ m.dirty (m.key i); split <;> (try split) <;> simp [NeedsE, hk] <;> omega
    · simp only; intro _; split <;> (try split) <;> simp
    · show Locked (m.ths i).kind _ ↔ _; split <;> (try split) <;> simp [Locked, hk, e]
  rw [if_neg e]
  have n8 := e
  clear e
  by_cases e : (m.ths i).at_ = 9
  · rw [if_pos e]
    exact inv_scan h hi ho hk (.inl e) 0 (by omega) rfl rfl rfl rfl rfl rfl (fun _ _ => ⟨Int.le_refl _, by show (-1 : Int) < (m.nc : Int); omega⟩) h.cel
  rw [if_neg e]
  have n9 := e
  clear e
  by_cases e : (m.ths i).at_ = 10
  · rw [if_pos e]
    have hx := ho.nx hk e
    have hn8 : m.nxt i + 1 ≤ 8 := by unfold M.nxt; omega
    have hr := h.rd (m.nxt i) (by omega)
    unfold M.copied
    split
    · refine inv_scan h hi ho hk (.inr e) _ hn8 rfl rfl rfl rfl rfl rfl (fun a ha => ?_) h.cel
      show -1 ≤ put m.dirty (m.nxt i) (m.read (m.nxt i)) a ∧ put m.dirty (m.nxt i) (m.read (m.nxt i)) a < m.nc
      by_cases q : a = m.nxt i
      · subst q; rw [put_same]; exact hr
      · rw [put_other _ _ q]; exact h.dt a ha
    · split
      · refine inv_scan h hi ho hk (.inr e) _ hn8 rfl rfl rfl rfl rfl rfl h.dt (fun a ha => ?_)
        show CelOk (put m.cells (m.read (m.nxt i)).toNat ⟨2, 0⟩ a)
        by_cases q : a = (m.read (m.nxt i)).toNat
        · subst q; rw [put_same]; exact .inr (.inr ⟨rfl, rfl⟩)
        · rw [put_other _ _ q]; exact h.cel a ha
      · exact inv_scan h hi ho hk (.inr e) _ hn8 rfl rfl rfl rfl rfl rfl h.dt h.cel
  rw [if_neg e]
  have n10 := e
  clear e
  by_cases e : (m.ths i).at_ = 11
  · rw [if_pos e]
    have hh := holds h hi (by simp [Locked, hk, e])
    exact h.go hi _ { m.ths i with at_ := 12 } rfl rfl (Nat.le_refl _) (.inr ⟨ho.op, by simp [AtOk, hk], ho.e, by simp [NeedsE, hk], by simp⟩) (.inl ⟨rfl, by simp [Locked, hk, e]⟩) h.rd h.dt h.cel (h.misA (by omega) _ _) (.inr hh)
  rw [if_neg e]
  have n11 := e
  clear e
  by_cases e : (m.ths i).at_ = 12
  · rw [if_pos e]
    have hh := holds h hi (by simp [Locked, hk, e])
    refine h.go hi _ { m.ths i with at_ := 14 } rfl rfl (Nat.le_succ _) (.inr ⟨ho.op, by simp [AtOk, hk], ?_, by simp [NeedsE, hk], by simp⟩) (.inl ⟨rfl, by simp [Locked, hk, e]⟩) (fun k hk => ?_) (fun k hk => ?_) (fun j hj => ?_) (h.misA (by omega) _ _) (.inr hh)
    · show -1 ≤ (m.ths i).e ∧ (m.ths i).e < ((m.nc + 1 : Nat) : Int)
      have := ho.e; omega
    · show -1 ≤ m.read k ∧ m.read k < ((m.nc + 1 : Nat) : Int)
      have := h.rd k hk; omega
    · show -1 ≤ put m.dirty (m.key i) (m.nc : Int) k ∧ put m.dirty (m.key i) (m.nc : Int) k < ((m.nc + 1 : Nat) : Int)
      by_cases q : k = m.key i
      · subst q; rw [put_same]; omega
      · rw [put_other _ _ q]; have := h.dt k hk; omega
    · show CelOk (put m.cells m.nc ⟨0, (m.ths i).val⟩ j)
      by_cases q : j = m.nc
      · subst q; rw [put_same]; exact hv
      · rw [put_other _ _ q]
        have : j < m.nc + 1 := hj
        exact h.cel j (by omega)
  rw [if_neg e]
  have n12 := e
  clear e
  by_cases e : (m.ths i).at_ = 13
  · rw [if_pos e]
    exact h.cellThr hi (by omega) _ _ hv _ (.inr ⟨ho.op, by simp [AtOk, hk], ho.e, by simp [NeedsE, hk], by simp⟩) (by simp [Locked, hk, e])
  rw [if_neg e]
  have n13 := e
  clear e
  have e14 : (m.ths i).at_ = 14 := by
    have : 1 ≤ (m.ths i).at_ ∧ (m.ths i).at_ ≤ 14 := by simpa [AtOk, hk] using hak
    omega
  have hh := holds h hi (by simp [Locked, hk, e14])
  exact h.go hi _ { m.ths i with at_ := 0 } rfl rfl (Nat.le_refl _) (.inl rfl) (.inr (.inr ⟨hh, rfl, not_locked0 _⟩)) h.rd h.dt h.cel (h.misA (by omega) _ _) (.inl fun _ => rfl)
/-- The step at which the lock is taken. -/
theorem inv_take {m : M} (h : m.Inv) {i : Nat} (hi : i < m.nth) (ho : ThOk m (m.ths i)) (hat : (m.ths i).at_ = m.lockAt i) (hf : m.hol < 0) : ({ m with hol := i }.goes i (m.lockAt i + 1)).m.Inv := by
  have hop := ho.op
  unfold OpOk at hop
  have h51 : (m.ths i).at_ < 51 := by rw [hat]; unfold M.lockAt; split <;> omega
  have hkd : (m.ths i).kind = 0 ∨ (m.ths i).kind = 1 ∨ (m.ths i).kind = 2 ∨ (m.ths i).kind = 3 := by omega
  refine h.go hi _ { m.ths i with at_ := m.lockAt i + 1 } rfl rfl (Nat.le_refl _) (.inr ⟨ho.op, ?_, ho.e, ?_, ?_⟩) (.inr (.inl ⟨hf, rfl, ?_⟩)) h.rd h.dt h.cel (h.misA h51 _ _) (.inl fun _ => rfl)
  · show AtOk (m.ths i).kind _
    unfold M.lockAt
    rcases hkd with e | e | e | e <;> simp [AtOk, e]
  · show NeedsE (m.ths i).kind _ → _
    unfold M.lockAt
    rcases hkd with e | e | e | e <;> simp [NeedsE, e]
  · simp only
    unfold M.lockAt
    intro a
    simp [a]
  · show Locked (m.ths i).kind _
    unfold M.lockAt
    rcases hkd with e | e | e | e <;> simp [Locked, e]
theorem inv_begin {m : M} (h : m.Inv) (n kind key val old : Int) : (m.begin n kind key val old).2.Inv := by
  unfold M.begin
  split
  · exact h
  split
  · exact h
  split
  · exact h
  · rename_i _ hb ha
    have hok : OpOk kind key val old := Decidable.byContradiction fun hh => hb (.inr (.inr hh))
    have hi : n.toNat < m.nth := by
      have : ¬ (n < 0 ∨ (m.nth : Int) ≤ n) := fun hh => hb (hh.elim .inl fun q => .inr (.inl q))
      omega
    have ha0 : (m.ths n.toNat).at_ = 0 := by
      rcases h.th _ hi with e | e
      · exact e
      · have := e.ak
        exfalso
        rcases this with ⟨_, q⟩ | ⟨_, q⟩ | ⟨_, q⟩ | ⟨_, q⟩ <;> omega
    have hop := hok
    unfold OpOk at hop
    have hkd : kind = 0 ∨ kind = 1 ∨ kind = 2 ∨ kind = 3 := by omega
    refine h.thr hi (by omega) _ (.inr ⟨hok, ?_, ⟨Int.le_refl _, by show (-1 : Int) < (m.nc : Int); omega⟩, ?_, ?_⟩) ?_
    · show AtOk kind 1
      rcases hkd with e | e | e | e <;> simp [AtOk, e]
    · show NeedsE kind 1 → _
      rcases hkd with e | e | e | e <;> simp [NeedsE, e]
    · simp
    · show Locked kind 1 ↔ _
      rw [ha0]
      exact ⟨fun hh => by rcases hkd with e | e | e | e <;> simp [Locked, e] at hh, fun hh => absurd hh (not_locked0 _)⟩
end Go.Proofs.YtfgfpggjcfhccaaGreat
