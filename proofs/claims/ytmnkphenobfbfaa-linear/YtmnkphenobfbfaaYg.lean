import Derived.Test.YtmnkphenobfbfaaYf
import Derived.Test.YtmnkphenobfbfaaYa
namespace Go.Proofs.Ytmnkphenobfbfaa
/-! A thread that goes on alone. -/
/-- How many steps are left at most. -/
def rank (t : Thr) : Int :=
  if t.kind = 0 then
    (if t.at_ = 7 then 1 else if t.at_ = 6 then 2 else if t.at_ = 53 then 3 else if t.at_ = 52 then 4 else if t.at_ = 51 then 5 else if t.at_ = 5 then 6 else if t.at_ = 4 then 7 else if t.at_ = 3 then 8 else if t.at_ = 2 then 9 else 10)
  else if t.kind = 1 then
    (if t.at_ = 14 then 1 else if t.at_ = 13 then 2 else if t.at_ = 12 then 2 else if t.at_ = 11 then 3 else if t.at_ = 10 then 11 - t.next else if t.at_ = 9 then 12 else if t.at_ = 8 then 13 else if t.at_ = 7 then 3 else if t.at_ = 6 then 4 else if t.at_ = 5 then 14 else if t.at_ = 4 then 15 else if t.at_ = 3 then 1 else if t.at_ = 2 then 16 else 17)
  else
    (if t.at_ = 9 then 1 else if t.at_ = 8 then 2 else if t.at_ = 7 then 3 else if t.at_ = 63 then 4 else if t.at_ = 62 then 5 else if t.at_ = 61 then 6 else if t.at_ = 6 then 7 else if t.at_ = 5 then 8 else if t.at_ = 4 then 9 else if t.at_ = 3 then 10 else if t.at_ = 2 then 11 else 12)
/-- What the thread has seen is still so. -/
structure Fresh (m : M) (i : Nat) : Prop where
  seen : ((m.ths i).kind = 1 ∧ (m.ths i).at_ = 3) ∨ ((m.ths i).kind = 2 ∧ (m.ths i).at_ = 9) → (m.cells (m.ths i).e.toNat).st = (m.ths i).sst ∧ (m.cells (m.ths i).e.toNat).v = (m.ths i).sv
  old : (m.ths i).kind = 3 → (m.ths i).at_ = 9 → (m.cells (m.ths i).e.toNat).st = 0 ∧ (m.cells (m.ths i).e.toNat).v = (m.ths i).old
/-- It is done, or has fewer steps left. -/
def Less (m : M) (i : Nat) (o : Out) : Prop := o.d = true ∨ (o.d = false ∧ rank (o.m.ths i) < rank (m.ths i) ∧ Fresh o.m i)
theorem less_ite {m : M} {i : Nat} {q : Prop} [Decidable q] {A B : Out} (ha : q → Less m i A) (hb : ¬ q → Less m i B) : Less m i (if q then A else B) := by
  by_cases r : q
  · rw [if_pos r]; exact ha r
  · rw [if_neg r]; exact hb r
theorem less_end {m X : M} {i : Nat} {f : Bool} {v : Int} : Less m i (X.ends i f v) := .inl rfl
theorem less_go {m X : M} {i : Nat} {a : Int} (t : Thr) (e : (X.goes i a).m.ths i = t) (hr : rank t < rank (m.ths i)) (h1 : (t.kind = 1 ∧ t.at_ = 3) ∨ (t.kind = 2 ∧ t.at_ = 9) → (X.cells t.e.toNat).st = t.sst ∧ (X.cells t.e.toNat).v = t.sv) (h2 : t.kind = 3 → t.at_ = 9 → (X.cells t.e.toNat).st = 0 ∧ (X.cells t.e.toNat).v = t.old) : Less m i (X.goes i a) :=
  .inr ⟨rfl, by rw [e]; exact hr, ⟨by rw [e]; exact h1, by rw [e]; exact h2⟩⟩
theorem less_first {m : M} {i : Nat} {entry : Int} (ha : (m.ths i).at_ = 1) (hk : ((m.ths i).kind = 0 ∧ entry = 7) ∨ (((m.ths i).kind = 2 ∨ (m.ths i).kind = 3) ∧ entry = 8)) : Less m i (m.first i entry) := by
  have key : ∀ a : Int, a = entry ∨ a = 2 → Less m i ((m.sets i (m.read (m.key i))).goes i a) := fun a h => by
    refine less_go { m.ths i with e := m.read (m.key i), at_ := a } (by rw [sets_goes]; exact thr_ths _ _ _) ?_ (fun q => by dsimp only at q; omega) (fun q q' => by dsimp only at q q'; omega)
    rcases hk with ⟨k, rfl⟩ | ⟨k | k, rfl⟩ <;> rcases h with rfl | rfl <;> simp [rank, k, ha]
  unfold M.first
  exact less_ite (fun _ => key _ (.inl rfl)) fun _ => less_ite (fun _ => key _ (.inr rfl)) fun _ => less_end
theorem less_third {m : M} {i : Nat} {free : Int} (ha : (m.ths i).at_ = 3) (hk : ((m.ths i).kind = 0 ∧ free = 6) ∨ (((m.ths i).kind = 2 ∨ (m.ths i).kind = 3) ∧ free = 7)) : Less m i (m.third i free) := by
  have key : ∀ a : Int, a = free ∨ a = 4 → Less m i ((m.sets i (m.read (m.key i))).goes i a) := fun a h => by
    refine less_go { m.ths i with e := m.read (m.key i), at_ := a } (by rw [sets_goes]; exact thr_ths _ _ _) ?_ (fun q => by dsimp only at q; omega) (fun q q' => by dsimp only at q q'; omega)
    rcases hk with ⟨k, rfl⟩ | ⟨k | k, rfl⟩ <;> rcases h with rfl | rfl <;> simp [rank, k, ha]
  unfold M.third
  exact less_ite (fun _ => key _ (.inl rfl)) fun _ => less_ite (fun _ => key _ (.inr rfl)) fun _ => key _ (.inl rfl)
theorem less_frees {m : M} {i : Nat} {entry : Int} (hk : ((m.ths i).kind = 0 ∧ entry = 7 ∧ (m.ths i).at_ = 6) ∨ (((m.ths i).kind = 2 ∨ (m.ths i).kind = 3) ∧ entry = 8 ∧ (m.ths i).at_ = 7)) : Less m i (m.frees i entry) := by
  unfold M.frees
  refine less_ite (fun _ => less_end) fun _ => less_go { m.ths i with at_ := entry } (thr_ths _ _ _) ?_ (fun q => by dsimp only at q; omega) (fun q q' => by dsimp only at q q'; omega)
  rcases hk with ⟨k, rfl, a⟩ | ⟨k | k, rfl, a⟩ <;> simp [rank, k, a]
theorem less_missed {m : M} {i : Nat} {a free : Int} (hk : ((m.ths i).kind = 0 ∧ a = 5 ∧ free = 6) ∨ (((m.ths i).kind = 2 ∨ (m.ths i).kind = 3) ∧ a = 6 ∧ free = 7)) (hat : (m.ths i).at_ = a ∨ (m.ths i).at_ = 10 * a + 1 ∨ (m.ths i).at_ = 10 * a + 2 ∨ (m.ths i).at_ = 10 * a + 3) : Less m i (m.missed i a free) := by
  have key : ∀ (X : M) (x : Int), X.ths = m.ths → (∀ y, y = (m.ths i).at_ → rank { m.ths i with at_ := x } < rank { m.ths i with at_ := y }) → (x = free ∨ x = 10 * a + 1 ∨ x = 10 * a + 2 ∨ x = 10 * a + 3) → Less m i (X.goes i x) := fun X x e hr hx => by
    refine less_go { m.ths i with at_ := x } (by unfold M.goes; rw [thr_ths, e]) (hr _ rfl) (fun q => by dsimp only at q; omega) (fun q q' => by dsimp only at q q'; omega)
  unfold M.missed
  refine less_ite (fun q => key _ _ rfl (fun y hy => ?_) (by simp)) fun n1 => less_ite (fun q => key _ _ rfl (fun y hy => ?_) (by simp)) fun n2 => less_ite (fun q => key _ _ rfl (fun y hy => ?_) (by simp)) fun n3 => less_ite (fun q => key _ _ rfl (fun y hy => ?_) (by simp)) fun q => key _ _ rfl (fun y hy => ?_) (by simp)
  all_goals
    rcases hk with ⟨k, rfl, rfl⟩ | ⟨k | k, rfl, rfl⟩
    all_goals
      have hy2 : y = (m.ths i).at_ := hy
      first
      | (have hy3 : y = 5 := by omega); subst hy3; simp [rank, k]
      | (have hy3 : y = 6 := by omega); subst hy3; simp [rank, k]
      | (have hy3 : y = 51 := by omega); subst hy3; simp [rank, k]
      | (have hy3 : y = 52 := by omega); subst hy3; simp [rank, k]
      | (have hy3 : y = 53 := by omega); subst hy3; simp [rank, k]
      | (have hy3 : y = 61 := by omega); subst hy3; simp [rank, k]
      | (have hy3 : y = 62 := by omega); subst hy3; simp [rank, k]
      | (have hy3 : y = 63 := by omega); subst hy3; simp [rank, k]
end Go.Proofs.Ytmnkphenobfbfaa
namespace Go.Proofs.Ytmnkphenobfbfaa
theorem less_load {m : M} {i : Nat} (hk : (m.ths i).kind = 0) : Less m i (m.load i) := by
  unfold M.load
  refine less_ite (fun q => less_first q (.inl ⟨hk, rfl⟩)) fun _ => less_ite (fun q => less_third q (.inl ⟨hk, rfl⟩)) fun _ => less_ite (fun q => ?_) fun _ => less_ite (fun q => less_missed (.inl ⟨hk, rfl, rfl⟩) (by omega)) fun _ => less_ite (fun q => less_frees (.inl ⟨hk, rfl, q⟩)) fun _ => less_end
  refine less_go { m.ths i with e := m.dirty (m.key i), at_ := 5 } (by rw [sets_goes]; exact thr_ths _ _ _) (by simp [rank, hk, q]) (fun q => by dsimp only at q; omega) (fun q q' => by dsimp only at q q'; omega)
theorem less_remove {m : M} {i : Nat} (ho : ThOk m (m.ths i)) (hF : Fresh m i) (hk : (m.ths i).kind = 2) (h2 : ¬ (m.ths i).at_ = 2) : Less m i (m.remove i) := by
  have hak := ho.ak
  unfold AtOk at hak
  unfold M.remove
  refine less_ite (fun q => less_first q (.inr ⟨.inl hk, rfl⟩)) fun n1 => less_ite (fun q => less_third q (.inr ⟨.inl hk, rfl⟩)) fun n3 => less_ite (fun q => ?_) fun n4 => less_ite (fun q => ?_) fun n5 => less_ite (fun q => less_missed (.inr ⟨.inl hk, rfl, rfl⟩) (by omega)) fun n6 => less_ite (fun q => less_frees (.inr ⟨.inl hk, rfl, q⟩)) fun n7 => less_ite (fun q => less_ite (fun r => ?_) fun _ => less_end) fun n8 => less_ite (fun _ => less_end) fun r => ?_
  · exact less_go { m.ths i with e := m.dirty (m.key i), at_ := 5 } (by rw [sets_goes]; exact thr_ths _ _ _) (by simp [rank, hk, q]) (fun q => by dsimp only at q; omega) (fun q q' => by dsimp only at q q'; omega)
  · exact less_go { m.ths i with at_ := 6 } (thr_ths _ _ _) (by simp [rank, hk, q]) (fun q => by dsimp only at q; omega) (fun q q' => by dsimp only at q q'; omega)
  · exact less_go { m.ths i with sst := (m.cells (m.ths i).e.toNat).st, sv := (m.cells (m.ths i).e.toNat).v, at_ := 9 } (by rw [sees_goes]; exact thr_ths _ _ _) (by simp [rank, hk, q]) (fun _ => ⟨rfl, rfl⟩) (fun q q' => by dsimp only at q q'; omega)
  · exact absurd (hF.seen (.inr ⟨hk, by omega⟩)) r
theorem less_replace {m : M} {i : Nat} (ho : ThOk m (m.ths i)) (hF : Fresh m i) (hk : (m.ths i).kind = 3) (h2 : ¬ (m.ths i).at_ = 2) : Less m i (m.replace i) := by
  have hak := ho.ak
  unfold AtOk at hak
  unfold M.replace
  refine less_ite (fun q => less_first q (.inr ⟨.inr hk, rfl⟩)) fun n1 => less_ite (fun q => less_third q (.inr ⟨.inr hk, rfl⟩)) fun n3 => less_ite (fun q => ?_) fun n4 => less_ite (fun q => less_missed (.inr ⟨.inr hk, rfl, rfl⟩) (by omega)) fun n6 => less_ite (fun q => less_frees (.inr ⟨.inr hk, rfl, q⟩)) fun n7 => less_ite (fun q => less_ite (fun r => ?_) fun _ => less_end) fun n8 => less_ite (fun _ => less_end) fun r => ?_
  · have key : ∀ a : Int, a = 7 ∨ a = 6 → Less m i ((m.sets i (m.dirty (m.key i))).goes i a) := fun a h => by
      refine less_go { m.ths i with e := m.dirty (m.key i), at_ := a } (by rw [sets_goes]; exact thr_ths _ _ _) ?_ (fun q => by dsimp only at q; omega) (fun q q' => by dsimp only at q q'; omega)
      rcases h with rfl | rfl <;> simp [rank, hk, q]
    refine key _ ?_
    split <;> simp
  · exact less_go { m.ths i with at_ := 9 } (thr_ths _ _ _) (by simp [rank, hk, q]) (fun q => by dsimp only at q; omega) (fun _ _ => r)
  · exact absurd (hF.old hk (by omega)) r
theorem less_scan {m X : M} {i : Nat} (hk : (m.ths i).kind = 1) (e : X.ths = m.ths) (k : Nat) (hr : ∀ n : Nat, k ≤ n → n < 8 → rank { m.ths i with next := (n : Int), at_ := 10 } < rank (m.ths i)) (hr2 : ∀ n : Int, rank { m.ths i with next := n, at_ := 11 } < rank (m.ths i)) : Less m i (X.scan i k) := by
  have hle := nextKey_le X.read (8 - k) k
  unfold M.scan
  refine less_ite (fun q => ?_) fun q => ?_
  · refine less_go { m.ths i with next := (nextKey X.read (8 - k) k : Int), at_ := 10 } ?_ (hr _ hle.1 q) (fun q => by dsimp only at q; omega) (fun q q' => by dsimp only at q q'; omega)
    unfold M.goes
    rw [thr_ths, thr_ths, e]
  · refine less_go { m.ths i with next := (nextKey X.read (8 - k) k : Int), at_ := 11 } ?_ (hr2 _) (fun q => by dsimp only at q; omega) (fun q q' => by dsimp only at q q'; omega)
    unfold M.goes
    rw [thr_ths, thr_ths, e]
theorem copied_ths (m : M) (i : Nat) : (m.copied i).ths = m.ths := by
  unfold M.copied
  split
  · rfl
  · split <;> rfl
theorem less_store {m : M} {i : Nat} (ho : ThOk m (m.ths i)) (hF : Fresh m i) (hk : (m.ths i).kind = 1) : Less m i (m.store i) := by
  have hak := ho.ak
  unfold AtOk at hak
  have g : ∀ (X : M) (x : Int), X.ths = m.ths → ¬ x = 3 → rank { m.ths i with at_ := x } < rank (m.ths i) → Less m i (X.goes i x) := fun X x e hx hr => less_go { m.ths i with at_ := x } (by unfold M.goes; rw [thr_ths, e]) hr (fun q => by dsimp only at q; omega) (fun q q' => by dsimp only at q q'; omega)
  have s : ∀ (y x : Int), ¬ x = 3 → rank { m.ths i with e := y, at_ := x } < rank (m.ths i) → Less m i ((m.sets i y).goes i x) := fun y x hx hr => less_go { m.ths i with e := y, at_ := x } (by rw [sets_goes]; exact thr_ths _ _ _) hr (fun q => by dsimp only at q; omega) (fun q q' => by dsimp only at q q'; omega)
  unfold M.store
  refine less_ite (fun q => ?_) fun n1 => less_ite (fun q => ?_) fun n2 => less_ite (fun q => less_ite (fun _ => less_end) fun r => ?_) fun n3 => less_ite (fun q => ?_) fun n5 => less_ite (fun q => less_ite (fun r => ?_) fun r => ?_) fun n6 => less_ite (fun q => ?_) fun n7 => less_ite (fun q => ?_) fun n8 => less_ite (fun q => ?_) fun n9 => less_ite (fun q => ?_) fun n10 => less_ite (fun q => ?_) fun n11 => less_ite (fun q => ?_) fun n12 => less_ite (fun q => ?_) fun n13 => less_end
  · split
    · exact s _ _ (by omega) (by simp [rank, hk, q])
    · exact s _ _ (by omega) (by simp [rank, hk, q])
  · by_cases r : (m.cells (m.ths i).e.toNat).st = 2
    · rw [if_pos r]
      exact less_go { m.ths i with sst := (m.cells (m.ths i).e.toNat).st, sv := (m.cells (m.ths i).e.toNat).v, at_ := 4 } (by rw [sees_goes]; exact thr_ths _ _ _) (by simp [rank, hk, q]) (fun _ => ⟨rfl, rfl⟩) (fun q q' => by dsimp only at q q'; omega)
    · rw [if_neg r]
      exact less_go { m.ths i with sst := (m.cells (m.ths i).e.toNat).st, sv := (m.cells (m.ths i).e.toNat).v, at_ := 3 } (by rw [sees_goes]; exact thr_ths _ _ _) (by simp [rank, hk, q]) (fun _ => ⟨rfl, rfl⟩) (fun q q' => by dsimp only at q q'; omega)
  · exact absurd (hF.seen (.inl ⟨hk, q⟩)) r
  · split
    · exact s _ _ (by omega) (by simp [rank, hk, q])
    · exact s _ _ (by omega) (by simp [rank, hk, q])
  · exact g _ _ rfl (by omega) (by simp [rank, hk, q])
  · exact g _ _ rfl (by omega) (by simp [rank, hk, q])
  · exact g _ _ rfl (by omega) (by simp [rank, hk, q])
  · split
    · split
      · exact s _ _ (by omega) (by simp [rank, hk, q])
      · exact s _ _ (by omega) (by simp [rank, hk, q])
    · exact s _ _ (by omega) (by simp [rank, hk, q])
  · exact less_scan (X := { m with hd := true, dirty := fun _ => -1 }) hk rfl 0 (fun n h1 h2 => by simp only [rank, hk, q]; simp; omega) (fun n => by simp [rank, hk, q])
  · have hx := ho.nx hk q
    refine less_scan hk (copied_ths m i) _ (fun n h1 h2 => ?_) (fun n => ?_)
    · simp only [rank, hk, q]
      unfold M.nxt at h1
      simp
      omega
    · simp only [rank, hk, q]
      simp
      omega
  · exact g _ _ rfl (by omega) (by simp [rank, hk, q])
  · exact g _ _ rfl (by omega) (by simp [rank, hk, q])
  · exact g _ _ rfl (by omega) (by simp [rank, hk, q])
/-- A thread whose fellows are at nothing is never blocked, and has fewer steps left behind each. -/
theorem less_does {m : M} (hI : m.Inv) {i : Nat} (hi : i < m.nth) (ha : ¬ (m.ths i).at_ = 0) (hF : Fresh m i) (idle : ∀ j, j < m.nth → ¬ j = i → (m.ths j).at_ = 0) : ∃ o, m.does i = some o ∧ Less m i o := by
  have ho := (hI.th i hi).resolve_left ha
  have hop := ho.op
  unfold OpOk at hop
  unfold M.does
  by_cases e : (m.ths i).at_ = m.lockAt i
  · have hf : ¬ 0 ≤ m.hol := fun q => by
      have hl := hI.hol
      have := (hI.lock m.hol.toNat (by omega)).2 (by omega)
      by_cases w : m.hol.toNat = i
      · rw [w, e] at this
        unfold M.lockAt Locked at this
        by_cases k1 : (m.ths i).kind = 1
        · rw [if_pos k1] at this; omega
        · rw [if_neg k1] at this; omega
      · rw [idle _ (by omega) w] at this
        exact not_locked0 _ this
    rw [if_pos e, if_neg hf]
    refine ⟨_, rfl, less_go { m.ths i with at_ := m.lockAt i + 1 } (thr_ths _ _ _) ?_ (fun q => ?_) (fun q q' => ?_)⟩
    · unfold M.lockAt at e ⊢
      by_cases k1 : (m.ths i).kind = 1
      · rw [if_pos k1] at e ⊢; simp [rank, k1, e]
      · rw [if_neg k1] at e ⊢
        have k0 : (m.ths i).kind = 0 ∨ (m.ths i).kind = 2 ∨ (m.ths i).kind = 3 := by omega
        rcases k0 with k | k | k <;> simp [rank, k, e]
    · dsimp only at q
      unfold M.lockAt at q
      split at q <;> omega
    · dsimp only at q'
      unfold M.lockAt at q'
      split at q' <;> omega
  · rw [if_neg e]
    have e2 : ¬ (m.ths i).kind = 1 → ¬ (m.ths i).at_ = 2 := fun k q => e (by unfold M.lockAt; rw [if_neg k, q])
    by_cases k0 : (m.ths i).kind = 0
    · rw [if_pos k0]; exact ⟨_, rfl, less_load k0⟩
    rw [if_neg k0]
    by_cases k1 : (m.ths i).kind = 1
    · rw [if_pos k1]; exact ⟨_, rfl, less_store ho hF k1⟩
    rw [if_neg k1]
    by_cases k2 : (m.ths i).kind = 2
    · rw [if_pos k2]; exact ⟨_, rfl, less_remove ho hF k2 (e2 k1)⟩
    rw [if_neg k2]
    exact ⟨_, rfl, less_replace ho hF (by omega) (e2 k1)⟩
theorem pos_ite {c : Prop} [Decidable c] {a b : Int} (h1 : c → 0 < a) (h2 : ¬ c → 0 < b) : 0 < (if c then a else b) := by
  by_cases h : c
  · rw [if_pos h]; exact h1 h
  · rw [if_neg h]; exact h2 h
theorem rank_pos {m : M} {t : Thr} (ho : ThOk m t) : 0 < rank t := by
  have nx := ho.nx
  unfold rank
  refine pos_ite (fun _ => ?_) fun k0 => pos_ite (fun k1 => ?_) fun k2 => ?_
  · repeat' (refine pos_ite (fun _ => by omega) fun _ => ?_)
    omega
  · refine pos_ite (fun _ => by omega) fun _ => pos_ite (fun _ => by omega) fun _ => pos_ite (fun _ => by omega) fun _ => pos_ite (fun _ => by omega) fun _ => pos_ite (fun q => by have := nx k1 q; omega) fun _ => ?_
    repeat' (refine pos_ite (fun _ => by omega) fun _ => ?_)
    omega
  · repeat' (refine pos_ite (fun _ => by omega) fun _ => ?_)
    omega
/-- A map at rest: what each key has. -/
structure Rest (m : M) (p : Nat → Int) : Prop where
  inv : m.Inv
  tab : Tab m
  idle : ∀ i, i < m.nth → (m.ths i).at_ = 0
  val : ∀ k, k < 8 → p k = m.valE (m.bnd k)
  cl : m.cl = false
theorem alone_runs {h : Hist} {p0 : Nat → Int} {now i c : Nat} (hnow : 0 < now) : ∀ (n : Nat) (m : M) (cur : Nat → Option Nat) (l : List Nat) (det : Nat → Option Nat), LInv m h p0 cur l det now → i < m.nth → m.cl = false → cur i = some c → (∀ j, ¬ j = i → cur j = none) → Fresh m i → rank (m.ths i) ≤ n →
    ∃ f v m', m.runs i n = (true, f, v, true, m') ∧ m'.nth = m.nth ∧ m'.cl = false ∧ ∃ l' det', LInv m' (h.done c now (f, v)) p0 (fun _ => none) l' det' now := by
  intro n
  induction n with
  | zero =>
    intro m cur l det L hi _ hc _ _ hr
    have := rank_pos (L.own hi hc).ho
    omega
  | succ n ih =>
    intro m cur l det L hi hcl hc hn hF hr
    have ha : ¬ (m.ths i).at_ = 0 := fun q => by rw [(L.idle i hi).1 q] at hc; cases hc
    obtain ⟨o, hd, hL⟩ := less_does L.inv hi ha hF fun j hj hji => (L.idle j hj).2 (hn j hji)
    have hs := so_does hd
    have hA := l_does L hi hc hnow hd
    have st : m.step i = ⟨0, o⟩ := by
      unfold M.step
      rw [if_neg (by rw [hcl]; simp), if_neg (by omega), Int.toNat_natCast, if_neg ha, hd]
    unfold M.runs
    rw [st]
    simp only [if_true]
    rcases hL with hL | ⟨hL, hrk, hF'⟩
    · obtain ⟨l', det', L'⟩ := hA.2 hL
      rw [if_pos hL, hL]
      refine ⟨o.f, o.v, o.m, rfl, hs.nth, by rw [hs.cl]; exact hcl, l', det', ?_⟩
      have : put cur i none = fun _ => none := by
        funext j
        by_cases q : j = i
        · subst q; exact put_same _ _ _
        · rw [put_other _ _ q]; exact hn j q
      rw [this] at L'
      exact L'
    · obtain ⟨l', det', L'⟩ := hA.1 hL
      rw [if_neg (by rw [hL]; simp)]
      obtain ⟨f, v, m', q1, q2, q3, q4⟩ := ih o.m cur l' det' L' (by rw [hs.nth]; exact hi) (by rw [hs.cl]; exact hcl) hc hn hF' (by omega)
      exact ⟨f, v, m', q1, by rw [q2, hs.nth], q3, q4⟩
/-- An operation alone: within thirty steps, with a plain map's answer. -/
theorem alone_op {m : M} {p : Nat → Int} (R : Rest m p) {i : Nat} (hi : i < m.nth) {kind key val old : Int} (hop : OpOk kind key val old) :
    (m.begin i kind key val old).1 = 0 ∧ ∃ f v m', (m.begin i kind key val old).2.runs i 30 = (true, f, v, true, m') ∧ m'.nth = m.nth ∧ Rest m' (pnext p ⟨kind, key.toNat, val, old⟩) ∧ (f, v) = pans p ⟨kind, key.toNat, val, old⟩ := by
  have hb : m.begin i kind key val old = (0, m.thr i ⟨kind, key, val, old, 1, -1, 0, 0, 0⟩) := by
    unfold M.begin
    rw [if_neg (by rw [R.cl]; simp), if_neg (by rintro (q | q | q); omega; omega; exact q hop), Int.toNat_natCast, if_neg (by rw [R.idle i hi]; omega)]
  have hI := inv_begin R.inv i kind key val old
  rw [hb] at hI ⊢
  refine ⟨rfl, ?_⟩
  have L0 := l_rest R.inv R.tab R.idle R.val (fun _ => ⟨0, 0, 0, 0⟩) (fun _ => 0) (fun _ => 0) (fun _ => (false, 0))
  have L1 := l_begin (L0.later (now' := 1) (by omega)) hi rfl hI
  have fr : Fresh (m.thr i ⟨kind, key, val, old, 1, -1, 0, 0, 0⟩) i := by
    refine ⟨fun q => ?_, fun _ q => ?_⟩
    · rw [thr_ths] at q; dsimp only at q; omega
    · rw [thr_ths] at q; dsimp only at q; omega
  have rk : rank ((m.thr i ⟨kind, key, val, old, 1, -1, 0, 0, 0⟩).ths i) ≤ 30 := by
    rw [thr_ths]
    have : 0 ≤ kind ∧ kind ≤ 3 := by unfold OpOk at hop; omega
    have k : kind = 0 ∨ kind = 1 ∨ kind = 2 ∨ kind = 3 := by omega
    rcases k with rfl | rfl | rfl | rfl <;> simp [rank]
  obtain ⟨f, v, m', q1, q2, q3, l', det', L'⟩ := alone_runs (c := 0) (by omega) 30 _ _ _ _ L1 hi R.cl (put_same _ _ _) (fun j hj => put_other _ _ hj) fr rk
  · refine ⟨f, v, m', q1, q2, ?_⟩
    have hin := L'.all 0 (Nat.lt_succ_self _) (by simp [Hist.done, Hist.more, put])
    have hl : l' = [0] := by
      have nd := L'.ord.nodup
      have lt := L'.ord.lt
      have z : ∀ c, c ∈ l' → c = 0 := fun c hc => by have : c < 0 + 1 := lt c hc; omega
      cases l' with
      | nil => cases hin
      | cons a l2 =>
        obtain rfl := z a (List.mem_cons_self ..)
        cases l2 with
        | nil => rfl
        | cons b l3 =>
          obtain rfl := z b (by simp)
          simp at nd
    subst hl
    refine ⟨⟨L'.inv, L'.tab, fun j hj => (L'.idle j hj).2 rfl, fun k hk => ?_, q3⟩, ?_⟩
    · have := L'.abs k hk
      rw [← this]
      rfl
    · have := L'.ord.ans [] 0 [] rfl (by simp [Hist.done, Hist.more, put])
      exact this.symm
end Go.Proofs.Ytmnkphenobfbfaa
