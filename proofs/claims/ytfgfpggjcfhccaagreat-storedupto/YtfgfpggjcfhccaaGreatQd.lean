import Derived.Test.YtfgfpggjcfhccaaGreatQc
namespace Go.Proofs.YtfgfpggjcfhccaaGreat
open Go.RowKit
/-- What a step leaves; none: it is blocked. -/
def GAns (p : PM) (en : Nat → Nat) (l : Int) (m : M) (w : World) (o : Option Out) (e : Ending) (w' : World) : Prop :=
  match o with
  | none => e = .returned (ans false false 0 4) ∧ Kept [] w w'
  | some o => GSome p en l m w o e w'
theorem g_step {p : PM} {en : Nat → Nat} {l : Int} {m : M} {w : World} (h : GAt p en l m w) (hI : m.Inv) {i t : Nat} (ht : p.ts[i]? = some t) (ho : ThOk m (m.ths i)) (hk : (m.ths i).kind = 0 ∨ (m.ths i).kind = 1) :
    Calls Tryz.prog (fnOf (m.ths i).kind (m.ths i).at_) #[.pointer (some ⟨t, 0, none⟩)] w (GAns p en l m w (m.does i)) := by
  have hak := ho.ak
  rcases hk with hk | hk
  · have ha : (m.ths i).at_ = 2 ∨ (m.ths i).at_ = 1 ∨ (m.ths i).at_ = 3 ∨ (m.ths i).at_ = 4 ∨ (m.ths i).at_ = 5 ∨ (m.ths i).at_ = 6 ∨ (m.ths i).at_ = 7 ∨ (m.ths i).at_ = 51 ∨ (m.ths i).at_ = 52 ∨ (m.ths i).at_ = 53 := by
      have : (1 ≤ (m.ths i).at_ ∧ (m.ths i).at_ ≤ 7) ∨ (51 ≤ (m.ths i).at_ ∧ (m.ths i).at_ ≤ 53) := by simpa [AtOk, hk] using hak
      omega
    have hl : m.lockAt i = 2 := by simp [M.lockAt, hk]
    have hd : ¬ (m.ths i).at_ = 2 → m.does i = some (m.load i) := fun e => by unfold M.does; rw [hl, if_neg e, if_pos hk]
    rcases ha with e | e
    · have hfn : fnOf (m.ths i).kind (m.ths i).at_ = 82 := by simp [fnOf, hk, e]
      rw [hfn]
      have hdo : m.does i = if 0 ≤ m.hol then none else some ({ m with hol := i }.goes i 3) := by unfold M.does; rw [hl, if_pos e]; rfl
      rw [hdo]
      by_cases hf : 0 ≤ m.hol
      · rw [if_pos hf]; exact q_l2_no h ht ho hk e hf
      · rw [if_neg hf]; exact q_l2 h hI ht ho hk e (Int.not_le.1 hf)
    · have hne : ¬ (m.ths i).at_ = 2 := by omega
      rw [hd hne]
      rcases e with e | e | e | e | e | e | e | e | e
      · have hfn : fnOf (m.ths i).kind (m.ths i).at_ = 68 := by simp [fnOf, hk, e]
        rw [hfn]; exact q_l1 h hI ht ho hk e
      · have hfn : fnOf (m.ths i).kind (m.ths i).at_ = 88 := by simp [fnOf, hk, e]
        rw [hfn]; exact q_l3 h hI ht ho hk e
      · have hfn : fnOf (m.ths i).kind (m.ths i).at_ = 93 := by simp [fnOf, hk, e]
        rw [hfn]; exact q_l4 h hI ht ho hk e
      · have hfn : fnOf (m.ths i).kind (m.ths i).at_ = 99 := by simp [fnOf, hk, e]
        rw [hfn]; exact q_l5 h hI ht ho hk e
      · have hfn : fnOf (m.ths i).kind (m.ths i).at_ = 92 := by simp [fnOf, hk, e]
        rw [hfn]; exact q_l6 h hI ht ho hk e
      · have hfn : fnOf (m.ths i).kind (m.ths i).at_ = 80 := by simp [fnOf, hk, e]
        rw [hfn]; exact q_l7 h hI ht ho hk e
      · have hfn : fnOf (m.ths i).kind (m.ths i).at_ = 104 := by simp [fnOf, hk, e]
        rw [hfn]; exact q_l51 h hI ht ho hk e
      · have hfn : fnOf (m.ths i).kind (m.ths i).at_ = 112 := by simp [fnOf, hk, e]
        rw [hfn]; exact q_l52 h hI ht ho hk e
      · have hfn : fnOf (m.ths i).kind (m.ths i).at_ = 116 := by simp [fnOf, hk, e]
        rw [hfn]; exact q_l53 h hI ht ho hk e
  · have ha : (m.ths i).at_ = 4 ∨ (m.ths i).at_ = 1 ∨ (m.ths i).at_ = 2 ∨ (m.ths i).at_ = 3 ∨ (m.ths i).at_ = 5 ∨ (m.ths i).at_ = 6 ∨ (m.ths i).at_ = 7 ∨ (m.ths i).at_ = 8 ∨ (m.ths i).at_ = 9 ∨ (m.ths i).at_ = 10 ∨ (m.ths i).at_ = 11 ∨ (m.ths i).at_ = 12 ∨ (m.ths i).at_ = 13 ∨ (m.ths i).at_ = 14 := by
      have : 1 ≤ (m.ths i).at_ ∧ (m.ths i).at_ ≤ 14 := by simpa [AtOk, hk] using hak
      omega
    have hl : m.lockAt i = 4 := by simp [M.lockAt, hk]
    have hd : ¬ (m.ths i).at_ = 4 → m.does i = some (m.store i) := fun e => by unfold M.does; rw [hl, if_neg e, if_neg (by omega), if_pos hk]
    rcases ha with e | e
    · have hfn : fnOf (m.ths i).kind (m.ths i).at_ = 83 := by simp [fnOf, hk, e]
      rw [hfn]
      have hdo : m.does i = if 0 ≤ m.hol then none else some ({ m with hol := i }.goes i 5) := by unfold M.does; rw [hl, if_pos e]; rfl
      rw [hdo]
      by_cases hf : 0 ≤ m.hol
      · rw [if_pos hf]; exact q_s4_no h ht ho hk e hf
      · rw [if_neg hf]; exact q_s4 h hI ht ho hk e (Int.not_le.1 hf)
    · have hne : ¬ (m.ths i).at_ = 4 := by omega
      rw [hd hne]
      rcases e with e | e | e | e | e | e | e | e | e | e | e | e | e
      · have hfn : fnOf (m.ths i).kind (m.ths i).at_ = 69 := by simp [fnOf, hk, e]
        rw [hfn]; exact q_s1 h hI ht ho hk e
      · have hfn : fnOf (m.ths i).kind (m.ths i).at_ = 84 := by simp [fnOf, hk, e]
        rw [hfn]; exact q_s2 h hI ht ho hk e
      · have hfn : fnOf (m.ths i).kind (m.ths i).at_ = 90 := by simp [fnOf, hk, e]
        rw [hfn]; exact q_s3 h hI ht ho hk e
      · have hfn : fnOf (m.ths i).kind (m.ths i).at_ = 89 := by simp [fnOf, hk, e]
        rw [hfn]; exact q_s5 h hI ht ho hk e
      · have hfn : fnOf (m.ths i).kind (m.ths i).at_ = 95 := by simp [fnOf, hk, e]
        rw [hfn]; exact q_s6 h hI ht ho hk e
      · have hfn : fnOf (m.ths i).kind (m.ths i).at_ = 103 := by simp [fnOf, hk, e]
        rw [hfn]; exact q_s7 h hI ht ho hk e
      · have hfn : fnOf (m.ths i).kind (m.ths i).at_ = 94 := by simp [fnOf, hk, e]
        rw [hfn]; exact q_s8 h hI ht ho hk e
      · have hfn : fnOf (m.ths i).kind (m.ths i).at_ = 102 := by simp [fnOf, hk, e]
        rw [hfn]; exact q_s9 h hI ht ho hk e
      · have hfn : fnOf (m.ths i).kind (m.ths i).at_ = 115 := by simp [fnOf, hk, e]
        rw [hfn]; exact q_s10 h hI ht ho hk e
      · have hfn : fnOf (m.ths i).kind (m.ths i).at_ = 114 := by simp [fnOf, hk, e]
        rw [hfn]; exact q_s11 h hI ht ho hk e
      · have hfn : fnOf (m.ths i).kind (m.ths i).at_ = 101 := by simp [fnOf, hk, e]
        rw [hfn]; exact q_s12 h hI ht ho hk e
      · have hfn : fnOf (m.ths i).kind (m.ths i).at_ = 100 := by simp [fnOf, hk, e]
        rw [hfn]; exact q_s13 h hI ht ho hk e
      · have hfn : fnOf (m.ths i).kind (m.ths i).at_ = 106 := by simp [fnOf, hk, e]
        rw [hfn]; exact q_s14 h hI ht ho hk e
end Go.Proofs.YtfgfpggjcfhccaaGreat
