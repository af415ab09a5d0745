import Derived.Test.YtfgfpggjcfhccaaGreatDo
import Derived.FnLit
namespace Go.Proofs.YtfgfpggjcfhccaaGreat
open Go.RowKit Go.MuLone
def opVal (kind key v o : Int) : Value := .agg #[.int .i64 kind, .int .i64 key, .int .i64 v, .int .i64 o]
set_option maxRecDepth 100000 in
set_option maxHeartbeats 800000 in
theorem mayBe_yes (key v o : Int) (w : World) (h0 : 0 ≤ key) (h7 : key < 8) : Calls Tryz.prog 31 #[.agg #[.int .i64 0, .int .i64 key, .int .i64 v, .int .i64 o]] w fun e w' => e = .returned (.bool true) ∧ Kept [] w w' := by
  have h0' : ¬ key < 0 := by omega
  have h7' : ¬ 8 ≤ key := by omega
  go_enter Tryz.func31, Tryz.ntmps31
  go_wp2
  go_ret
  exact ⟨rfl, (Kept.refl [] w).alloc _⟩
set_option maxRecDepth 100000 in
set_option maxHeartbeats 800000 in
theorem mayBe_no (kind key v o : Int) (w : World) (hk : kind ≤ 0) (h : kind < 0 ∨ key < 0 ∨ 8 ≤ key) : Calls Tryz.prog 31 #[.agg #[.int .i64 kind, .int .i64 key, .int .i64 v, .int .i64 o]] w fun e w' => e = .returned (.bool false) ∧ Kept [] w w' := by
  by_cases h0 : key < 0
  · clear h
    go_enter Tryz.func31, Tryz.ntmps31
    go_wp2
    go_ret
    exact ⟨rfl, (Kept.refl [] w).alloc _⟩
  · by_cases h8 : 8 ≤ key
    · clear h
      go_enter Tryz.func31, Tryz.ntmps31
      go_wp2
      go_ret
      exact ⟨rfl, (Kept.refl [] w).alloc _⟩
    · have hk0 : kind < 0 := by omega
      have e0 : (kind == 0) = false := beq_eq_false_iff_ne.2 (by omega)
      have e1 : (kind == 1) = false := beq_eq_false_iff_ne.2 (by omega)
      have e2 : (kind == 2) = false := beq_eq_false_iff_ne.2 (by omega)
      have e3 : (kind == 3) = false := beq_eq_false_iff_ne.2 (by omega)
      clear h
      go_enter Tryz.func31, Tryz.ntmps31
      go_wp2
      go_ret
      exact ⟨rfl, (Kept.refl [] w).alloc _⟩
set_option maxRecDepth 100000 in
set_option maxHeartbeats 800000 in
theorem tbegin (i s t : Nat) (key v o : Int) (w : World) (h : w.heap[t]? = some (.cells (thCells i s t none) 116 (0, 0))) :
    Calls Tryz.prog 33 #[.pointer (some ⟨t, 0, none⟩), .agg #[.int .i64 0, .int .i64 key, .int .i64 v, .int .i64 o]] w fun e w' => e = .returned (.tuple #[]) ∧ w'.heap[t]? = some (.cells (thCells i s t (some (key, v, o))) 116 (0, 0)) ∧ Kept [t] w w' := by
  have hs := lt_of_block h
  have hc : ∀ o', w.cell? ⟨t, o', none⟩ = (thCells i s t none)[o']? := cell_of h
  have hf : ∀ o, w.frozen? ⟨t, o, none⟩ = false := frozen_of h
  have hmf : ∀ (fn : Fn) (first cap : Array Value) (w : World), (Instr.makeFunc fn first cap).run Tryz.prog w = .ok (.func fn first cap) w := fun _ _ _ _ => rfl
  simp only [thCells] at hc
  go_enter Tryz.func33, Tryz.ntmps33
  go_wp2
  go_end0
  refine ⟨rfl, ?_, ?_⟩
  · refine block_alloc_lt ((block_set_same (block_set_same (block_set_same (block_set_same (block_set_same h _ _) _ _) _ _) _ _) _ _).trans ?_) _
    simp [thCells]
  · exact ((((((Kept.refl _ w).setCell (.inl (by simp)) _).setCell (.inl (by simp)) _).setCell (.inl (by simp)) _).setCell (.inl (by simp)) _).setCell (.inl (by simp)) _).alloc _
end Go.Proofs.YtfgfpggjcfhccaaGreat
