import Derived.Test.YtfgfpggjcfhccaaGreatRn
namespace Go.Proofs.YtfgfpggjcfhccaaGreat
open Go.RowKit
set_option maxHeartbeats 800000 in
theorem open_no (n : Int) (w : World) (h : n < 1 ∨ 6 < n) : Calls Tryz.prog 6 #[.int .i64 n] w fun e w' => e = .returned (.tuple #[.pointer none, .bool true]) ∧ w' = w := by
  go_enter Tryz.func6, Tryz.ntmps6
  go_wp2_with fail
  refine (new_no n w h).mono ?_
  rintro e w' ⟨rfl, rfl⟩
  go_wp2_with fail
  refine (rnew_no n w' h).mono ?_
  rintro e w' ⟨rfl, rfl⟩
  clear h
  go_wp2
  go_ret2
  exact ⟨rfl, rfl⟩
set_option maxHeartbeats 800000 in
theorem open_yes (n : Nat) (w : World) (h1 : 1 ≤ n) (h6 : n ≤ 6) : Calls Tryz.prog 6 #[.int .i64 n] w fun e w' => ∃ b p q, e = .returned (.tuple #[.pointer (some ⟨b, 0, none⟩), .bool true]) ∧
    p.ts.length = n ∧ Two b p q w' false (fun _ => none) ∧ Kept [] w w' ∧ w.heap.size ≤ b ∧ (∀ x, x ∈ p.m :: p.c :: q.r :: q.tb :: p.ts → w.heap.size ≤ x) := by
  go_enter Tryz.func6, Tryz.ntmps6
  go_wp2_with fail
  refine (new_yes n w h1 h6).mono ?_
  rintro e w1 ⟨p, rfl, hl, hp, hz, hzc, hnew, k1⟩
  go_wp2_with fail
  refine (rnew_yes n w1 h1 h6).mono ?_
  rintro e w2 ⟨q, rfl, hq, hr, hzq, hzr, k2⟩
  have hp2 := hp.keptNil k2
  have k3 := k1.trans k2
  have hfresh : ∀ x, x ∈ p.m :: p.c :: q.r :: q.tb :: p.ts → w.heap.size ≤ x := by
    intro x hx
    have := k1.size
    simp only [List.mem_cons] at hx
    rcases hx with rfl | rfl | rfl | rfl | hx
    · exact hz
    · exact hzc
    · omega
    · omega
    · exact hnew x hx
  have HH : Hid _ := And.intro hl (And.intro hq hfresh)
  clear hl hq hfresh hnew hz hzq hzc hzr
  go_wp2
  go_ret2
  obtain ⟨hl, hq, hfresh⟩ := HH.out
  exact ⟨_, p, q, rfl, hl, ⟨hq.trans hl.symm, block_alloc_new _ _, hp2.alloc _, hr.alloc _⟩, k3.alloc _, k3.size, hfresh⟩
set_option maxRecDepth 100000 in
set_option maxHeartbeats 2000000 in
theorem opened_no (n : Int) (w : World) (h : n < 1 ∨ 6 < n) : Calls Tryz.prog 3 #[.int .i64 n] w fun e w' => e = .returned (.bool true) ∧ Kept [] w w' := by
  go_enter Tryz.func3, Tryz.ntmps3
  go_wp2_with fail
  refine (open_yes 2 w (by omega) (by omega)).mono ?_
  rintro e w1 ⟨b, p, q, rfl, -, -, k1, -, -⟩
  go_wp2_with fail
  refine (open_no n w1 h).mono ?_
  rintro e w2 ⟨rfl, rfl⟩
  clear h
  go_wp2
  go_ret
  exact ⟨rfl, k1⟩
set_option maxRecDepth 100000 in
set_option maxHeartbeats 2000000 in
theorem opened_yes (n : Nat) (w : World) (h1 : 1 ≤ n) (h6 : n ≤ 6) : Calls Tryz.prog 3 #[.int .i64 n] w fun e w' => e = .returned (.bool true) ∧ Kept [] w w' := by
  go_enter Tryz.func3, Tryz.ntmps3
  go_wp2_with fail
  refine (open_yes 2 w (by omega) (by omega)).mono ?_
  rintro e w1 ⟨b, p, q, rfl, -, -, k1, -, -⟩
  go_wp2_with fail
  refine (open_yes n w1 h1 h6).mono ?_
  rintro e w2 ⟨b, p, q, rfl, -, hT, k2, hzb, hzp⟩
  go_wp2_with fail
  refine (seen_any b p q false w2 _ hT).mono ?_
  rintro e w3 ⟨b1, b2, rfl, -, -, -, -, hT3, k3⟩
  have hf : ∀ x, x ∈ p.m :: q.tb :: p.ts → w.heap.size ≤ x := fun x hx => Nat.le_trans k1.size (hzp x (by simp only [List.mem_cons] at hx ⊢; rcases hx with hx | hx | hx; exact .inl hx; exact .inr (.inr (.inr (.inl hx))); exact .inr (.inr (.inr (.inr hx)))))
  have K0 : Kept [] w w3 := (k1.trans k2).drop k3 (fun x hx hlt => by have := hf p.m (by simp); simp at hx; omega)
  have HF : Hid _ := hf
  clear k1 k2 k3 hT hf hzp hzb
  go_wp2_with fail
  go_loopw [4, 6] (fun ok x W => ∃ k : Nat, k ≤ 9 ∧ x = .int .i64 ((k : Int) - 1) ∧ ok = .bool true ∧ ∃ th, KeysOk th ∧ Two b p q W false th ∧ Kept [] w W) (fun _ x _ => (8 - intOf x).toNat)
  case atStart => exact ⟨0, by omega, rfl, rfl, fun _ => none, (fun i k v o hh => by cases hh), hT3, K0⟩
  case round =>
    obtain ⟨k, hk, rfl, rfl, th, hth, hT, hK⟩ := hrel
    clear hT3 K0
    by_cases hlt : k < 9
    · have hlt' : (k : Int) - 1 < 8 := by omega
      have hlo : -1 ≤ (k : Int) - 1 := by omega
      go_wp2_with fail
      refine (does_step b p q false 0 ((k : Int) - 1) 0 0 0 0 _ th hT hth).mono ?_
      rintro e w4 ⟨rfl, hT4, k4⟩
      have K4 : Kept [] w w4 := hK.drop k4 (fun x hx hlt => by have := HF.out x hx; omega)
      clear hT hK k4
      go_wp2
      go_roundw
      case rel => exact ⟨k + 1, by omega, by go_num, rfl, _, keys_stepT hth, hT4, K4⟩
      case measure => simp [intOf]; omega
    · have hge : ¬ (k : Int) - 1 < 8 := by omega
      go_wp2
      go_ret
      exact ⟨rfl, hK⟩
end Go.Proofs.YtfgfpggjcfhccaaGreat
