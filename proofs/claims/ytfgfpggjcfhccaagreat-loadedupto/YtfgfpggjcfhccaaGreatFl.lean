import Derived.Test.YtfgfpggjcfhccaaGreatDb
namespace Go.Proofs.YtfgfpggjcfhccaaGreat
open Go.RowKit
/-- n entries with the mark m. -/
def marks (m : Int) : Nat → List Value
  | 0 => []
  | n + 1 => .int .i64 m :: .int .i64 0 :: .int .i64 0 :: marks m n
theorem marks_length (m : Int) (n : Nat) : (marks m n).length = n * 3 := by
  induction n with
  | zero => rfl
  | succ n ih => simp [marks, ih]; omega
theorem marks_add (m : Int) (n k : Nat) : marks m n ++ marks m k = marks m (n + k) := by
  induction n with
  | zero => simp [marks]
  | succ n ih => rw [Nat.add_right_comm]; simp [marks, ih]
theorem marks_at (m : Int) (n i : Nat) (h : i < n) : (marks m n)[i * 3]? = some (.int .i64 m) ∧ (marks m n)[i * 3 + 1]? = some (.int .i64 0) ∧ (marks m n)[i * 3 + 2]? = some (.int .i64 0) := by
  induction n generalizing i with
  | zero => omega
  | succ n ih =>
    cases i with
    | zero => simp [marks]
    | succ i =>
      have := ih i (by omega)
      have e : (i + 1) * 3 = i * 3 + 3 := by omega
      simpa [marks, e] using this
/-- A list that its owner has written full with the mark m. -/
structure Good (w : World) (x : Value) (m : Int) : Prop where
  good : ∃ (g n cap : Nat) (cs : Array Value), x = .slice (some ⟨g, 0, none⟩) n cap ∧ n ≤ 1000 ∧ w.heap[g]? = some (.cells cs 84 (0, 0)) ∧ cs.toList.take (n * 3) = marks m n
theorem Good.kept {F : List Nat} {w w' : World} {x : Value} {m : Int} (h : Good w x m) (k : Kept F w w') (hF : ∀ y, y ∈ F → ∀ cs, w.heap[y]? ≠ some (.cells cs 84 (0, 0))) : Good w' x m := by
  obtain ⟨g, n, cap, cs, h1, h2, h3, h4⟩ := h.good
  exact ⟨g, n, cap, cs, h1, h2, k.at h3 (fun hm => hF g hm cs h3), h4⟩
set_option maxRecDepth 100000 in
set_option maxHeartbeats 1600000 in
theorem full_yes (x : Value) (m : Int) (w : World) (h : Good w x m) : Calls Tryz.prog 41 #[x, .int .i64 m] w fun e w' => e = .returned (.bool true) ∧ w' = w := by
  obtain ⟨g, n, cap, cs, rfl, hn, hb, hm⟩ := h.good
  have cell : ∀ i, i < n → w.cell? ⟨g, i * 3, none⟩ = some (.int .i64 m) ∧ w.cell? ⟨g, i * 3 + 1, none⟩ = some (.int .i64 0) ∧ w.cell? ⟨g, i * 3 + 2, none⟩ = some (.int .i64 0) := by
    intro i hi
    have hat := marks_at m n i hi
    rw [← hm] at hat
    simp only [List.getElem?_take, Array.getElem?_toList] at hat
    rw [if_pos (by omega), if_pos (by omega), if_pos (by omega)] at hat
    rw [cell_of hb, cell_of hb, cell_of hb]
    exact hat
  have HC : Hid _ := cell
  clear cell hm h hb
  go_enter Tryz.func41, Tryz.ntmps41
  go_wp2
  go_loop [5] (fun i => ∃ k : Nat, k ≤ n ∧ i = .int .i64 k) (fun i => n - (intOf i).toNat)
  case atStart => exact ⟨0, by omega, rfl⟩
  case round =>
    obtain ⟨k, hk, rfl⟩ := hrel
    by_cases hlt : k < n
    · obtain ⟨c0, c1, c2⟩ := HC.out k hlt
      have hlt' : (k : Int) < n := by omega
      go_wp2
      go_round
      case rel => exact ⟨k + 1, by omega, by go_num⟩
      case measure => simp [intOf]; omega
    · go_wp2
      go_ret
      exact ⟨rfl, rfl⟩
set_option maxHeartbeats 400000 in
theorem pick_one (c : Int) (w : World) : Calls Tryz.prog 39 #[.int .i64 c, .int .i64 1] w fun e w' => e = .returned (.int .i64 0) ∧ w' = w := by
  by_cases h : c < 0
  · go_enter Tryz.func39, Tryz.ntmps39
    go_wp2
    go_ret
    exact ⟨by simp, rfl⟩
  · go_enter Tryz.func39, Tryz.ntmps39
    go_wp2
    go_ret
    exact ⟨by simp, rfl⟩
end Go.Proofs.YtfgfpggjcfhccaaGreat
