import Derived.Test.YtfgfpggjcfhccaaGreatMe
namespace Go.Proofs.YtfgfpggjcfhccaaGreat
open Go.RowKit
/-- How many of a table's first n keys it has. -/
def cnt (f : Nat → Int) : Nat → Nat
  | 0 => 0
  | n + 1 => cnt f n + if 0 ≤ f n then 1 else 0
theorem cnt_le (f : Nat → Int) (n : Nat) : cnt f n ≤ n := by
  induction n with
  | zero => simp [cnt]
  | succ n ih => simp only [cnt]; split <;> omega
theorem row8_at (f : Nat → Int) {k : Nat} (hk : k < 8) : #[Value.int .i64 (f 0), .int .i64 (f 1), .int .i64 (f 2), .int .i64 (f 3), .int .i64 (f 4), .int .i64 (f 5), .int .i64 (f 6), .int .i64 (f 7)][k]? = some (.int .i64 (f k)) := by
  match k, hk with
  | 0, _ | 1, _ | 2, _ | 3, _ | 4, _ | 5, _ | 6, _ | 7, _ => rfl
set_option maxRecDepth 100000 in
set_option maxHeartbeats 800000 in
theorem m_keys (f : Nat → Int) (w : World) : Calls Tryz.prog 71 #[.agg #[.int .i64 (f 0), .int .i64 (f 1), .int .i64 (f 2), .int .i64 (f 3), .int .i64 (f 4), .int .i64 (f 5), .int .i64 (f 6), .int .i64 (f 7)]] w fun e w' => e = .returned (.int .i64 (cnt f 8)) ∧ Kept [] w w' := by
  have hb := block_alloc_new w (.cells #[.int .i64 (f 0), .int .i64 (f 1), .int .i64 (f 2), .int .i64 (f 3), .int .i64 (f 4), .int .i64 (f 5), .int .i64 (f 6), .int .i64 (f 7)] 56)
  have hc : ∀ k, k < 8 → (w.alloc (.cells #[.int .i64 (f 0), .int .i64 (f 1), .int .i64 (f 2), .int .i64 (f 3), .int .i64 (f 4), .int .i64 (f 5), .int .i64 (f 6), .int .i64 (f 7)] 56)).cell? ⟨w.heap.size, k, none⟩ = some (.int .i64 (f k)) := fun k hk => by rw [cell_of hb]; exact row8_at f hk
  have HC : Hid _ := hc
  clear hb hc
  go_enter Tryz.func71, Tryz.ntmps71
  go_wp2
  go_loop [3, 4] (fun n i => ∃ k : Nat, k ≤ 8 ∧ i = .int .i64 k ∧ n = .int .i64 (cnt f k)) (fun _ i => 8 - (intOf i).toNat)
  case atStart => exact ⟨0, by omega, rfl, rfl⟩
  case round =>
    obtain ⟨k, hk, rfl, rfl⟩ := hrel
    by_cases hlt : k < 8
    · have hck := HC.out k hlt
      have hkt : ((k : Int)).toNat = k := by simp
      have hle := cnt_le f k
      by_cases hf : 0 ≤ f k
      · go_wp2
        go_round
        case rel => exact ⟨k + 1, by omega, by go_num, by simp only [cnt, if_pos hf]; go_num⟩
        case measure => simp [intOf]; omega
      · go_wp2
        go_round
        case rel => exact ⟨k + 1, by omega, by go_num, by simp only [cnt, if_neg hf]; go_num⟩
        case measure => simp [intOf]; omega
    · obtain rfl : k = 8 := by omega
      go_wp2
      go_ret
      exact ⟨rfl, (Kept.refl [] w).alloc _⟩
end Go.Proofs.YtfgfpggjcfhccaaGreat
