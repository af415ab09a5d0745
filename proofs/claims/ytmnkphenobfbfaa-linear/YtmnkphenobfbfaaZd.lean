import Derived.Test.YtmnkphenobfbfaaYa
namespace Go.Proofs.Ytmnkphenobfbfaa
open Go.RowKit
set_option maxRecDepth 100000 in
set_option maxHeartbeats 1600000 in
theorem d_yes0 (x0 x1 x2 x3 x4 x5 x6 x7 val : Int) (w : World) : Calls Try.prog 18 #[.agg #[.int .i64 x0, .int .i64 x1, .int .i64 x2, .int .i64 x3, .int .i64 x4, .int .i64 x5, .int .i64 x6, .int .i64 x7], .agg #[.int .i64 3, .int .i64 0, .int .i64 val, .int .i64 x0]] w fun e w' => e = .returned (.tuple #[.agg #[.int .i64 val, .int .i64 x1, .int .i64 x2, .int .i64 x3, .int .i64 x4, .int .i64 x5, .int .i64 x6, .int .i64 x7], .agg #[.bool true, .bool (decide (0 < x0)), .int .i64 x0]]) ∧ Kept [] w w' := by
  go_enter Try.func18, Try.ntmps18
  go_wp2
  go_region
  all_goals go_wp2
  all_goals refine bodyPost_ret (v := .tuple #[.agg #[.int .i64 val, .int .i64 x1, .int .i64 x2, .int .i64 x3, .int .i64 x4, .int .i64 x5, .int .i64 x6, .int .i64 x7], .agg #[.bool true, .bool (decide (0 < x0)), .int .i64 x0]]) (by simp [results, Try.results18, go_sem]) rfl ⟨rfl, ?_⟩
  all_goals
    repeat (first | with_reducible exact Kept.refl _ _ | with_reducible refine Kept.drew ?_ | with_reducible refine Kept.drewN ?_ _ | with_reducible refine Kept.alloc ?_ _ | with_reducible refine Kept.setAt ?_ (.inr (by omega)) _ _)
set_option maxRecDepth 100000 in
set_option maxHeartbeats 1600000 in
theorem d_yes1 (x0 x1 x2 x3 x4 x5 x6 x7 val : Int) (w : World) : Calls Try.prog 18 #[.agg #[.int .i64 x0, .int .i64 x1, .int .i64 x2, .int .i64 x3, .int .i64 x4, .int .i64 x5, .int .i64 x6, .int .i64 x7], .agg #[.int .i64 3, .int .i64 1, .int .i64 val, .int .i64 x1]] w fun e w' => e = .returned (.tuple #[.agg #[.int .i64 x0, .int .i64 val, .int .i64 x2, .int .i64 x3, .int .i64 x4, .int .i64 x5, .int .i64 x6, .int .i64 x7], .agg #[.bool true, .bool (decide (0 < x1)), .int .i64 x1]]) ∧ Kept [] w w' := by
  go_enter Try.func18, Try.ntmps18
  go_wp2
  go_region
  all_goals go_wp2
  all_goals refine bodyPost_ret (v := .tuple #[.agg #[.int .i64 x0, .int .i64 val, .int .i64 x2, .int .i64 x3, .int .i64 x4, .int .i64 x5, .int .i64 x6, .int .i64 x7], .agg #[.bool true, .bool (decide (0 < x1)), .int .i64 x1]]) (by simp [results, Try.results18, go_sem]) rfl ⟨rfl, ?_⟩
  all_goals
    repeat (first | with_reducible exact Kept.refl _ _ | with_reducible refine Kept.drew ?_ | with_reducible refine Kept.drewN ?_ _ | with_reducible refine Kept.alloc ?_ _ | with_reducible refine Kept.setAt ?_ (.inr (by omega)) _ _)
set_option maxRecDepth 100000 in
set_option maxHeartbeats 1600000 in
theorem d_yes2 (x0 x1 x2 x3 x4 x5 x6 x7 val : Int) (w : World) : Calls Try.prog 18 #[.agg #[.int .i64 x0, .int .i64 x1, .int .i64 x2, .int .i64 x3, .int .i64 x4, .int .i64 x5, .int .i64 x6, .int .i64 x7], .agg #[.int .i64 3, .int .i64 2, .int .i64 val, .int .i64 x2]] w fun e w' => e = .returned (.tuple #[.agg #[.int .i64 x0, .int .i64 x1, .int .i64 val, .int .i64 x3, .int .i64 x4, .int .i64 x5, .int .i64 x6, .int .i64 x7], .agg #[.bool true, .bool (decide (0 < x2)), .int .i64 x2]]) ∧ Kept [] w w' := by
  go_enter Try.func18, Try.ntmps18
  go_wp2
  go_region
  all_goals go_wp2
  all_goals refine bodyPost_ret (v := .tuple #[.agg #[.int .i64 x0, .int .i64 x1, .int .i64 val, .int .i64 x3, .int .i64 x4, .int .i64 x5, .int .i64 x6, .int .i64 x7], .agg #[.bool true, .bool (decide (0 < x2)), .int .i64 x2]]) (by simp [results, Try.results18, go_sem]) rfl ⟨rfl, ?_⟩
  all_goals
    repeat (first | with_reducible exact Kept.refl _ _ | with_reducible refine Kept.drew ?_ | with_reducible refine Kept.drewN ?_ _ | with_reducible refine Kept.alloc ?_ _ | with_reducible refine Kept.setAt ?_ (.inr (by omega)) _ _)
set_option maxRecDepth 100000 in
set_option maxHeartbeats 1600000 in
theorem d_yes3 (x0 x1 x2 x3 x4 x5 x6 x7 val : Int) (w : World) : Calls Try.prog 18 #[.agg #[.int .i64 x0, .int .i64 x1, .int .i64 x2, .int .i64 x3, .int .i64 x4, .int .i64 x5, .int .i64 x6, .int .i64 x7], .agg #[.int .i64 3, .int .i64 3, .int .i64 val, .int .i64 x3]] w fun e w' => e = .returned (.tuple #[.agg #[.int .i64 x0, .int .i64 x1, .int .i64 x2, .int .i64 val, .int .i64 x4, .int .i64 x5, .int .i64 x6, .int .i64 x7], .agg #[.bool true, .bool (decide (0 < x3)), .int .i64 x3]]) ∧ Kept [] w w' := by
  go_enter Try.func18, Try.ntmps18
  go_wp2
  go_region
  all_goals go_wp2
  all_goals refine bodyPost_ret (v := .tuple #[.agg #[.int .i64 x0, .int .i64 x1, .int .i64 x2, .int .i64 val, .int .i64 x4, .int .i64 x5, .int .i64 x6, .int .i64 x7], .agg #[.bool true, .bool (decide (0 < x3)), .int .i64 x3]]) (by simp [results, Try.results18, go_sem]) rfl ⟨rfl, ?_⟩
  all_goals
    repeat (first | with_reducible exact Kept.refl _ _ | with_reducible refine Kept.drew ?_ | with_reducible refine Kept.drewN ?_ _ | with_reducible refine Kept.alloc ?_ _ | with_reducible refine Kept.setAt ?_ (.inr (by omega)) _ _)
set_option maxRecDepth 100000 in
set_option maxHeartbeats 1600000 in
theorem d_yes4 (x0 x1 x2 x3 x4 x5 x6 x7 val : Int) (w : World) : Calls Try.prog 18 #[.agg #[.int .i64 x0, .int .i64 x1, .int .i64 x2, .int .i64 x3, .int .i64 x4, .int .i64 x5, .int .i64 x6, .int .i64 x7], .agg #[.int .i64 3, .int .i64 4, .int .i64 val, .int .i64 x4]] w fun e w' => e = .returned (.tuple #[.agg #[.int .i64 x0, .int .i64 x1, .int .i64 x2, .int .i64 x3, .int .i64 val, .int .i64 x5, .int .i64 x6, .int .i64 x7], .agg #[.bool true, .bool (decide (0 < x4)), .int .i64 x4]]) ∧ Kept [] w w' := by
  go_enter Try.func18, Try.ntmps18
  go_wp2
  go_region
  all_goals go_wp2
  all_goals refine bodyPost_ret (v := .tuple #[.agg #[.int .i64 x0, .int .i64 x1, .int .i64 x2, .int .i64 x3, .int .i64 val, .int .i64 x5, .int .i64 x6, .int .i64 x7], .agg #[.bool true, .bool (decide (0 < x4)), .int .i64 x4]]) (by simp [results, Try.results18, go_sem]) rfl ⟨rfl, ?_⟩
  all_goals
    repeat (first | with_reducible exact Kept.refl _ _ | with_reducible refine Kept.drew ?_ | with_reducible refine Kept.drewN ?_ _ | with_reducible refine Kept.alloc ?_ _ | with_reducible refine Kept.setAt ?_ (.inr (by omega)) _ _)
set_option maxRecDepth 100000 in
set_option maxHeartbeats 1600000 in
theorem d_yes5 (x0 x1 x2 x3 x4 x5 x6 x7 val : Int) (w : World) : Calls Try.prog 18 #[.agg #[.int .i64 x0, .int .i64 x1, .int .i64 x2, .int .i64 x3, .int .i64 x4, .int .i64 x5, .int .i64 x6, .int .i64 x7], .agg #[.int .i64 3, .int .i64 5, .int .i64 val, .int .i64 x5]] w fun e w' => e = .returned (.tuple #[.agg #[.int .i64 x0, .int .i64 x1, .int .i64 x2, .int .i64 x3, .int .i64 x4, .int .i64 val, .int .i64 x6, .int .i64 x7], .agg #[.bool true, .bool (decide (0 < x5)), .int .i64 x5]]) ∧ Kept [] w w' := by
  go_enter Try.func18, Try.ntmps18
  go_wp2
  go_region
  all_goals go_wp2
  all_goals refine bodyPost_ret (v := .tuple #[.agg #[.int .i64 x0, .int .i64 x1, .int .i64 x2, .int .i64 x3, .int .i64 x4, .int .i64 val, .int .i64 x6, .int .i64 x7], .agg #[.bool true, .bool (decide (0 < x5)), .int .i64 x5]]) (by simp [results, Try.results18, go_sem]) rfl ⟨rfl, ?_⟩
  all_goals
    repeat (first | with_reducible exact Kept.refl _ _ | with_reducible refine Kept.drew ?_ | with_reducible refine Kept.drewN ?_ _ | with_reducible refine Kept.alloc ?_ _ | with_reducible refine Kept.setAt ?_ (.inr (by omega)) _ _)
set_option maxRecDepth 100000 in
set_option maxHeartbeats 1600000 in
theorem d_yes6 (x0 x1 x2 x3 x4 x5 x6 x7 val : Int) (w : World) : Calls Try.prog 18 #[.agg #[.int .i64 x0, .int .i64 x1, .int .i64 x2, .int .i64 x3, .int .i64 x4, .int .i64 x5, .int .i64 x6, .int .i64 x7], .agg #[.int .i64 3, .int .i64 6, .int .i64 val, .int .i64 x6]] w fun e w' => e = .returned (.tuple #[.agg #[.int .i64 x0, .int .i64 x1, .int .i64 x2, .int .i64 x3, .int .i64 x4, .int .i64 x5, .int .i64 val, .int .i64 x7], .agg #[.bool true, .bool (decide (0 < x6)), .int .i64 x6]]) ∧ Kept [] w w' := by
  go_enter Try.func18, Try.ntmps18
  go_wp2
  go_region
  all_goals go_wp2
  all_goals refine bodyPost_ret (v := .tuple #[.agg #[.int .i64 x0, .int .i64 x1, .int .i64 x2, .int .i64 x3, .int .i64 x4, .int .i64 x5, .int .i64 val, .int .i64 x7], .agg #[.bool true, .bool (decide (0 < x6)), .int .i64 x6]]) (by simp [results, Try.results18, go_sem]) rfl ⟨rfl, ?_⟩
  all_goals
    repeat (first | with_reducible exact Kept.refl _ _ | with_reducible refine Kept.drew ?_ | with_reducible refine Kept.drewN ?_ _ | with_reducible refine Kept.alloc ?_ _ | with_reducible refine Kept.setAt ?_ (.inr (by omega)) _ _)
set_option maxRecDepth 100000 in
set_option maxHeartbeats 1600000 in
theorem d_yes7 (x0 x1 x2 x3 x4 x5 x6 x7 val : Int) (w : World) : Calls Try.prog 18 #[.agg #[.int .i64 x0, .int .i64 x1, .int .i64 x2, .int .i64 x3, .int .i64 x4, .int .i64 x5, .int .i64 x6, .int .i64 x7], .agg #[.int .i64 3, .int .i64 7, .int .i64 val, .int .i64 x7]] w fun e w' => e = .returned (.tuple #[.agg #[.int .i64 x0, .int .i64 x1, .int .i64 x2, .int .i64 x3, .int .i64 x4, .int .i64 x5, .int .i64 x6, .int .i64 val], .agg #[.bool true, .bool (decide (0 < x7)), .int .i64 x7]]) ∧ Kept [] w w' := by
  go_enter Try.func18, Try.ntmps18
  go_wp2
  go_region
  all_goals go_wp2
  all_goals refine bodyPost_ret (v := .tuple #[.agg #[.int .i64 x0, .int .i64 x1, .int .i64 x2, .int .i64 x3, .int .i64 x4, .int .i64 x5, .int .i64 x6, .int .i64 val], .agg #[.bool true, .bool (decide (0 < x7)), .int .i64 x7]]) (by simp [results, Try.results18, go_sem]) rfl ⟨rfl, ?_⟩
  all_goals
    repeat (first | with_reducible exact Kept.refl _ _ | with_reducible refine Kept.drew ?_ | with_reducible refine Kept.drewN ?_ _ | with_reducible refine Kept.alloc ?_ _ | with_reducible refine Kept.setAt ?_ (.inr (by omega)) _ _)
end Go.Proofs.Ytmnkphenobfbfaa
