import Derived.Test.YtmnkphenobfbfaaYa
namespace Go.Proofs.Ytmnkphenobfbfaa
open Go.RowKit
set_option maxRecDepth 100000 in
set_option maxHeartbeats 1600000 in
theorem d_no0 (x0 x1 x2 x3 x4 x5 x6 x7 val old : Int) (h : ¬ x0 = old) (w : World) : Calls Try.prog 18 #[.agg #[.int .i64 x0, .int .i64 x1, .int .i64 x2, .int .i64 x3, .int .i64 x4, .int .i64 x5, .int .i64 x6, .int .i64 x7], .agg #[.int .i64 3, .int .i64 0, .int .i64 val, .int .i64 old]] w fun e w' => e = .returned (.tuple #[.agg #[.int .i64 x0, .int .i64 x1, .int .i64 x2, .int .i64 x3, .int .i64 x4, .int .i64 x5, .int .i64 x6, .int .i64 x7], .agg #[.bool true, .bool false, .int .i64 0]]) ∧ Kept [] w w' := by
  have hb : (x0 == old) = false := beq_eq_false_iff_ne.2 h
  go_enter Try.func18, Try.ntmps18
  go_wp2
  all_goals refine bodyPost_ret (v := .tuple #[.agg #[.int .i64 x0, .int .i64 x1, .int .i64 x2, .int .i64 x3, .int .i64 x4, .int .i64 x5, .int .i64 x6, .int .i64 x7], .agg #[.bool true, .bool false, .int .i64 0]]) (by simp [results, Try.results18, go_sem]) rfl ⟨rfl, ?_⟩
  all_goals
    repeat (first | with_reducible exact Kept.refl _ _ | with_reducible refine Kept.drew ?_ | with_reducible refine Kept.drewN ?_ _ | with_reducible refine Kept.alloc ?_ _ | with_reducible refine Kept.setAt ?_ (.inr (by omega)) _ _)
set_option maxRecDepth 100000 in
set_option maxHeartbeats 1600000 in
theorem d_no1 (x0 x1 x2 x3 x4 x5 x6 x7 val old : Int) (h : ¬ x1 = old) (w : World) : Calls Try.prog 18 #[.agg #[.int .i64 x0, .int .i64 x1, .int .i64 x2, .int .i64 x3, .int .i64 x4, .int .i64 x5, .int .i64 x6, .int .i64 x7], .agg #[.int .i64 3, .int .i64 1, .int .i64 val, .int .i64 old]] w fun e w' => e = .returned (.tuple #[.agg #[.int .i64 x0, .int .i64 x1, .int .i64 x2, .int .i64 x3, .int .i64 x4, .int .i64 x5, .int .i64 x6, .int .i64 x7], .agg #[.bool true, .bool false, .int .i64 0]]) ∧ Kept [] w w' := by
  have hb : (x1 == old) = false := beq_eq_false_iff_ne.2 h
  go_enter Try.func18, Try.ntmps18
  go_wp2
  all_goals refine bodyPost_ret (v := .tuple #[.agg #[.int .i64 x0, .int .i64 x1, .int .i64 x2, .int .i64 x3, .int .i64 x4, .int .i64 x5, .int .i64 x6, .int .i64 x7], .agg #[.bool true, .bool false, .int .i64 0]]) (by simp [results, Try.results18, go_sem]) rfl ⟨rfl, ?_⟩
  all_goals
    repeat (first | with_reducible exact Kept.refl _ _ | with_reducible refine Kept.drew ?_ | with_reducible refine Kept.drewN ?_ _ | with_reducible refine Kept.alloc ?_ _ | with_reducible refine Kept.setAt ?_ (.inr (by omega)) _ _)
set_option maxRecDepth 100000 in
set_option maxHeartbeats 1600000 in
theorem d_no2 (x0 x1 x2 x3 x4 x5 x6 x7 val old : Int) (h : ¬ x2 = old) (w : World) : Calls Try.prog 18 #[.agg #[.int .i64 x0, .int .i64 x1, .int .i64 x2, .int .i64 x3, .int .i64 x4, .int .i64 x5, .int .i64 x6, .int .i64 x7], .agg #[.int .i64 3, .int .i64 2, .int .i64 val, .int .i64 old]] w fun e w' => e = .returned (.tuple #[.agg #[.int .i64 x0, .int .i64 x1, .int .i64 x2, .int .i64 x3, .int .i64 x4, .int .i64 x5, .int .i64 x6, .int .i64 x7], .agg #[.bool true, .bool false, .int .i64 0]]) ∧ Kept [] w w' := by
  have hb : (x2 == old) = false := beq_eq_false_iff_ne.2 h
  go_enter Try.func18, Try.ntmps18
  go_wp2
  all_goals refine bodyPost_ret (v := .tuple #[.agg #[.int .i64 x0, .int .i64 x1, .int .i64 x2, .int .i64 x3, .int .i64 x4, .int .i64 x5, .int .i64 x6, .int .i64 x7], .agg #[.bool true, .bool false, .int .i64 0]]) (by simp [results, Try.results18, go_sem]) rfl ⟨rfl, ?_⟩
  all_goals
    repeat (first | with_reducible exact Kept.refl _ _ | with_reducible refine Kept.drew ?_ | with_reducible refine Kept.drewN ?_ _ | with_reducible refine Kept.alloc ?_ _ | with_reducible refine Kept.setAt ?_ (.inr (by omega)) _ _)
set_option maxRecDepth 100000 in
set_option maxHeartbeats 1600000 in
theorem d_no3 (x0 x1 x2 x3 x4 x5 x6 x7 val old : Int) (h : ¬ x3 = old) (w : World) : Calls Try.prog 18 #[.agg #[.int .i64 x0, .int .i64 x1, .int .i64 x2, .int .i64 x3, .int .i64 x4, .int .i64 x5, .int .i64 x6, .int .i64 x7], .agg #[.int .i64 3, .int .i64 3, .int .i64 val, .int .i64 old]] w fun e w' => e = .returned (.tuple #[.agg #[.int .i64 x0, .int .i64 x1, .int .i64 x2, .int .i64 x3, .int .i64 x4, .int .i64 x5, .int .i64 x6, .int .i64 x7], .agg #[.bool true, .bool false, .int .i64 0]]) ∧ Kept [] w w' := by
  have hb : (x3 == old) = false := beq_eq_false_iff_ne.2 h
  go_enter Try.func18, Try.ntmps18
  go_wp2
  all_goals refine bodyPost_ret (v := .tuple #[.agg #[.int .i64 x0, .int .i64 x1, .int .i64 x2, .int .i64 x3, .int .i64 x4, .int .i64 x5, .int .i64 x6, .int .i64 x7], .agg #[.bool true, .bool false, .int .i64 0]]) (by simp [results, Try.results18, go_sem]) rfl ⟨rfl, ?_⟩
  all_goals
    repeat (first | with_reducible exact Kept.refl _ _ | with_reducible refine Kept.drew ?_ | with_reducible refine Kept.drewN ?_ _ | with_reducible refine Kept.alloc ?_ _ | with_reducible refine Kept.setAt ?_ (.inr (by omega)) _ _)
set_option maxRecDepth 100000 in
set_option maxHeartbeats 1600000 in
theorem d_no4 (x0 x1 x2 x3 x4 x5 x6 x7 val old : Int) (h : ¬ x4 = old) (w : World) : Calls Try.prog 18 #[.agg #[.int .i64 x0, .int .i64 x1, .int .i64 x2, .int .i64 x3, .int .i64 x4, .int .i64 x5, .int .i64 x6, .int .i64 x7], .agg #[.int .i64 3, .int .i64 4, .int .i64 val, .int .i64 old]] w fun e w' => e = .returned (.tuple #[.agg #[.int .i64 x0, .int .i64 x1, .int .i64 x2, .int .i64 x3, .int .i64 x4, .int .i64 x5, .int .i64 x6, .int .i64 x7], .agg #[.bool true, .bool false, .int .i64 0]]) ∧ Kept [] w w' := by
  have hb : (x4 == old) = false := beq_eq_false_iff_ne.2 h
  go_enter Try.func18, Try.ntmps18
  go_wp2
  all_goals refine bodyPost_ret (v := .tuple #[.agg #[.int .i64 x0, .int .i64 x1, .int .i64 x2, .int .i64 x3, .int .i64 x4, .int .i64 x5, .int .i64 x6, .int .i64 x7], .agg #[.bool true, .bool false, .int .i64 0]]) (by simp [results, Try.results18, go_sem]) rfl ⟨rfl, ?_⟩
  all_goals
    repeat (first | with_reducible exact Kept.refl _ _ | with_reducible refine Kept.drew ?_ | with_reducible refine Kept.drewN ?_ _ | with_reducible refine Kept.alloc ?_ _ | with_reducible refine Kept.setAt ?_ (.inr (by omega)) _ _)
set_option maxRecDepth 100000 in
set_option maxHeartbeats 1600000 in
theorem d_no5 (x0 x1 x2 x3 x4 x5 x6 x7 val old : Int) (h : ¬ x5 = old) (w : World) : Calls Try.prog 18 #[.agg #[.int .i64 x0, .int .i64 x1, .int .i64 x2, .int .i64 x3, .int .i64 x4, .int .i64 x5, .int .i64 x6, .int .i64 x7], .agg #[.int .i64 3, .int .i64 5, .int .i64 val, .int .i64 old]] w fun e w' => e = .returned (.tuple #[.agg #[.int .i64 x0, .int .i64 x1, .int .i64 x2, .int .i64 x3, .int .i64 x4, .int .i64 x5, .int .i64 x6, .int .i64 x7], .agg #[.bool true, .bool false, .int .i64 0]]) ∧ Kept [] w w' := by
  have hb : (x5 == old) = false := beq_eq_false_iff_ne.2 h
  go_enter Try.func18, Try.ntmps18
  go_wp2
  all_goals refine bodyPost_ret (v := .tuple #[.agg #[.int .i64 x0, .int .i64 x1, .int .i64 x2, .int .i64 x3, .int .i64 x4, .int .i64 x5, .int .i64 x6, .int .i64 x7], .agg #[.bool true, .bool false, .int .i64 0]]) (by simp [results, Try.results18, go_sem]) rfl ⟨rfl, ?_⟩
  all_goals
    repeat (first | with_reducible exact Kept.refl _ _ | with_reducible refine Kept.drew ?_ | with_reducible refine Kept.drewN ?_ _ | with_reducible refine Kept.alloc ?_ _ | with_reducible refine Kept.setAt ?_ (.inr (by omega)) _ _)
set_option maxRecDepth 100000 in
set_option maxHeartbeats 1600000 in
theorem d_no6 (x0 x1 x2 x3 x4 x5 x6 x7 val old : Int) (h : ¬ x6 = old) (w : World) : Calls Try.prog 18 #[.agg #[.int .i64 x0, .int .i64 x1, .int .i64 x2, .int .i64 x3, .int .i64 x4, .int .i64 x5, .int .i64 x6, .int .i64 x7], .agg #[.int .i64 3, .int .i64 6, .int .i64 val, .int .i64 old]] w fun e w' => e = .returned (.tuple #[.agg #[.int .i64 x0, .int .i64 x1, .int .i64 x2, .int .i64 x3, .int .i64 x4, .int .i64 x5, .int .i64 x6, .int .i64 x7], .agg #[.bool true, .bool false, .int .i64 0]]) ∧ Kept [] w w' := by
  have hb : (x6 == old) = false := beq_eq_false_iff_ne.2 h
  go_enter Try.func18, Try.ntmps18
  go_wp2
  all_goals refine bodyPost_ret (v := .tuple #[.agg #[.int .i64 x0, .int .i64 x1, .int .i64 x2, .int .i64 x3, .int .i64 x4, .int .i64 x5, .int .i64 x6, .int .i64 x7], .agg #[.bool true, .bool false, .int .i64 0]]) (by simp [results, Try.results18, go_sem]) rfl ⟨rfl, ?_⟩
  all_goals
    repeat (first | with_reducible exact Kept.refl _ _ | with_reducible refine Kept.drew ?_ | with_reducible refine Kept.drewN ?_ _ | with_reducible refine Kept.alloc ?_ _ | with_reducible refine Kept.setAt ?_ (.inr (by omega)) _ _)
set_option maxRecDepth 100000 in
set_option maxHeartbeats 1600000 in
theorem d_no7 (x0 x1 x2 x3 x4 x5 x6 x7 val old : Int) (h : ¬ x7 = old) (w : World) : Calls Try.prog 18 #[.agg #[.int .i64 x0, .int .i64 x1, .int .i64 x2, .int .i64 x3, .int .i64 x4, .int .i64 x5, .int .i64 x6, .int .i64 x7], .agg #[.int .i64 3, .int .i64 7, .int .i64 val, .int .i64 old]] w fun e w' => e = .returned (.tuple #[.agg #[.int .i64 x0, .int .i64 x1, .int .i64 x2, .int .i64 x3, .int .i64 x4, .int .i64 x5, .int .i64 x6, .int .i64 x7], .agg #[.bool true, .bool false, .int .i64 0]]) ∧ Kept [] w w' := by
  have hb : (x7 == old) = false := beq_eq_false_iff_ne.2 h
  go_enter Try.func18, Try.ntmps18
  go_wp2
  all_goals refine bodyPost_ret (v := .tuple #[.agg #[.int .i64 x0, .int .i64 x1, .int .i64 x2, .int .i64 x3, .int .i64 x4, .int .i64 x5, .int .i64 x6, .int .i64 x7], .agg #[.bool true, .bool false, .int .i64 0]]) (by simp [results, Try.results18, go_sem]) rfl ⟨rfl, ?_⟩
  all_goals
    repeat (first | with_reducible exact Kept.refl _ _ | with_reducible refine Kept.drew ?_ | with_reducible refine Kept.drewN ?_ _ | with_reducible refine Kept.alloc ?_ _ | with_reducible refine Kept.setAt ?_ (.inr (by omega)) _ _)
end Go.Proofs.Ytmnkphenobfbfaa
