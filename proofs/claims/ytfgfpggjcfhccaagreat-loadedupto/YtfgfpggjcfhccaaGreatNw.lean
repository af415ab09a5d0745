import Derived.Test.YtfgfpggjcfhccaaGreatDo
import Derived.Deep.AppendLies
namespace Go.Proofs.YtfgfpggjcfhccaaGreat
open Go.RowKit
set_option maxRecDepth 100000 in
set_option maxHeartbeats 800000 in
theorem snew (w : World) : Calls Tryz.prog 22 #[] w fun e w' => e = .returned (.pointer (some ⟨w.heap.size, 0, none⟩)) ∧ w' = w.alloc (.cells shCells 111) := by
  go_enter Tryz.func22, Tryz.ntmps22
  go_wp2
  go_end0
  go_wp2
  go_ret
  exact ⟨rfl, by simp [shCells]⟩
set_option maxRecDepth 100000 in
set_option maxHeartbeats 800000 in
theorem tnew (i : Nat) (s : Nat) (w : World) : Calls Tryz.prog 23 #[.int .i64 i, .pointer (some ⟨s, 0, none⟩)] w fun e w' => e = .returned (.pointer (some ⟨w.heap.size, 0, none⟩)) ∧ w' = w.alloc (.cells (thCells i s w.heap.size none) 116) := by
  go_enter Tryz.func23, Tryz.ntmps23
  go_wp2
  go_ret
  exact ⟨rfl, by simp [thCells]⟩
set_option maxRecDepth 100000 in
set_option maxHeartbeats 800000 in
theorem rnone (w : World) : Calls Tryz.prog 24 #[] w fun e w' => e = .returned negTbl ∧ w' = w.alloc (.cells #[.int .i64 (-1), .int .i64 (-1), .int .i64 (-1), .int .i64 (-1), .int .i64 (-1), .int .i64 (-1), .int .i64 (-1), .int .i64 (-1)] 56) := by
  go_enter Tryz.func24, Tryz.ntmps24
  go_wp2
  exact bodyPost_ret (v := negTbl) (by simp [results, Tryz.results24, go_sem, negTbl]) rfl ⟨rfl, rfl⟩
end Go.Proofs.YtfgfpggjcfhccaaGreat
