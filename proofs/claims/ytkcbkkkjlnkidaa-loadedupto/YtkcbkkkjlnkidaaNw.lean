import Derived.Test.YtkcbkkkjlnkidaaDo
import Derived.Deep.AppendLies
namespace Go.Proofs.Ytkcbkkkjlnkidaa
open Go.RowKit
set_option maxRecDepth 100000 in
set_option maxHeartbeats 800000 in
theorem snew (w : World) : Calls Try.prog 21 #[] w fun e w' => e = .returned (.pointer (some ⟨w.heap.size, 0, none⟩)) ∧ w' = w.alloc (.cells shCells 111) := by
  go_enter Try.func21, Try.ntmps21
  go_wp2
  go_end0
  go_wp2
  go_ret
  exact ⟨rfl, by simp [shCells]⟩
set_option maxRecDepth 100000 in
set_option maxHeartbeats 800000 in
theorem tnew (i : Nat) (s : Nat) (w : World) : Calls Try.prog 22 #[.int .i64 i, .pointer (some ⟨s, 0, none⟩)] w fun e w' => e = .returned (.pointer (some ⟨w.heap.size, 0, none⟩)) ∧ w' = w.alloc (.cells (thCells i s w.heap.size none) 115) := by
  go_enter Try.func22, Try.ntmps22
  go_wp2
  go_ret
  exact ⟨rfl, by simp [thCells]⟩
set_option maxRecDepth 100000 in
set_option maxHeartbeats 800000 in
theorem rnone (w : World) : Calls Try.prog 23 #[] w fun e w' => e = .returned negTbl ∧ w' = w.alloc (.cells #[.int .i64 (-1), .int .i64 (-1), .int .i64 (-1), .int .i64 (-1), .int .i64 (-1), .int .i64 (-1), .int .i64 (-1), .int .i64 (-1)] 56) := by
  go_enter Try.func23, Try.ntmps23
  go_wp2
  exact bodyPost_ret (v := negTbl) (by simp [results, Try.results23, go_sem, negTbl]) rfl ⟨rfl, rfl⟩
end Go.Proofs.Ytkcbkkkjlnkidaa
