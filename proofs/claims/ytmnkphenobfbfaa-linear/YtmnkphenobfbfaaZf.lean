import Derived.Test.YtmnkphenobfbfaaZa
import Derived.Test.YtmnkphenobfbfaaZb
import Derived.Test.YtmnkphenobfbfaaZc
import Derived.Test.YtmnkphenobfbfaaZd
import Derived.Test.YtmnkphenobfbfaaZe
import Derived.Test.YtmnkphenobfbfaaYf
namespace Go.Proofs.Ytmnkphenobfbfaa
open Go.RowKit
/-- A plain map's eight values. -/
def cells8 (p : Nat → Int) : Array Value := #[.int .i64 (p 0), .int .i64 (p 1), .int .i64 (p 2), .int .i64 (p 3), .int .i64 (p 4), .int .i64 (p 5), .int .i64 (p 6), .int .i64 (p 7)]
theorem k_does (p : Nat → Int) (kind : Int) (key : Nat) (val old : Int) (hk : 0 ≤ kind ∧ kind ≤ 3) (hkey : key < 8) (w : World) : Calls Try.prog 18 #[.agg (cells8 p), .agg #[.int .i64 kind, .int .i64 key, .int .i64 val, .int .i64 old]] w fun e w' =>
    e = .returned (.tuple #[.agg (cells8 (pnext p ⟨kind, key, val, old⟩)), .agg #[.bool true, .bool (pans p ⟨kind, key, val, old⟩).1, .int .i64 (pans p ⟨kind, key, val, old⟩).2]]) ∧ Kept [] w w' := by
  have k4 : kind = 0 ∨ kind = 1 ∨ kind = 2 ∨ kind = 3 := by omega
  have k8 : key = 0 ∨ key = 1 ∨ key = 2 ∨ key = 3 ∨ key = 4 ∨ key = 5 ∨ key = 6 ∨ key = 7 := by omega
  clear hk hkey
  unfold cells8
  rcases k4 with rfl | rfl | rfl | rfl
  · rcases k8 with rfl | rfl | rfl | rfl | rfl | rfl | rfl | rfl
    · exact (d_load0 (p 0) (p 1) (p 2) (p 3) (p 4) (p 5) (p 6) (p 7) val old w).mono fun e w' ⟨h, k⟩ => ⟨by rw [h]; simp [pnext, pans], k⟩
    · exact (d_load1 (p 0) (p 1) (p 2) (p 3) (p 4) (p 5) (p 6) (p 7) val old w).mono fun e w' ⟨h, k⟩ => ⟨by rw [h]; simp [pnext, pans], k⟩
    · exact (d_load2 (p 0) (p 1) (p 2) (p 3) (p 4) (p 5) (p 6) (p 7) val old w).mono fun e w' ⟨h, k⟩ => ⟨by rw [h]; simp [pnext, pans], k⟩
    · exact (d_load3 (p 0) (p 1) (p 2) (p 3) (p 4) (p 5) (p 6) (p 7) val old w).mono fun e w' ⟨h, k⟩ => ⟨by rw [h]; simp [pnext, pans], k⟩
    · exact (d_load4 (p 0) (p 1) (p 2) (p 3) (p 4) (p 5) (p 6) (p 7) val old w).mono fun e w' ⟨h, k⟩ => ⟨by rw [h]; simp [pnext, pans], k⟩
    · exact (d_load5 (p 0) (p 1) (p 2) (p 3) (p 4) (p 5) (p 6) (p 7) val old w).mono fun e w' ⟨h, k⟩ => ⟨by rw [h]; simp [pnext, pans], k⟩
    · exact (d_load6 (p 0) (p 1) (p 2) (p 3) (p 4) (p 5) (p 6) (p 7) val old w).mono fun e w' ⟨h, k⟩ => ⟨by rw [h]; simp [pnext, pans], k⟩
    · exact (d_load7 (p 0) (p 1) (p 2) (p 3) (p 4) (p 5) (p 6) (p 7) val old w).mono fun e w' ⟨h, k⟩ => ⟨by rw [h]; simp [pnext, pans], k⟩
  · rcases k8 with rfl | rfl | rfl | rfl | rfl | rfl | rfl | rfl
    · exact (d_store0 (p 0) (p 1) (p 2) (p 3) (p 4) (p 5) (p 6) (p 7) val old w).mono fun e w' ⟨h, k⟩ => ⟨by rw [h]; simp [pnext, pans, put], k⟩
    · exact (d_store1 (p 0) (p 1) (p 2) (p 3) (p 4) (p 5) (p 6) (p 7) val old w).mono fun e w' ⟨h, k⟩ => ⟨by rw [h]; simp [pnext, pans, put], k⟩
    · exact (d_store2 (p 0) (p 1) (p 2) (p 3) (p 4) (p 5) (p 6) (p 7) val old w).mono fun e w' ⟨h, k⟩ => ⟨by rw [h]; simp [pnext, pans, put], k⟩
    · exact (d_store3 (p 0) (p 1) (p 2) (p 3) (p 4) (p 5) (p 6) (p 7) val old w).mono fun e w' ⟨h, k⟩ => ⟨by rw [h]; simp [pnext, pans, put], k⟩
    · exact (d_store4 (p 0) (p 1) (p 2) (p 3) (p 4) (p 5) (p 6) (p 7) val old w).mono fun e w' ⟨h, k⟩ => ⟨by rw [h]; simp [pnext, pans, put], k⟩
    · exact (d_store5 (p 0) (p 1) (p 2) (p 3) (p 4) (p 5) (p 6) (p 7) val old w).mono fun e w' ⟨h, k⟩ => ⟨by rw [h]; simp [pnext, pans, put], k⟩
    · exact (d_store6 (p 0) (p 1) (p 2) (p 3) (p 4) (p 5) (p 6) (p 7) val old w).mono fun e w' ⟨h, k⟩ => ⟨by rw [h]; simp [pnext, pans, put], k⟩
    · exact (d_store7 (p 0) (p 1) (p 2) (p 3) (p 4) (p 5) (p 6) (p 7) val old w).mono fun e w' ⟨h, k⟩ => ⟨by rw [h]; simp [pnext, pans, put], k⟩
  · rcases k8 with rfl | rfl | rfl | rfl | rfl | rfl | rfl | rfl
    · exact (d_delete0 (p 0) (p 1) (p 2) (p 3) (p 4) (p 5) (p 6) (p 7) val old w).mono fun e w' ⟨h, k⟩ => ⟨by rw [h]; simp [pnext, pans, put], k⟩
    · exact (d_delete1 (p 0) (p 1) (p 2) (p 3) (p 4) (p 5) (p 6) (p 7) val old w).mono fun e w' ⟨h, k⟩ => ⟨by rw [h]; simp [pnext, pans, put], k⟩
    · exact (d_delete2 (p 0) (p 1) (p 2) (p 3) (p 4) (p 5) (p 6) (p 7) val old w).mono fun e w' ⟨h, k⟩ => ⟨by rw [h]; simp [pnext, pans, put], k⟩
    · exact (d_delete3 (p 0) (p 1) (p 2) (p 3) (p 4) (p 5) (p 6) (p 7) val old w).mono fun e w' ⟨h, k⟩ => ⟨by rw [h]; simp [pnext, pans, put], k⟩
    · exact (d_delete4 (p 0) (p 1) (p 2) (p 3) (p 4) (p 5) (p 6) (p 7) val old w).mono fun e w' ⟨h, k⟩ => ⟨by rw [h]; simp [pnext, pans, put], k⟩
    · exact (d_delete5 (p 0) (p 1) (p 2) (p 3) (p 4) (p 5) (p 6) (p 7) val old w).mono fun e w' ⟨h, k⟩ => ⟨by rw [h]; simp [pnext, pans, put], k⟩
    · exact (d_delete6 (p 0) (p 1) (p 2) (p 3) (p 4) (p 5) (p 6) (p 7) val old w).mono fun e w' ⟨h, k⟩ => ⟨by rw [h]; simp [pnext, pans, put], k⟩
    · exact (d_delete7 (p 0) (p 1) (p 2) (p 3) (p 4) (p 5) (p 6) (p 7) val old w).mono fun e w' ⟨h, k⟩ => ⟨by rw [h]; simp [pnext, pans, put], k⟩
  · by_cases e : p key = old
    · subst e
      rcases k8 with rfl | rfl | rfl | rfl | rfl | rfl | rfl | rfl
      · exact (d_yes0 (p 0) (p 1) (p 2) (p 3) (p 4) (p 5) (p 6) (p 7) val w).mono fun e w' ⟨h, k⟩ => ⟨by rw [h]; simp [pnext, pans, put], k⟩
      · exact (d_yes1 (p 0) (p 1) (p 2) (p 3) (p 4) (p 5) (p 6) (p 7) val w).mono fun e w' ⟨h, k⟩ => ⟨by rw [h]; simp [pnext, pans, put], k⟩
      · exact (d_yes2 (p 0) (p 1) (p 2) (p 3) (p 4) (p 5) (p 6) (p 7) val w).mono fun e w' ⟨h, k⟩ => ⟨by rw [h]; simp [pnext, pans, put], k⟩
      · exact (d_yes3 (p 0) (p 1) (p 2) (p 3) (p 4) (p 5) (p 6) (p 7) val w).mono fun e w' ⟨h, k⟩ => ⟨by rw [h]; simp [pnext, pans, put], k⟩
      · exact (d_yes4 (p 0) (p 1) (p 2) (p 3) (p 4) (p 5) (p 6) (p 7) val w).mono fun e w' ⟨h, k⟩ => ⟨by rw [h]; simp [pnext, pans, put], k⟩
      · exact (d_yes5 (p 0) (p 1) (p 2) (p 3) (p 4) (p 5) (p 6) (p 7) val w).mono fun e w' ⟨h, k⟩ => ⟨by rw [h]; simp [pnext, pans, put], k⟩
      · exact (d_yes6 (p 0) (p 1) (p 2) (p 3) (p 4) (p 5) (p 6) (p 7) val w).mono fun e w' ⟨h, k⟩ => ⟨by rw [h]; simp [pnext, pans, put], k⟩
      · exact (d_yes7 (p 0) (p 1) (p 2) (p 3) (p 4) (p 5) (p 6) (p 7) val w).mono fun e w' ⟨h, k⟩ => ⟨by rw [h]; simp [pnext, pans, put], k⟩
    · rcases k8 with rfl | rfl | rfl | rfl | rfl | rfl | rfl | rfl
      · exact (d_no0 (p 0) (p 1) (p 2) (p 3) (p 4) (p 5) (p 6) (p 7) val old e w).mono fun e' w' ⟨h, k⟩ => ⟨by rw [h]; simp [pnext, pans, e], k⟩
      · exact (d_no1 (p 0) (p 1) (p 2) (p 3) (p 4) (p 5) (p 6) (p 7) val old e w).mono fun e' w' ⟨h, k⟩ => ⟨by rw [h]; simp [pnext, pans, e], k⟩
      · exact (d_no2 (p 0) (p 1) (p 2) (p 3) (p 4) (p 5) (p 6) (p 7) val old e w).mono fun e' w' ⟨h, k⟩ => ⟨by rw [h]; simp [pnext, pans, e], k⟩
      · exact (d_no3 (p 0) (p 1) (p 2) (p 3) (p 4) (p 5) (p 6) (p 7) val old e w).mono fun e' w' ⟨h, k⟩ => ⟨by rw [h]; simp [pnext, pans, e], k⟩
      · exact (d_no4 (p 0) (p 1) (p 2) (p 3) (p 4) (p 5) (p 6) (p 7) val old e w).mono fun e' w' ⟨h, k⟩ => ⟨by rw [h]; simp [pnext, pans, e], k⟩
      · exact (d_no5 (p 0) (p 1) (p 2) (p 3) (p 4) (p 5) (p 6) (p 7) val old e w).mono fun e' w' ⟨h, k⟩ => ⟨by rw [h]; simp [pnext, pans, e], k⟩
      · exact (d_no6 (p 0) (p 1) (p 2) (p 3) (p 4) (p 5) (p 6) (p 7) val old e w).mono fun e' w' ⟨h, k⟩ => ⟨by rw [h]; simp [pnext, pans, e], k⟩
      · exact (d_no7 (p 0) (p 1) (p 2) (p 3) (p 4) (p 5) (p 6) (p 7) val old e w).mono fun e' w' ⟨h, k⟩ => ⟨by rw [h]; simp [pnext, pans, e], k⟩
end Go.Proofs.Ytmnkphenobfbfaa
