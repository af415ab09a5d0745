import Derived.Test.YtfgfpggjcfhccaaGreatMa
import Derived.Deep.RegionHeld3
import Derived.RegionTactic
namespace Go.Proofs.YtfgfpggjcfhccaaGreat
open Go.RowKit
def M.thr (m : M) (i : Nat) (t : Thr) : M := { m with ths := put m.ths i t }
theorem RefAt.thCell {r tb : Nat} {sl : Value} {B : Nat} {m : M} {w : World} (h : RefAt r tb sl B m w) {i : Nat} (hi : i < m.nth) : tb < w.heap.size ∧ (∀ o, w.frozen? ⟨tb, o, none⟩ = false) ∧
    w.cell? ⟨tb, i * 9, none⟩ = some (.int .i64 (m.ths i).kind) ∧ w.cell? ⟨tb, i * 9 + 1, none⟩ = some (.int .i64 (m.ths i).key) ∧ w.cell? ⟨tb, i * 9 + 2, none⟩ = some (.int .i64 (m.ths i).val) ∧ w.cell? ⟨tb, i * 9 + 3, none⟩ = some (.int .i64 (m.ths i).old) ∧
    w.cell? ⟨tb, i * 9 + 4, none⟩ = some (.int .i64 (m.ths i).at_) ∧ w.cell? ⟨tb, i * 9 + 5, none⟩ = some (.int .i64 (m.ths i).e) ∧ w.cell? ⟨tb, i * 9 + 6, none⟩ = some (.int .i64 (m.ths i).sst) ∧ w.cell? ⟨tb, i * 9 + 7, none⟩ = some (.int .i64 (m.ths i).sv) ∧
    w.cell? ⟨tb, i * 9 + 8, none⟩ = some (.int .i64 (m.ths i).next) := by
  obtain ⟨ct, b1, b2, b3⟩ := h.ths
  have t := b3 i hi
  exact ⟨lt_of_block b1, frozen_of b1, by rw [cell_of b1]; exact t.c0, by rw [cell_of b1]; exact t.c1, by rw [cell_of b1]; exact t.c2, by rw [cell_of b1]; exact t.c3, by rw [cell_of b1]; exact t.c4, by rw [cell_of b1]; exact t.c5, by rw [cell_of b1]; exact t.c6, by rw [cell_of b1]; exact t.c7, by rw [cell_of b1]; exact t.c8⟩
theorem RefAt.mapCell {r tb : Nat} {sl : Value} {B : Nat} {m : M} {w : World} (h : RefAt r tb sl B m w) : r < w.heap.size ∧ (∀ o, w.frozen? ⟨r, o, none⟩ = false) ∧
    w.cell? ⟨r, 0, none⟩ = some sl ∧ (∀ k, k < 8 → w.cell? ⟨r, 1 + k, none⟩ = some (.int .i64 (m.read k))) ∧ w.cell? ⟨r, 9, none⟩ = some (.bool m.am) ∧ w.cell? ⟨r, 10, none⟩ = some (.bool m.hd) ∧
    (∀ k, k < 8 → w.cell? ⟨r, 11 + k, none⟩ = some (.int .i64 (m.dirty k))) ∧ w.cell? ⟨r, 19, none⟩ = some (.int .i64 m.mis) ∧ w.cell? ⟨r, 20, none⟩ = some (.int .i64 m.hol) ∧ w.cell? ⟨r, 21, none⟩ = some (.bool m.cl) ∧
    w.cell? ⟨r, 22, none⟩ = some (.slice (some ⟨tb, 0, none⟩) m.nth m.nth) := by
  obtain ⟨cs, b1, t⟩ := h.own
  exact ⟨lt_of_block b1, frozen_of b1, by rw [cell_of b1]; exact t.c0, fun k hk => by rw [cell_of b1]; exact t.rd k hk, by rw [cell_of b1]; exact t.am, by rw [cell_of b1]; exact t.hd, fun k hk => by rw [cell_of b1]; exact t.dt k hk, by rw [cell_of b1]; exact t.mis, by rw [cell_of b1]; exact t.hol, by rw [cell_of b1]; exact t.cl, by rw [cell_of b1]; exact t.th⟩
theorem RefAt.alloc {r tb : Nat} {sl : Value} {B : Nat} {m : M} {w : World} (h : RefAt r tb sl B m w) (o : Obj) : RefAt r tb sl B m (w.alloc o) := h.keptNil ((Kept.refl [] w).alloc o)
theorem RefAt.drew {r tb : Nat} {sl : Value} {B : Nat} {m : M} {w : World} (h : RefAt r tb sl B m w) : RefAt r tb sl B m w.drew := h.keptNil (Kept.refl [] w).drew
def res (d f : Bool) (v : Int) : Value := .agg #[.bool d, .bool f, .int .i64 v]
set_option maxRecDepth 100000 in
set_option maxHeartbeats 800000 in
theorem m_ends {r tb : Nat} {sl : Value} {B : Nat} {m : M} {w : World} (h : RefAt r tb sl B m w) {i : Nat} (hi : i < m.nth) (f : Bool) (v : Int) :
    Calls Tryz.prog 56 #[.pointer (some ⟨tb, i * 9, none⟩), .bool f, .int .i64 v] w fun e w' => e = .returned (res true f v) ∧ RefAt r tb sl B (m.thr i { m.ths i with at_ := 0 }) w' ∧ Kept [tb] w w' := by
  obtain ⟨hs, hf, -, -, -, -, c4, -⟩ := h.thCell hi
  have H : Hid _ := h
  clear h
  go_enter Tryz.func56, Tryz.ntmps56
  go_wp2
  refine bodyPost_ret (v := res true f v) (by simp [results, Tryz.results56, go_sem, res]) rfl ⟨rfl, ?_, ?_⟩
  · exact (H.out.putAt hi 0).alloc _
  · exact ((Kept.refl _ w).setCell (.inl (by simp)) _).alloc _
set_option maxRecDepth 100000 in
set_option maxHeartbeats 800000 in
theorem m_goes {r tb : Nat} {sl : Value} {B : Nat} {m : M} {w : World} (h : RefAt r tb sl B m w) {i : Nat} (hi : i < m.nth) (a : Int) :
    Calls Tryz.prog 53 #[.pointer (some ⟨tb, i * 9, none⟩), .int .i64 a] w fun e w' => e = .returned (res false false 0) ∧ RefAt r tb sl B (m.thr i { m.ths i with at_ := a }) w' ∧ Kept [tb] w w' := by
  obtain ⟨hs, hf, -, -, -, -, c4, -⟩ := h.thCell hi
  have H : Hid _ := h
  clear h
  go_enter Tryz.func53, Tryz.ntmps53
  go_wp2
  refine bodyPost_ret (v := res false false 0) (by simp [results, Tryz.results53, go_sem, res]) rfl ⟨rfl, ?_, ?_⟩
  · exact (H.out.putAt hi a).alloc _
  · exact ((Kept.refl _ w).setCell (.inl (by simp)) _).alloc _
end Go.Proofs.YtfgfpggjcfhccaaGreat
