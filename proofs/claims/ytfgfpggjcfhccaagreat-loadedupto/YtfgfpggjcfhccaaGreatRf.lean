import Derived.Test.YtfgfpggjcfhccaaGreatMp
namespace Go.Proofs.YtfgfpggjcfhccaaGreat
open Go.RowKit

/-- Where a map of the document's answer lies. -/
structure RM where
  r : Nat
  tb : Nat
  n : Nat

def rCells (q : RM) (cl : Bool) : Array Value :=
  #[.slice none 0 0, .int .i64 (-1), .int .i64 (-1), .int .i64 (-1), .int .i64 (-1), .int .i64 (-1), .int .i64 (-1), .int .i64 (-1), .int .i64 (-1), .bool false, .bool false,
    .int .i64 (-1), .int .i64 (-1), .int .i64 (-1), .int .i64 (-1), .int .i64 (-1), .int .i64 (-1), .int .i64 (-1), .int .i64 (-1), .int .i64 0, .int .i64 (-1), .bool cl, .slice (some ⟨q.tb, 0, none⟩) q.n q.n]

def rThread (cs : Array Value) (i : Nat) : Option (Int × Int × Int) → Prop
  | none => cs[i * 9 + 4]? = some (.int .i64 0)
  | some (k, v, o) => cs[i * 9]? = some (.int .i64 0) ∧ cs[i * 9 + 1]? = some (.int .i64 k) ∧ cs[i * 9 + 2]? = some (.int .i64 v) ∧ cs[i * 9 + 3]? = some (.int .i64 o) ∧ cs[i * 9 + 4]? = some (.int .i64 1)

structure RAt (q : RM) (w : World) (cl : Bool) (th : Nat → Option (Int × Int × Int)) : Prop where
  len : q.n ≤ 6
  r : w.heap[q.r]? = some (.cells (rCells q cl) 59 (0, 0))
  tb : ∃ cs : Array Value, w.heap[q.tb]? = some (.cells cs 90 (0, 0)) ∧ cs.size = q.n * 9 ∧ ∀ i : Nat, i < q.n → rThread cs i (th i)

theorem RAt.kept {q : RM} {w w' : World} {cl : Bool} {th : Nat → Option (Int × Int × Int)} {F : List Nat} (h : RAt q w cl th) (k : Kept F w w') (h1 : q.r ∉ F) (h2 : q.tb ∉ F) : RAt q w' cl th := by
  obtain ⟨cs, g1, g2⟩ := h.tb
  exact ⟨h.len, k.at h.r h1, cs, k.at g1 h2, g2⟩
theorem RAt.keptNil {q : RM} {w w' : World} {cl : Bool} {th : Nat → Option (Int × Int × Int)} (h : RAt q w cl th) (k : Kept [] w w') : RAt q w' cl th := h.kept k (by simp) (by simp)
theorem RAt.alloc {q : RM} {w : World} {cl : Bool} {th : Nat → Option (Int × Int × Int)} (h : RAt q w cl th) (o : Obj) : RAt q (w.alloc o) cl th := h.keptNil ((Kept.refl [] w).alloc o)
theorem RAt.drew {q : RM} {w : World} {cl : Bool} {th : Nat → Option (Int × Int × Int)} (h : RAt q w cl th) : RAt q w.drew cl th := h.keptNil (Kept.refl [] w).drew

def zres : Value := .agg #[.bool false, .bool false, .int .i64 0]
set_option maxRecDepth 100000 in
set_option maxHeartbeats 800000 in
theorem rstep_closed (q : RM) (i : Int) (w : World) (th : Nat → Option (Int × Int × Int)) (h : RAt q w true th) :
    Calls Tryz.prog 18 #[.pointer (some ⟨q.r, 0, none⟩), .int .i64 i] w fun e w' => e = .returned (.tuple #[.agg #[.bool false, .bool false, .int .i64 0], .int .i64 5]) ∧ Kept [] w w' := by
  have hs := lt_of_block h.r
  have hc : w.cell? ⟨q.r, 21, none⟩ = some (.bool true) := cell_of h.r 21
  go_enter Tryz.func18, Tryz.ntmps18
  go_wp2
  exact bodyPost_ret (v := .tuple #[.agg #[.bool false, .bool false, .int .i64 0], .int .i64 5]) (by simp [results, Tryz.results18, go_sem]) rfl ⟨rfl, (Kept.refl [] w).alloc _⟩
set_option maxRecDepth 100000 in
set_option maxHeartbeats 800000 in
theorem rstep_arg (q : RM) (i : Int) (w : World) (th : Nat → Option (Int × Int × Int)) (h : RAt q w false th) (hi : i < 0 ∨ (q.n : Int) ≤ i) :
    Calls Tryz.prog 18 #[.pointer (some ⟨q.r, 0, none⟩), .int .i64 i] w fun e w' => e = .returned (.tuple #[.agg #[.bool false, .bool false, .int .i64 0], .int .i64 1]) ∧ Kept [] w w' := by
  have hs := lt_of_block h.r
  have hc : w.cell? ⟨q.r, 21, none⟩ = some (.bool false) := cell_of h.r 21
  have hc2 : w.cell? ⟨q.r, 22, none⟩ = some (.slice (some ⟨q.tb, 0, none⟩) q.n q.n) := cell_of h.r 22
  by_cases h0 : i < 0
  · clear hi
    go_enter Tryz.func18, Tryz.ntmps18
    go_wp2
    exact bodyPost_ret (v := .tuple #[.agg #[.bool false, .bool false, .int .i64 0], .int .i64 1]) (by simp [results, Tryz.results18, go_sem]) rfl ⟨rfl, (Kept.refl [] w).alloc _⟩
  · have hi2 : (q.n : Int) ≤ i := by omega
    clear hi
    go_enter Tryz.func18, Tryz.ntmps18
    go_wp2
    exact bodyPost_ret (v := .tuple #[.agg #[.bool false, .bool false, .int .i64 0], .int .i64 1]) (by simp [results, Tryz.results18, go_sem]) rfl ⟨rfl, (Kept.refl [] w).alloc _⟩
set_option maxRecDepth 100000 in
set_option maxHeartbeats 800000 in
theorem rstep_idle (q : RM) (i : Int) (w : World) (th : Nat → Option (Int × Int × Int)) (h : RAt q w false th) (h0 : 0 ≤ i) (hi : i < q.n) (hth : th i.toNat = none) :
    Calls Tryz.prog 18 #[.pointer (some ⟨q.r, 0, none⟩), .int .i64 i] w fun e w' => e = .returned (.tuple #[.agg #[.bool false, .bool false, .int .i64 0], .int .i64 3]) ∧ Kept [] w w' := by
  have hs := lt_of_block h.r
  have hc : w.cell? ⟨q.r, 21, none⟩ = some (.bool false) := cell_of h.r 21
  have hc2 : w.cell? ⟨q.r, 22, none⟩ = some (.slice (some ⟨q.tb, 0, none⟩) q.n q.n) := cell_of h.r 22
  obtain ⟨cs, g1, g2, g3⟩ := h.tb
  have g4 := g3 i.toNat (by omega)
  rw [hth] at g4
  have hc3 : w.cell? ⟨q.tb, i.toNat * 9 + 4, none⟩ = some (.int .i64 0) := by rw [cell_of g1]; exact g4
  have ht := lt_of_block g1
  clear hth g3 g4 g2
  go_enter Tryz.func18, Tryz.ntmps18
  go_wp2
  exact bodyPost_ret (v := .tuple #[.agg #[.bool false, .bool false, .int .i64 0], .int .i64 3]) (by simp [results, Tryz.results18, go_sem]) rfl ⟨rfl, (Kept.refl [] w).alloc _⟩
end Go.Proofs.YtfgfpggjcfhccaaGreat
