import Derived.Test.YtfgfpggjcfhccaaGreatFl
namespace Go.Proofs.YtfgfpggjcfhccaaGreat
open Go.RowKit
/-- The lists that came out, and what they were grown to. -/
structure LAt (B : Nat) (ls l3 : Value) (L : Nat) (xs ys : List Value) (w : World) : Prop where
  row : w.ownsRow B 25 1 ls L xs
  row3 : w.ownsRow B 25 1 l3 (3 * L) ys
  apart : ∀ g, ls.ownBlock = some g → l3.ownBlock ≠ some g
  good : ∀ (k : Nat) (x : Value), xs[k]? = some x → Good w x (-1 - k)
  good3 : ∀ (k : Nat) (y : Value), ys[k]? = some y → Good w y (-1 - (k / 3 : Nat))
theorem row_cell {w : World} {B e n : Nat} {v : Value} {xs : List Value} (h : w.ownsRow B e 1 v n xs) {k : Nat} (hk : k < n) :
    ∃ g cap x, v = .slice (some ⟨g, 0, none⟩) n cap ∧ n ≤ cap ∧ w.cell? ⟨g, k, none⟩ = some x ∧ xs[k]? = some x := by
  rcases h.2 with ⟨_, h0⟩ | ⟨g, cap, cur, rfl, _, hg, hc, _, hs, ht⟩
  · omega
  · have hx : xs[k]? = some (xs[k]'(by rw [h.1]; omega)) := List.getElem?_eq_getElem _
    refine ⟨g, cap, _, rfl, hc, ?_, hx⟩
    rw [cell_of hg, ← hx, ← ht]
    simp only [Nat.mul_one, List.getElem?_take, Array.getElem?_toList]
    rw [if_pos hk]
set_option maxRecDepth 100000 in
set_option maxHeartbeats 3200000 in
theorem looks_yes (wb B L : Nat) (ps ls l3 : Value) (xs ys : List Value) (w : World) (hb : w.heap[wb]? = some (.cells #[ps, ls, l3] 64 (0, 0))) (h : LAt B ls l3 L xs ys w) (hL : L ≤ 4000000) :
    Calls Tryz.prog 21 #[.pointer (some ⟨wb, 0, none⟩)] w fun e w' => e = .returned (.bool true) ∧ w' = w := by
  have d1 : w.cell? ⟨wb, 1, none⟩ = some ls := cell_of hb 1
  have d2 : w.cell? ⟨wb, 2, none⟩ = some l3 := cell_of hb 2
  have HH : Hid _ := h
  have shape : ∃ a1 n1 c1, ls = .slice a1 L c1 ∧ n1 = L := by
    rcases h.row.2 with ⟨rfl, rfl⟩ | ⟨g, cap, cur, rfl, _⟩
    · exact ⟨_, _, _, rfl, rfl⟩
    · exact ⟨_, _, _, rfl, rfl⟩
  obtain ⟨a1, _, c1, hls, _⟩ := shape
  clear h hb
  by_cases h0 : L = 0
  · subst h0
    subst hls
    go_enter Tryz.func21, Tryz.ntmps21
    go_wp2
    go_loop [3] (fun i => i = .int .i64 0) (fun _ => 0)
    case atStart => rfl
    case round =>
      subst hrel
      go_wp2
      go_ret
      exact ⟨rfl, rfl⟩
  · obtain ⟨g1, cap1, x0, e1, hc1, _, _⟩ := row_cell HH.out.row (k := 0) (by omega)
    obtain ⟨g3, cap3, y0, e3, hc3, _, _⟩ := row_cell HH.out.row3 (k := 0) (by omega)
    subst e1
    subst e3
    clear hls
    go_enter Tryz.func21, Tryz.ntmps21
    go_wp2
    go_loop [3] (fun i => ∃ k : Nat, k ≤ L ∧ i = .int .i64 k) (fun i => L - (intOf i).toNat)
    case atStart => exact ⟨0, by omega, rfl⟩
    case round =>
      obtain ⟨k, hk, rfl⟩ := hrel
      by_cases hlt : k < L
      · obtain ⟨_, _, x, e, _, q1, p1⟩ := row_cell HH.out.row (k := k) (by omega)
        cases e
        obtain ⟨_, _, y, e, _, q2, p2⟩ := row_cell HH.out.row3 (k := 3 * k) (by omega)
        cases e
        obtain ⟨_, _, z, e, _, q3, p3⟩ := row_cell HH.out.row3 (k := 3 * k + 1) (by omega)
        cases e
        obtain ⟨_, _, u, e, _, q4, p4⟩ := row_cell HH.out.row3 (k := 3 * k + 2) (by omega)
        cases e
        have G1 := HH.out.good k x p1
        have G2 := HH.out.good3 (3 * k) y p2
        have G3 := HH.out.good3 (3 * k + 1) z p3
        have G4 := HH.out.good3 (3 * k + 2) u p4
        rw [show 3 * k / 3 = k by omega] at G2
        rw [show (3 * k + 1) / 3 = k by omega] at G3
        rw [show (3 * k + 2) / 3 = k by omega] at G4
        have b1 : (k : Int) < L := by omega
        have b2 : (3 * k : Int) < (3 * L : Nat) := by omega
        have b3 : (3 * k + 1 : Int) < (3 * L : Nat) := by omega
        have b4 : (3 * k + 2 : Int) < (3 * L : Nat) := by omega
        have b5 : (k : Int) ≤ 4000000 := by omega
        clear p1 p2 p3 p4
        go_wp2_with fail
        refine (full_yes x _ w G1).mono ?_
        rintro e w1 ⟨rfl, rfl⟩
        go_wp2_with fail
        refine (full_yes y _ w1 G2).mono ?_
        rintro e w1 ⟨rfl, rfl⟩
        go_wp2_with fail
        refine (full_yes z _ w1 G3).mono ?_
        rintro e w1 ⟨rfl, rfl⟩
        go_wp2_with fail
        refine (full_yes u _ w1 G4).mono ?_
        rintro e w1 ⟨rfl, rfl⟩
        go_wp2
        go_round
        case rel => exact ⟨k + 1, by omega, by go_num⟩
        case measure => simp [intOf]; omega
      · go_wp2
        go_ret
        exact ⟨rfl, rfl⟩
end Go.Proofs.YtfgfpggjcfhccaaGreat
