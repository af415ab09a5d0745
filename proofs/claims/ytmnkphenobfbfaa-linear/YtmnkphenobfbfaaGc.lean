import Derived.Test.YtmnkphenobfbfaaGb
import Derived.Deep.AppendLies
import Derived.Deep.RegionLaw
namespace Go.Proofs.Ytmnkphenobfbfaa
open Go.RowKit
set_option maxRecDepth 100000 in
set_option maxHeartbeats 800000 in
theorem snew (w : World) : Calls Try.prog 22 #[] w fun e w' => e = .returned (.pointer (some ⟨w.heap.size, 0, none⟩)) ∧ w' = w.alloc (.cells shCells 97) := by
  go_enter Try.func22, Try.ntmps22
  go_wp2
  go_end0
  go_wp2
  go_ret
  exact ⟨rfl, by simp [shCells]⟩
set_option maxRecDepth 100000 in
set_option maxHeartbeats 800000 in
theorem tnew (i : Nat) (s : Nat) (w : World) : Calls Try.prog 23 #[.int .i64 i, .pointer (some ⟨s, 0, none⟩)] w fun e w' => e = .returned (.pointer (some ⟨w.heap.size, 0, none⟩)) ∧ w' = w.alloc (.cells (thCells i s w.heap.size none) 103) := by
  go_enter Try.func23, Try.ntmps23
  go_wp2
  go_ret
  exact ⟨rfl, by simp [thCells]⟩
end Go.Proofs.Ytmnkphenobfbfaa
namespace Go.Proofs.Ytmnkphenobfbfaa
open Go.RowKit Go.Conc
theorem three (w : World) (o0 o1 o2 : Obj) : (((w.alloc o0).alloc o1).alloc o2).drew.heap[w.heap.size]? = some o0 ∧ (((w.alloc o0).alloc o1).alloc o2).drew.heap[w.heap.size + 1]? = some o1 ∧ (((w.alloc o0).alloc o1).alloc o2).drew.heap[w.heap.size + 1 + 1]? = some o2 := by
  have e0 := block_alloc_new w o0
  have e1 := block_alloc_new (w.alloc o0) o1
  have e2 := block_alloc_new ((w.alloc o0).alloc o1) o2
  simp only [World.size_alloc] at e1 e2
  exact ⟨block_alloc_lt (block_alloc_lt e0 _) _, block_alloc_lt e1 _, e2⟩
theorem three2 (w : World) (o0 o1 : Obj) : ((w.alloc o0).alloc o1).drew.heap[w.heap.size + 1]? = some o1 := by
  have e1 := block_alloc_new (w.alloc o0) o1
  simp only [World.size_alloc] at e1
  exact e1
theorem mkchan (w : World) : (Instr.makeChan 62 (.int .i64 0)).run Try.prog w = .ok (.chan (some w.heap.size)) (w.alloc (.chan 0 #[] false 0 0 false)) := by
  have h : (Try.prog.info? 65).map (·.bytes) = some 0 := by kernel_rfl
  obtain ⟨i, hi, hb⟩ := Option.map_eq_some_iff.1 h
  simpa using run_makeChan (P := Try.prog) (w := w) Try.underlying62 hi .i64 0 (by omega) (by rw [hb]; omega)
set_option maxHeartbeats 800000 in
theorem new_no (n : Int) (w : World) (h : n < 1 ∨ 6 < n) : Calls Try.prog 8 #[.int .i64 n] w fun e w' => e = .returned (.tuple #[.pointer none, .int .i64 1]) ∧ w' = w := by
  by_cases h1 : n < 1
  · go_enter Try.func8, Try.ntmps8
    go_wp2
    go_ret2
    exact ⟨rfl, rfl⟩
  · have h2 : 6 < n := by omega
    go_enter Try.func8, Try.ntmps8
    go_wp2
    go_ret2
    exact ⟨rfl, rfl⟩
/-- A map that is being made: it has the threads ts. -/
structure Making (p : PM) (k : Nat) (sl : Value) (w0 w : World) : Prop where
  len : p.ts.length = k
  m : w.heap[p.m]? = some (.cells #[.int .i32 0, .int .u32 0, .chan (some p.c), .pointer (some ⟨p.s, 0, none⟩), sl] 74 (0, 0))
  c : w.heap[p.c]? = some (.chan 0 #[] false 0 0 false)
  s : w.heap[p.s]? = some (.cells shCells 97 (0, 0))
  row : w.ownsRow w0.heap.size 75 1 sl k (p.ts.map fun t => .pointer (some ⟨t, 0, none⟩))
  ts : ∀ (i t : Nat), p.ts[i]? = some t → w.heap[t]? = some (.cells (thCells i p.s t none) 103 (0, 0))
  kept : Kept [] w0 w
  new : ∀ t, t ∈ p.ts → w0.heap.size ≤ t
theorem info79 : (Try.prog.info? 75).map (fun i => (i.zero, i.size, i.bytes)) = some (some (.pointer none), 1, 8) := by kernel_rfl
theorem Making.own_ne {p : PM} {k : Nat} {sl : Value} {w0 w : World} (h : Making p k sl w0 w) {b : Nat} {o : Obj} (hb : w.heap[b]? = some o) (ho : ∀ cs, o ≠ .cells cs 75 (0, 0)) : sl.ownBlock ≠ some b := by
  rcases h.row.2 with ⟨rfl, _⟩ | ⟨g, cap, cur, rfl, _, hg, _⟩
  · simp [Value.ownBlock]
  · intro e
    simp only [Value.ownBlock, Option.some.injEq] at e
    subst e
    exact ho _ (Option.some.inj (hb.symm.trans hg))
theorem Making.step {m c s k : Nat} {ts : List Nat} {sl : Value} {w0 wr w1 : World} {g cap : Nat} {B : Obj} (h : Making ⟨m, c, s, 0, 0, ts⟩ k sl w0 wr)
    (hown : w1.ownsRow w0.heap.size 75 1 (.slice (some ⟨g, 0, none⟩) (k + 1) cap) (k + 1) (ts.map (fun t => .pointer (some ⟨t, 0, none⟩)) ++ [.pointer (some ⟨wr.heap.size, 0, none⟩)]))
    (hgrow : ((wr.alloc (.cells (thCells k s wr.heap.size none) 103)).alloc B).drew.grownBy w1 sl.ownBlock) (hm : w0.heap.size ≤ m) :
    Making ⟨m, c, s, 0, 0, ts ++ [wr.heap.size]⟩ (k + 1) (.slice (some ⟨g, 0, none⟩) (k + 1) cap) w0 (w1.setCell ⟨m, 4, none⟩ (.slice (some ⟨g, 0, none⟩) (k + 1) cap)) := by
  have hlen := h.len
  have ownlt : ∀ b, sl.ownBlock = some b → b < wr.heap.size ∧ w0.heap.size ≤ b := by
    intro b hb
    rcases h.row.2 with ⟨rfl, _⟩ | ⟨g', cap', cur, rfl, hg', hh, _⟩
    · simp [Value.ownBlock] at hb
    · simp only [Value.ownBlock, Option.some.injEq] at hb
      subst hb
      exact ⟨lt_of_block hh, hg'⟩
  have old : ∀ (b : Nat) (o : Obj), wr.heap[b]? = some o → (∀ cs, o ≠ Obj.cells cs 75 (0, 0)) → w1.heap[b]? = some o := by
    intro b o hb ho
    have := lt_of_block hb
    exact (hgrow.block b (by simp; omega) (Ne.symm (h.own_ne hb ho))).trans (block_alloc_lt (block_alloc_lt hb _) _)
  have hnew : w1.heap[wr.heap.size]? = some (.cells (thCells k s wr.heap.size none) 103 (0, 0)) :=
    (hgrow.block wr.heap.size (by simp; omega) (fun e => by have := ownlt _ e.symm; omega)).trans (block_alloc_lt (block_alloc_new _ _) _)
  have hm1 := old m _ h.m (by simp)
  obtain ⟨g', cap', cur, e1, e2, e3, e4⟩ : ∃ g' cap' cur, (Value.slice (some ⟨g, 0, none⟩) (k + 1) cap) = .slice (some ⟨g', 0, none⟩) (k + 1) cap' ∧ w0.heap.size ≤ g' ∧ w1.heap[g']? = some (.cells cur 75 (0, 0)) ∧ (k + 1 ≤ cap' ∧ cap' ≤ maxLen ∧ cur.size = cap' * 1 ∧ cur.toList.take ((k + 1) * 1) = ts.map (fun t => Value.pointer (some ⟨t, 0, none⟩)) ++ [.pointer (some ⟨wr.heap.size, 0, none⟩)]) := by
    rcases hown.2 with ⟨_, h0⟩ | ⟨g', cap', cur, a1, a2, a3, a4⟩
    · omega
    · exact ⟨g', cap', cur, a1, a2, a3, a4⟩
  have hne : g' ≠ m := ne_of_blocks e3 hm1 (by simp)
  refine ⟨by simp at hlen ⊢; omega, ?_, ?_, ?_, ⟨by simp at hlen ⊢; omega, .inr ⟨g', cap', cur, e1, e2, block_set_ne e3 hne _ _, e4.1, e4.2.1, e4.2.2.1, by simpa using e4.2.2.2⟩⟩, fun i t hi => ?_, ?_, fun t ht => ?_⟩
  · rw [block_set_same hm1]; simp
  · exact block_set_ne (old c _ h.c (by simp)) (ne_of_blocks (old c _ h.c (by simp)) hm1 (by simp)) _ _
  · exact block_set_ne (old s _ h.s (by simp)) (ne_of_blocks (old s _ h.s (by simp)) hm1 (by simp)) _ _
  · simp only [List.getElem?_append] at hi
    split at hi
    · have hb := old t _ (h.ts i t hi) (by simp)
      exact block_set_ne hb (ne_of_blocks hb hm1 (by simp)) _ _
    · rename_i hge
      have hik : i = k := by
        simp at hlen
        by_cases h0 : i - ts.length = 0
        · omega
        · simp [h0] at hi
      subst hik
      have : t = wr.heap.size := by
        simp at hlen
        simp [hlen] at hi
        exact hi.symm
      subst this
      exact block_set_ne hnew (ne_of_blocks hnew hm1 (by simp)) _ _
  · have k1 : Kept [] w0 w1 := by
      refine ⟨hgrow.os.trans h.kept.os, hgrow.tape.trans h.kept.tape, hgrow.output.trans h.kept.output, ?_, fun b hb hf => ?_⟩
      · have := h.kept.size; have := hgrow.size; simp at this; omega
      · have hbr : b < wr.heap.size := Nat.lt_of_lt_of_le hb h.kept.size
        refine (hgrow.block b (by simp; omega) (fun e => by have := ownlt _ e.symm; omega)).trans ?_
        exact ((Below.heap_alloc _ _ _ (by simp; omega)).trans (Below.heap_alloc _ _ _ hbr)).trans (h.kept.block b hb hf)
    exact k1.setCell (.inr hm) _
  · rcases List.mem_append.1 ht with ht | ht
    · exact h.new t ht
    · have := h.kept.size
      simp at ht
      omega
theorem Making.done {m c s n : Nat} {ts : List Nat} {sl : Value} {w0 w : World} (h : Making ⟨m, c, s, 0, 0, ts⟩ n sl w0 w) (h1 : 1 ≤ n) (h6 : n ≤ 6) :
    ∃ tb cap, PAt ⟨m, c, s, tb, cap, ts⟩ 0 w false (fun _ => none) := by
  have hlen := h.len
  simp at hlen
  rcases h.row.2 with ⟨_, h0⟩ | ⟨g, cap, cur, rfl, a2, a3, a4, a5, a6, a7⟩
  · omega
  · refine ⟨g, cap, ⟨by simp; omega, by simp; omega, ?_, h.c, h.s, ⟨cur, a3, fun i t hi => ?_⟩, h.ts⟩⟩
    · have := h.m
      simp only [pmCells, hlen]
      exact this
    · have e : (cur.toList.take (n * 1))[i]? = some (.pointer (some ⟨t, 0, none⟩)) := by rw [a7]; simp at hi ⊢; exact hi
      have hin : i < n := by
        have := (List.getElem?_eq_some_iff.1 hi).1
        simp at this; omega
      simp only [Nat.mul_one, List.getElem?_take] at e
      simpa [hin] using e
set_option maxRecDepth 100000 in
set_option maxHeartbeats 4000000 in
theorem new_yes (n : Nat) (w : World) (h1 : 1 ≤ n) (h6 : n ≤ 6) : Calls Try.prog 8 #[.int .i64 n] w fun e w' => ∃ p : PM, e = .returned (.tuple #[.pointer (some ⟨p.m, 0, none⟩), .int .i64 0]) ∧
    p.ts.length = n ∧ PAt p 0 w' false (fun _ => none) ∧ w.heap.size ≤ p.m ∧ w.heap.size ≤ p.c ∧ (∀ t, t ∈ p.ts → w.heap.size ≤ t) ∧ Kept [] w w' := by
  have hmc := mkchan
  have h1' : ¬ (n : Int) < 1 := by omega
  have h6' : ¬ 6 < (n : Int) := by omega
  go_enter Try.func8, Try.ntmps8
  go_wp2_with fail
  go_cut [4] (fun x w' => ∃ m c s, x = .pointer (some ⟨m, 0, none⟩) ∧ Making ⟨m, c, s, 0, 0, []⟩ 0 (.slice none 0 0) w w' ∧ w.heap.size ≤ m ∧ w.heap.size ≤ c)
  case first =>
    go_region_with (first | (go_at_call 22; refine (snew _).mono ?_; rintro e w' ⟨rfl, rfl⟩))
    all_goals go_wp2_with fail
    all_goals go_meet
    · have t3 := three w (.chan 0 #[] false 0 0 false) (.cells shCells 97) (.cells #[.int .i32 0, .int .u32 0, .chan (some w.heap.size), .pointer (some ⟨w.heap.size + 1, 0, none⟩), .slice none 0 0] 74)
      exact ⟨_, _, _, rfl, ⟨rfl, t3.2.2, t3.1, t3.2.1, ⟨rfl, .inl ⟨rfl, rfl⟩⟩, fun i t hi => by simp at hi, ((((Kept.refl [] w).alloc _).alloc _).alloc _).drew, by simp⟩, by omega, Nat.le_refl _⟩
    · have t3 := three w (.cells shCells 97) (.chan 0 #[] false 0 0 false) (.cells #[.int .i32 0, .int .u32 0, .chan (some (w.heap.size + 1)), .pointer (some ⟨w.heap.size, 0, none⟩), .slice none 0 0] 74)
      exact ⟨_, _, _, rfl, ⟨rfl, t3.2.2, t3.2.1, t3.1, ⟨rfl, .inl ⟨rfl, rfl⟩⟩, fun i t hi => by simp at hi, ((((Kept.refl [] w).alloc _).alloc _).alloc _).drew, by simp⟩, by omega, by omega⟩
  case rest =>
    obtain ⟨m, c, s, rfl, hM, hz, hzc⟩ := hcut
    clear hmc
    go_wp2_with fail
    go_loopw [17] (fun x W => ∃ (k : Nat) (sl : Value) (ts : List Nat), k ≤ n ∧ x = .int .i64 k ∧ Making ⟨m, c, s, 0, 0, ts⟩ k sl w W) (fun x _ => n - (intOf x).toNat)
    case atStart => exact ⟨0, _, [], by omega, rfl, hM⟩
    case round =>
      obtain ⟨k, sl, ts, hkn, rfl, hR⟩ := hrel
      clear hM
      obtain ⟨i0, hi0, hz0, hz1, hz2⟩ := info_parts info79
      by_cases hlt : k < n
      · have hlt' : (k : Int) < n := by omega
        have c3 : wr.cell? ⟨m, 3, none⟩ = some (.pointer (some ⟨s, 0, none⟩)) := cell_of hR.m 3
        have c4 : wr.cell? ⟨m, 4, none⟩ = some sl := cell_of hR.m 4
        have zm := lt_of_block hR.m
        have om := hR.own_ne hR.m (by simp)
        have HR : Hid _ := hR
        clear hR
        go_wp2_with fail
        go_region_law (first
          | (refine step_append_lies _ (by rfl) _ _ _ (by rfl) w.heap.size 75 i0 _ 1 8 Try.underlying72 hi0 hz0 hz1 hz2 rfl (by omega) sl k _ (by rfl) (((HR.out.row.alloc _).alloc _).drew)
              ⟨wr.heap.size + 1, 0, none⟩ 1 1 [.pointer (some ⟨wr.heap.size, 0, none⟩)] (by rfl) (by rfl) (World.news_of_block (cs := #[.pointer (some ⟨wr.heap.size, 0, none⟩)]) (t := 75) (fr := (0, 0)) (three2 wr _ _)) (by simp [Value.oneCell'])
              (by omega) (by unfold maxLen; omega) (by omega) (by simp; have := HR.out.kept.size; omega) (wr.heap.size + 2) (by simp) ?_; intro g cap w1 hown1 hgrow hat hlt1; have hm1 := (hgrow.block m (by simp; omega) (Ne.symm om)).trans (block_alloc_lt (block_alloc_lt HR.out.m _) _); have s4 := cell_of hm1 4; have sf := frozen_of hm1 4)
          | (go_simp; go_at_call 23; refine (tnew k s _).mono ?_; rintro e w' ⟨rfl, rfl⟩))
        all_goals
          have hS := HR.out.step hown1 hgrow hz
          clear s4 sf hm1 hown1 hgrow hat c3 c4
          go_wp2
          go_roundw
          case rel => exact ⟨k + 1, _, _, by omega, by go_num, hS⟩
          case measure => simp [intOf]; omega
      · go_wp2
        go_ret2
        have hkk : k = n := by omega
        subst hkk
        obtain ⟨tb, cap, hP⟩ := hR.done h1 h6
        exact ⟨⟨m, c, s, tb, cap, ts⟩, rfl, hR.len, hP, hz, hzc, hR.new, hR.kept⟩
end Go.Proofs.Ytmnkphenobfbfaa
