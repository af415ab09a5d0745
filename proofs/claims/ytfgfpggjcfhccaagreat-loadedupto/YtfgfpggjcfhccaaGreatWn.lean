import Derived.Test.YtfgfpggjcfhccaaGreatWl
namespace Go.Proofs.YtfgfpggjcfhccaaGreat
open Go.RowKit
theorem info22 : (Tryz.prog.info? 22).map (fun i => (i.zero, i.size, i.bytes)) = some (some (.pointer none), 1, 8) := by kernel_rfl
theorem ownsRow.kept22 {w w' : World} {B n : Nat} {sl : Value} {zs : List Value} (h : w.ownsRow B 22 1 sl n zs) (k : Kept [] w w') : w'.ownsRow B 22 1 sl n zs := by
  refine ⟨h.1, ?_⟩
  rcases h.2 with h2 | ⟨g, cap, cur, a1, a2, a3, a4⟩
  · exact .inl h2
  · exact .inr ⟨g, cap, cur, a1, a2, k.at a3 (by simp), a4⟩
structure Opened0 (wb : Nat) (w w' : World) : Prop where
  out : ∃ b p q, p.ts.length = 3 ∧ WAt wb b p q false (fun _ => none) 0 w w'
set_option maxRecDepth 100000 in
set_option maxHeartbeats 3200000 in
theorem wstep_new (wb : Nat) (w0 w : World) (hb : w.heap[wb]? = some (.cells #[.slice none 0 0, .slice none 0 0, .slice none 0 0] 64 (0, 0))) (hw : Kept [] w0 w) (hz : w0.heap.size ≤ wb) :
    Calls Tryz.prog 20 #[.pointer (some ⟨wb, 0, none⟩), .agg #[.int .i64 1, .int .i64 0, .int .i64 3, .int .i64 0, .int .i64 0, .int .i64 0, .int .i64 0]] w fun e w' => e = .returned (.bool true) ∧ Opened0 wb w0 w' := by
  obtain ⟨i1, hi1, hy0, hy1, hy2⟩ := info_parts info22
  have zb := lt_of_block hb
  have hK : Kept [] w (w.alloc (.cells #[.int .i64 1, .int .i64 0, .int .i64 3, .int .i64 0, .int .i64 0, .int .i64 0, .int .i64 0] 34)) := (Kept.refl _ w).alloc _
  go_enter Tryz.func20, Tryz.ntmps20
  go_wp2_with fail
  generalize (w.alloc (.cells #[.int .i64 1, .int .i64 0, .int .i64 3, .int .i64 0, .int .i64 0, .int .i64 0, .int .i64 0] 34)) = W0 at *
  refine (open_yes 3 W0 (by omega) (by omega)).mono ?_
  rintro e w1 ⟨b, p, q, rfl, hl3, hT, k1, hzb, hf⟩
  have K1 := hK.trans k1
  have hb1 := K1.at hb (by simp)
  have d0 : w1.cell? ⟨wb, 0, none⟩ = some (.slice none 0 0) := cell_of hb1 0
  have zb1 := lt_of_block hb1
  have kz := K1.size
  have hz1 := hw.size
  have zW := hK.size
  have row0 : (w1.alloc (.cells #[.pointer (some ⟨b, 0, none⟩)] 22)).ownsRow w0.heap.size 22 1 (.slice none 0 0) 0 [] := ⟨rfl, .inl ⟨rfl, rfl⟩⟩
  have HF : Hid _ := And.intro hl3 (And.intro hT hf)
  clear hl3 hT hf
  go_wp2_with (at_builtin; go_must (refine wpList_append_lies _ rfl _ _ _ rfl w0.heap.size 22 i1 _ 1 8 Tryz.underlying61 hi1 hy0 hy1 hy2 rfl (by omega) (.slice none 0 0) 0 [] rfl row0 ⟨w1.heap.size, 0, none⟩ 1 1 [.pointer (some ⟨b, 0, none⟩)] rfl rfl (news1 w1 _ 22) (by simp [Value.oneCell']) (by omega) (by unfold maxLen; omega) (by omega) (by simp; omega) (w1.heap.size + 1) (by simp) ?_); intro g cap w2 hown1 hgrow hat hlt1; have hm1 := (hgrow.block wb (by simp; omega) (by simp [Value.ownBlock])).trans (block_alloc_lt hb1 _); have s4 := cell_of hm1 0; have sf := frozen_of hm1 0)
  go_ret
  refine ⟨rfl, ⟨b, p, q, HF.out.1, ?_⟩⟩
  have k2 : Kept [] w1 w2 := by
    refine ⟨hgrow.os, hgrow.tape, hgrow.output, ?_, fun x hx _ => ?_⟩
    · have := hgrow.size; simp at this; omega
    · exact (hgrow.block x (by simp; omega) (by simp [Value.ownBlock])).trans (Below.heap_alloc _ _ _ hx)
  have hg : g = w1.heap.size + 1 := by
    rcases hat with h | h
    · simp [Value.ownBlock] at h
    · exact h
  obtain ⟨cur, hcur, hcur0⟩ : ∃ cur, w2.heap[g]? = some (.cells cur 22 (0, 0)) ∧ cur[0]? = some (.pointer (some ⟨b, 0, none⟩)) := by
    rcases hown1.2 with ⟨_, h0⟩ | ⟨g', cap', cur, e1, _, e3, _, _, _, e7⟩
    · omega
    · cases e1
      refine ⟨cur, e3, ?_⟩
      have := congrArg (fun l => l[0]?) e7
      simpa using this
  have T2 := HF.out.2.1.keptNil k2
  have k3 : Kept [wb] w2 (w2.setCell ⟨wb, 0, none⟩ (.slice (some ⟨g, 0, none⟩) 1 cap)) := (Kept.refl _ w2).setCell (.inl (by simp)) _
  have r3 : Rows25 [wb] w2 := fun y hy => by simp at hy; subst hy; exact ⟨_, .inl hm1⟩
  refine ⟨T2.rows k3 r3, (fun i k v o hh => by cases hh), ⟨g, cap, .slice none 0 0, .slice none 0 0, [], [], cur, ?_, block_set_ne hcur (ne_of_blocks hcur hm1 (by simp)) _ _, hcur0, ?_⟩, fun x hx => ?_, ?_⟩
  · rw [block_set_same hm1]; simp
  · exact ⟨⟨rfl, .inl ⟨rfl, rfl⟩⟩, ⟨rfl, .inl ⟨rfl, rfl⟩⟩, fun g hg => by simp [Value.ownBlock] at hg, fun k x hk => by simp at hk, fun k x hk => by simp at hk⟩
  · rcases List.mem_cons.1 hx with rfl | hx
    · exact hz
    · have := HF.out.2.2 x hx; omega
  · exact (hw.trans (K1.trans k2)).setCell (.inr hz) _
end Go.Proofs.YtfgfpggjcfhccaaGreat
