import Derived.Test.YtfgfpggjcfhccaaGreatSt
import Derived.Conc.LoneCalls
import Derived.Conc.LoneSelect
import Derived.WalkKit
import Derived.KernelRfl
namespace Go.Proofs.YtfgfpggjcfhccaaGreat
open Go.RowKit Go.Conc
set_option maxRecDepth 100000 in
theorem isClosed_no (m c s r : Nat) (w : World) (h2 : w.cell? ⟨m, 2, none⟩ = some (.chan (some c))) (hc : w.heap[c]? = some (.chan 0 #[] false s r false)) :
    Calls Tryz.prog 29 #[.pointer (some ⟨m, 0, none⟩)] w fun e w' => e = .returned (.bool false) ∧ w' = w := by
  refine calls_of_loneTo fun cs => ?_
  have e : Frame.enter Tryz.prog 29 #[.pointer (some ⟨m, 0, none⟩)] .normal = (base 29).at ⟨#[.pointer (some ⟨m, 0, none⟩), undef, undef, undef, undef, undef, undef, undef, undef, undef], []⟩ [.code (Tryz.f29.body.getD .skip)] := by
    simp [Frame.enter, Frame.at, Tryz.func29, base, Tryz.f29]
  rw [e]
  refine LoneTo.goes (n := 13) ?_
  simp only [Tryz.f29, Option.getD_some]
  s_c stepG_seq
  s_reg
  s_op
  s_c stepG_region_end
  s_c stepG_seq
  s_reg
  s_op
  s_op
  s_op
  s_op
  s_c stepG_region_end
  s_c stepG_seq
  s_reg
  s_stop
  refine LoneTo.step (step_lone_select_default (c := c) (z := .agg #[]) (cap := 0) (s := s) (r := r) (tm := false)
    (stepG_comm (cases := #[rcase c (.agg #[])]) (blocking := false) (shape := .select) (w' := w) rfl rfl (by decide) (by simp [go_sem, execOp, rcase, Act.eval])) hc) ?_
  rw [Frame.finish_at]
  walk_nrm
  refine LoneTo.goes (n := 12) ?_
  s_op
  s_op
  s_c stepG_region_end
  s_c stepG_block
  s_cond false
  s_c stepG_seq
  s_reg
  s_op
  s_c stepG_region_end
  s_c stepG_ret'
  s_stop
  exact LoneTo.done ⟨.returned (.bool false), _, rfl, ⟨rfl, rfl⟩, rfl, rfl, rfl, rfl, _, Tryz.func29, by simp [results, Tryz.f29, Frame.at]⟩
set_option maxRecDepth 100000 in
theorem isClosed_yes (m c s r : Nat) (w : World) (h2 : w.cell? ⟨m, 2, none⟩ = some (.chan (some c))) (hc : w.heap[c]? = some (.chan 0 #[] true s r false)) :
    Calls Tryz.prog 29 #[.pointer (some ⟨m, 0, none⟩)] w fun e w' => e = .returned (.bool true) ∧ w' = w := by
  refine calls_of_loneTo fun cs => ?_
  have e : Frame.enter Tryz.prog 29 #[.pointer (some ⟨m, 0, none⟩)] .normal = (base 29).at ⟨#[.pointer (some ⟨m, 0, none⟩), undef, undef, undef, undef, undef, undef, undef, undef, undef], []⟩ [.code (Tryz.f29.body.getD .skip)] := by
    simp [Frame.enter, Frame.at, Tryz.func29, base, Tryz.f29]
  rw [e]
  refine LoneTo.goes (n := 13) ?_
  simp only [Tryz.f29, Option.getD_some]
  s_c stepG_seq
  s_reg
  s_op
  s_c stepG_region_end
  s_c stepG_seq
  s_reg
  s_op
  s_op
  s_op
  s_op
  s_c stepG_region_end
  s_c stepG_seq
  s_reg
  s_stop
  refine LoneTo.step (step_lone_select_recv_shut (c := c) (z := .agg #[]) (cap := 0) (s := s) (r := r) (tm := false)
    (stepG_comm (cases := #[rcase c (.agg #[])]) (blocking := false) (shape := .select) (w' := w) rfl rfl (by decide) (by simp [go_sem, execOp, rcase, Act.eval])) hc) ?_
  rw [Frame.finish_at]
  walk_nrm
  refine LoneTo.goes (n := 12) ?_
  s_op
  s_op
  s_c stepG_region_end
  s_c stepG_block
  s_cond true
  s_c stepG_seq
  s_reg
  s_op
  s_c stepG_region_end
  s_c stepG_ret'
  s_stop
  exact LoneTo.done ⟨.returned (.bool true), _, rfl, ⟨rfl, rfl⟩, rfl, rfl, rfl, rfl, _, Tryz.func29, by simp [results, Tryz.f29, Frame.at]⟩
end Go.Proofs.YtfgfpggjcfhccaaGreat
