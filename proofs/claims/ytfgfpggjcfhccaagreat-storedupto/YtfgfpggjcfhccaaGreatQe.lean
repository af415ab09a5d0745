import Derived.Test.YtfgfpggjcfhccaaGreatQd
import Derived.Test.YtfgfpggjcfhccaaGreatLd
namespace Go.Proofs.YtfgfpggjcfhccaaGreat
open Go.RowKit Go.MuLone
theorem GAt.kept {p : PM} {en : Nat → Nat} {l : Int} {m : M} {w w' : World} {F : List Nat} (h : GAt p en l m w) (k : Kept F w w') (h1 : p.m ∉ F) (h2 : p.c ∉ F) (h3 : p.s ∉ F) (h4 : p.tb ∉ F) (h5 : ∀ (i t : Nat), p.ts[i]? = some t → t ∉ F) (h6 : ∀ j, j < m.nc → en j ∉ F) : GAt p en l m w' := by
  obtain ⟨cs, g1, g2⟩ := h.tb
  refine ⟨h.len, h.nth, h.cap, k.at h.mp h1, k.at h.c h2, k.at h.s h3, ⟨cs, k.at g1 h4, g2⟩, fun i t ht => ?_, fun j hj => k.at (h.es j hj) (h6 j hj), h.inj⟩
  obtain ⟨cp, a, b⟩ := h.ts i t ht
  exact ⟨cp, a, k.at b (h5 i t ht)⟩
theorem GAt.keptNil {p : PM} {en : Nat → Nat} {l : Int} {m : M} {w w' : World} (h : GAt p en l m w) (k : Kept [] w w') : GAt p en l m w' :=
  h.kept k (by simp) (by simp) (by simp) (by simp) (fun _ _ _ => by simp) (fun _ _ => by simp)
theorem GAt.alloc {p : PM} {en : Nat → Nat} {l : Int} {m : M} {w : World} (h : GAt p en l m w) (o : Obj) : GAt p en l m (w.alloc o) := h.keptNil ((Kept.refl [] w).alloc o)
theorem GAt.drew {p : PM} {en : Nat → Nat} {l : Int} {m : M} {w : World} (h : GAt p en l m w) : GAt p en l m w.drew := h.keptNil (Kept.refl [] w).drew
/-- A cell of a block that is none of the map's. -/
theorem GAt.set {p : PM} {en : Nat → Nat} {l : Int} {m : M} {w : World} (h : GAt p en l m w) {b : Nat} {cs : Array Value} {T : TypeId} {z : Nat × Nat}
    (hb : w.heap[b]? = some (.cells cs T z)) (h1 : T ≠ 78) (h2 : T ≠ 111) (h3 : T ≠ 79) (h4 : T ≠ 116) (h5 : T ≠ 141) (o : Nat) (v : Value) : GAt p en l m (w.setCell ⟨b, o, none⟩ v) := by
  obtain ⟨cs', g1, g2⟩ := h.tb
  refine h.kept (F := [b]) ((Kept.refl [b] w).setCell (.inl (by simp)) v) ?_ ?_ ?_ ?_ ?_ ?_
  · simpa using ne_of_blocks h.mp hb (by intro e; injection e with _ e2 _; exact h1 e2.symm)
  · simpa using ne_of_blocks h.c hb (by simp)
  · simpa using ne_of_blocks h.s hb (by intro e; injection e with _ e2 _; exact h2 e2.symm)
  · simpa using ne_of_blocks g1 hb (by intro e; injection e with _ e2 _; exact h3 e2.symm)
  · intro i t ht
    obtain ⟨cp, _, c⟩ := h.ts i t ht
    simpa using ne_of_blocks c hb (by intro e; injection e with _ e2 _; exact h4 e2.symm)
  · intro j hj
    simpa using ne_of_blocks (h.es j hj) hb (by intro e; injection e with _ e2 _; exact h5 e2.symm)
/-- The lock's word is another. -/
theorem GAt.lock {p : PM} {en : Nat → Nat} {l : Int} {m : M} {w : World} (h : GAt p en l m w) (l' : Int) : GAt p en l' m (w.setCell ⟨p.m, 0, none⟩ (.int .i32 l')) := by
  obtain ⟨cs, g1, g2⟩ := h.tb
  refine ⟨h.len, h.nth, h.cap, ?_, ?_, ?_, ⟨cs, ?_, g2⟩, fun i t ht => ?_, fun j hj => ?_, h.inj⟩
  · rw [block_set_same h.mp]; simp [pmCells]
  · exact block_set_ne h.c (ne_of_blocks h.c h.mp (by simp)) _ _
  · exact block_set_ne h.s (ne_of_blocks h.s h.mp (by simp)) _ _
  · exact block_set_ne g1 (ne_of_blocks g1 h.mp (by simp)) _ _
  · obtain ⟨cp, a, b⟩ := h.ts i t ht
    exact ⟨cp, a, block_set_ne b (ne_of_blocks b h.mp (by simp)) _ _⟩
  · exact block_set_ne (h.es j hj) (ne_of_blocks (h.es j hj) h.mp (by simp)) _ _
theorem GAt.fp_lt {p : PM} {en : Nat → Nat} {l : Int} {m : M} {w : World} (h : GAt p en l m w) : ∀ x, x ∈ fp p en m → x < w.heap.size := by
  intro x hx
  simp only [fp, List.mem_cons, List.mem_append, List.mem_map, List.mem_range] at hx
  rcases hx with rfl | hx | ⟨j, hj, rfl⟩
  · exact lt_of_block h.s
  · obtain ⟨i, hi⟩ := List.mem_iff_getElem?.1 hx
    obtain ⟨_, _, c⟩ := h.ts i x hi
    exact lt_of_block c
  · exact lt_of_block (h.es j hj)
/-- What a call of Step leaves. -/
def GRes (p : PM) (en : Nat → Nat) (l : Int) (m : M) (F : List Nat) (w : World) (a : Ans) (e : Ending) (w' : World) : Prop :=
  e = .returned (ans a.o.d a.o.f a.o.v a.err) ∧ ∃ en', GAt p en' l a.o.m w' ∧ (∀ j, j < m.nc → en' j = en j) ∧ (∀ j, m.nc ≤ j → j < a.o.m.nc → w.heap.size ≤ en' j) ∧ Kept F w w'
def M.ansOf (m : M) (i : Nat) : Ans := match m.does i with
  | none => m.still 4
  | some o => ⟨0, o⟩
theorem g_step' {p : PM} {en : Nat → Nat} {l : Int} {m : M} {w : World} (h : GAt p en l m w) (hI : m.Inv) {i t : Nat} (ht : p.ts[i]? = some t) (ho : ThOk m (m.ths i)) (hk : (m.ths i).kind = 0 ∨ (m.ths i).kind = 1) :
    Calls Tryz.prog (fnOf (m.ths i).kind (m.ths i).at_) #[.pointer (some ⟨t, 0, none⟩)] w (GRes p en l m (fp p en m) w (m.ansOf i)) := by
  refine Calls.mono (g_step h hI ht ho hk) ?_
  intro e w' hh
  unfold M.ansOf
  cases hd : m.does i with
  | none =>
    rw [hd] at hh
    obtain ⟨rfl, k⟩ := hh
    exact ⟨rfl, en, h.keptNil k, fun _ _ => rfl, fun j h1 h2 => absurd h2 (by show ¬ j < m.nc; omega), k.mono (by simp)⟩
  | some o =>
    rw [hd] at hh
    exact hh
theorem ent68 (args : Array Value) (w : World) : (callFunc 68 args).run Tryz.prog w = .ok (.enter 68 args) w := run_callFunc_enter Tryz.func68 (by kernel_rfl) rfl args w
theorem ent82 (args : Array Value) (w : World) : (callFunc 82 args).run Tryz.prog w = .ok (.enter 82 args) w := run_callFunc_enter Tryz.func82 (by kernel_rfl) rfl args w
theorem ent88 (args : Array Value) (w : World) : (callFunc 88 args).run Tryz.prog w = .ok (.enter 88 args) w := run_callFunc_enter Tryz.func88 (by kernel_rfl) rfl args w
theorem ent93 (args : Array Value) (w : World) : (callFunc 93 args).run Tryz.prog w = .ok (.enter 93 args) w := run_callFunc_enter Tryz.func93 (by kernel_rfl) rfl args w
theorem ent99 (args : Array Value) (w : World) : (callFunc 99 args).run Tryz.prog w = .ok (.enter 99 args) w := run_callFunc_enter Tryz.func99 (by kernel_rfl) rfl args w
theorem ent104 (args : Array Value) (w : World) : (callFunc 104 args).run Tryz.prog w = .ok (.enter 104 args) w := run_callFunc_enter Tryz.func104 (by kernel_rfl) rfl args w
theorem ent112 (args : Array Value) (w : World) : (callFunc 112 args).run Tryz.prog w = .ok (.enter 112 args) w := run_callFunc_enter Tryz.func112 (by kernel_rfl) rfl args w
theorem ent116 (args : Array Value) (w : World) : (callFunc 116 args).run Tryz.prog w = .ok (.enter 116 args) w := run_callFunc_enter Tryz.func116 (by kernel_rfl) rfl args w
theorem ent92 (args : Array Value) (w : World) : (callFunc 92 args).run Tryz.prog w = .ok (.enter 92 args) w := run_callFunc_enter Tryz.func92 (by kernel_rfl) rfl args w
theorem ent80 (args : Array Value) (w : World) : (callFunc 80 args).run Tryz.prog w = .ok (.enter 80 args) w := run_callFunc_enter Tryz.func80 (by kernel_rfl) rfl args w
theorem ent69 (args : Array Value) (w : World) : (callFunc 69 args).run Tryz.prog w = .ok (.enter 69 args) w := run_callFunc_enter Tryz.func69 (by kernel_rfl) rfl args w
theorem ent84 (args : Array Value) (w : World) : (callFunc 84 args).run Tryz.prog w = .ok (.enter 84 args) w := run_callFunc_enter Tryz.func84 (by kernel_rfl) rfl args w
theorem ent90 (args : Array Value) (w : World) : (callFunc 90 args).run Tryz.prog w = .ok (.enter 90 args) w := run_callFunc_enter Tryz.func90 (by kernel_rfl) rfl args w
theorem ent83 (args : Array Value) (w : World) : (callFunc 83 args).run Tryz.prog w = .ok (.enter 83 args) w := run_callFunc_enter Tryz.func83 (by kernel_rfl) rfl args w
theorem ent89 (args : Array Value) (w : World) : (callFunc 89 args).run Tryz.prog w = .ok (.enter 89 args) w := run_callFunc_enter Tryz.func89 (by kernel_rfl) rfl args w
theorem ent95 (args : Array Value) (w : World) : (callFunc 95 args).run Tryz.prog w = .ok (.enter 95 args) w := run_callFunc_enter Tryz.func95 (by kernel_rfl) rfl args w
theorem ent103 (args : Array Value) (w : World) : (callFunc 103 args).run Tryz.prog w = .ok (.enter 103 args) w := run_callFunc_enter Tryz.func103 (by kernel_rfl) rfl args w
theorem ent94 (args : Array Value) (w : World) : (callFunc 94 args).run Tryz.prog w = .ok (.enter 94 args) w := run_callFunc_enter Tryz.func94 (by kernel_rfl) rfl args w
theorem ent102 (args : Array Value) (w : World) : (callFunc 102 args).run Tryz.prog w = .ok (.enter 102 args) w := run_callFunc_enter Tryz.func102 (by kernel_rfl) rfl args w
theorem ent115 (args : Array Value) (w : World) : (callFunc 115 args).run Tryz.prog w = .ok (.enter 115 args) w := run_callFunc_enter Tryz.func115 (by kernel_rfl) rfl args w
theorem ent114 (args : Array Value) (w : World) : (callFunc 114 args).run Tryz.prog w = .ok (.enter 114 args) w := run_callFunc_enter Tryz.func114 (by kernel_rfl) rfl args w
theorem ent101 (args : Array Value) (w : World) : (callFunc 101 args).run Tryz.prog w = .ok (.enter 101 args) w := run_callFunc_enter Tryz.func101 (by kernel_rfl) rfl args w
theorem ent100 (args : Array Value) (w : World) : (callFunc 100 args).run Tryz.prog w = .ok (.enter 100 args) w := run_callFunc_enter Tryz.func100 (by kernel_rfl) rfl args w
theorem ent106 (args : Array Value) (w : World) : (callFunc 106 args).run Tryz.prog w = .ok (.enter 106 args) w := run_callFunc_enter Tryz.func106 (by kernel_rfl) rfl args w
theorem ent70 (args : Array Value) (w : World) : (callFunc 70 args).run Tryz.prog w = .ok (.enter 70 args) w := run_callFunc_enter Tryz.func70 (by kernel_rfl) rfl args w
theorem ite_mem {c : Prop} [Decidable c] {a b : Nat} {l : List Nat} (ha : a ∈ l) (hb : b ∈ l) : (if c then a else b) ∈ l := by
  by_cases h : c
  · rw [if_pos h]; exact ha
  · rw [if_neg h]; exact hb
theorem fnEnter (kind a : Int) (args : Array Value) (w : World) : (callFunc (fnOf kind a) args).run Tryz.prog w = .ok (.enter (fnOf kind a) args) w := by
  have key : ∀ n, n ∈ [68, 82, 88, 93, 99, 104, 112, 116, 92, 80, 69, 84, 90, 83, 89, 95, 103, 94, 102, 115, 114, 101, 100, 106, 70] → (callFunc n args).run Tryz.prog w = .ok (.enter n args) w := by
    intro n hn
    simp only [List.mem_cons, List.not_mem_nil, or_false] at hn
    rcases hn with rfl | rfl | rfl | rfl | rfl | rfl | rfl | rfl | rfl | rfl | rfl | rfl | rfl | rfl | rfl | rfl | rfl | rfl | rfl | rfl | rfl | rfl | rfl | rfl | rfl
    · exact ent68 args w
    · exact ent82 args w
    · exact ent88 args w
    · exact ent93 args w
    · exact ent99 args w
    · exact ent104 args w
    · exact ent112 args w
    · exact ent116 args w
    · exact ent92 args w
    · exact ent80 args w
    · exact ent69 args w
    · exact ent84 args w
    · exact ent90 args w
    · exact ent83 args w
    · exact ent89 args w
    · exact ent95 args w
    · exact ent103 args w
    · exact ent94 args w
    · exact ent102 args w
    · exact ent115 args w
    · exact ent114 args w
    · exact ent101 args w
    · exact ent100 args w
    · exact ent106 args w
    · exact ent70 args w
  refine key _ ?_
  unfold fnOf
  repeat' with_reducible apply ite_mem
  all_goals simp
set_option maxRecDepth 100000 in
set_option maxHeartbeats 800000 in
theorem g_tstep {p : PM} {en : Nat → Nat} {l : Int} {m : M} {w : World} (h : GAt p en l m w) (hI : m.Inv) {i t : Nat} (ht : p.ts[i]? = some t) (ho : ThOk m (m.ths i)) (hk : (m.ths i).kind = 0 ∨ (m.ths i).kind = 1) (hat : ¬ (m.ths i).at_ = 0) :
    Calls Tryz.prog 34 #[.pointer (some ⟨t, 0, none⟩)] w (GRes p en l m (fp p en m) w (m.ansOf i)) := by
  obtain ⟨cp, _, hb⟩ := h.ts i t ht
  rw [tcOf_busy hat] at hb
  have run := g_step' (h.alloc (.cells #[.bool false, .bool false, .int .i64 0] 52)) hI ht ho hk
  have hlt := h.fp_lt
  have hin := fnEnter (m.ths i).kind (m.ths i).at_
  have h10 : w.cell? ⟨t, 10, none⟩ = some (.func (.func (fnOf (m.ths i).kind (m.ths i).at_)) #[.pointer (some ⟨t, 0, none⟩)] #[]) := cell_of hb 10
  have hs := lt_of_block hb
  have hbx : (w.alloc (.cells #[.bool false, .bool false, .int .i64 0] 52)).cell? ⟨t, 10, none⟩ = some (.func (.func (fnOf (m.ths i).kind (m.ths i).at_)) #[.pointer (some ⟨t, 0, none⟩)] #[]) := cell_of (block_alloc_lt hb _) 10
  generalize fnOf (m.ths i).kind (m.ths i).at_ = n at *
  generalize m.ansOf i = a at *
  have RUN : Hid _ := run
  have HB : Hid _ := hbx
  clear run hb hbx ho hk hat hI h ht
  go_enter Tryz.func34, Tryz.ntmps34
  go_wp2_with fail
  refine (busy_yes t (.func n) #[.pointer (some ⟨t, 0, none⟩)] #[] _ HB.out).mono ?_
  rintro e w' ⟨rfl, rfl⟩
  go_wp2_with fail
  refine Calls.mono RUN.out ?_
  rintro e w2 ⟨rfl, en', h2, q1, q2, k2⟩
  have r2 : w2.heap[w.heap.size]? = some (.cells #[.bool false, .bool false, .int .i64 0] 52 (0, 0)) := k2.at (block_alloc_new _ _) (fun hx => Nat.lt_irrefl _ (hlt _ hx))
  have hc2 : ∀ o, w2.cell? ⟨w.heap.size, o, none⟩ = #[.bool false, .bool false, .int .i64 0][o]? := cell_of r2
  have hf2 : ∀ o, w2.frozen? ⟨w.heap.size, o, none⟩ = false := frozen_of r2
  have H2 : Hid _ := h2
  have Q2 : Hid _ := q2
  have Q1 : Hid _ := q1
  have K2 : Hid _ := k2
  clear h10 h2 q1 q2 k2
  simp only [ans]
  go_wp2
  have h3 := ((H2.out.set r2 (by decide) (by decide) (by decide) (by decide) (by decide) 0 (.bool a.o.d)).set (block_set_same r2 0 _) (by decide) (by decide) (by decide) (by decide) (by decide) 1 (.bool a.o.f)).set (block_set_same (block_set_same r2 0 _) 1 _) (by decide) (by decide) (by decide) (by decide) (by decide) 2 (.int .i64 a.o.v)
  refine bodyPost_ret (v := ans a.o.d a.o.f a.o.v a.err) (by simp [results, Tryz.results34, go_sem, ans, cell_of (resLaidP r2 a.o.d a.o.f a.o.v)]) rfl ⟨rfl, en', h3, Q1.out, fun j h1 h2 => ?_, ?_⟩
  · have := Q2.out j h1 h2
    simp only [World.size_alloc] at this
    omega
  · exact ((((Kept.refl (fp p en m) w).alloc _).trans K2.out)).res (Nat.le_refl _) _ _ _
end Go.Proofs.YtfgfpggjcfhccaaGreat
