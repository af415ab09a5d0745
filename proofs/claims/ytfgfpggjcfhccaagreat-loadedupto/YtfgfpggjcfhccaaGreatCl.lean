import Derived.Test.YtfgfpggjcfhccaaGreatRb
namespace Go.Proofs.YtfgfpggjcfhccaaGreat
open Go.RowKit Go.MuLone Go.Conc
theorem door_unlockN {fn : Func} {tmps : Array Value} {R : Ending → World → Prop} {W : World} (m : Nat) (v : Value)
    (hc : W.cell? ⟨m, 0, none⟩ = some (.int .i32 1)) (hz : W.frozen? ⟨m, 0, none⟩ = false)
    (hres : (results fn tmps).run Tryz.prog (W.setCell ⟨m, 0, none⟩ (.int .i32 0)) = .ok v (W.setCell ⟨m, 0, none⟩ (.int .i32 0)))
    (hR : R (.returned v) (W.setCell ⟨m, 0, none⟩ (.int .i32 0))) :
    bodyPostD Tryz.prog fn R .normal { tmps := tmps, defers := [{ target := .fn (.func 26) #[], args := #[.pointer (some ⟨m, 0, none⟩)] }] } W :=
  door_unlock m v hc hz hres hR
theorem PAt.shut {p : PM} {l : Int} {w : World} {th : Nat → Option (Int × Int × Int)} (h : PAt p l w false th) : PAt p l (w.setChan p.c 0 #[] true 0 0 false) true th := by
  obtain ⟨cs, g1, g2⟩ := h.tb
  have other : ∀ (b : Nat) (o : Obj), w.heap[b]? = some o → (∀ x, o ≠ Obj.chan 0 #[] x 0 0 false) → (w.setChan p.c 0 #[] true 0 0 false).heap[b]? = some o := by
    intro b o hb ho
    have hne : p.c ≠ b := fun e => ho false (Option.some.inj (hb.symm.trans (e ▸ h.c)))
    simp [World.setChan, Array.getElem?_setIfInBounds_ne hne, hb]
  refine ⟨h.len, h.cap, other _ _ h.m (by simp), heap_setChan _ _ _ _ _ _ _ _ (lt_of_block h.c), other _ _ h.s (by simp), ⟨cs, other _ _ g1 (by simp), g2⟩, fun i t hi => other _ _ (h.ts i t hi) (by simp)⟩
theorem Kept.setChan {F : List Nat} {a w : World} (h : Kept F a w) {c : Nat} (hp : c ∈ F ∨ a.heap.size ≤ c) (cap : Nat) (buf : Array Value) (cl : Bool) (s r : Nat) (tm : Bool) : Kept F a (w.setChan c cap buf cl s r tm) :=
  ⟨h.os, h.tape, h.output, by simpa [World.setChan] using h.size, fun k hk hf => by
    have hne : c ≠ k := by rintro rfl; rcases hp with hp | hp; exact hf hp; omega
    simp only [World.setChan]
    rw [Array.getElem?_setIfInBounds_ne hne]
    exact h.block k hk hf⟩
set_option maxRecDepth 100000 in
set_option maxHeartbeats 800000 in
theorem close_any (p : PM) (cl : Bool) (w : World) (th : Nat → Option (Int × Int × Int)) (h : PAt p 0 w cl th) :
    Calls Tryz.prog 19 #[.pointer (some ⟨p.m, 0, none⟩)] w fun e w' => e = .returned (.tuple #[]) ∧ PAt p 0 w' true th ∧ Kept [p.m, p.c] w w' := by
  have hs := lt_of_block h.m
  have h1 := h.lock 1
  have k1 : Kept [p.m, p.c] w (w.setCell ⟨p.m, 0, none⟩ (.int .i32 1)) := (Kept.refl _ w).setCell (.inl (by simp)) _
  go_enter_defers Tryz.func19, Tryz.ntmps19
  go_wp2_with fail
  refine (lock_free Tryz.muLib ⟨p.m, 0, none⟩ _ ?_ ?_).mono ?_
  · rw [cell_of h.m]; rfl
  · rw [frozen_of h.m]
  rintro e w' ⟨rfl, rfl⟩
  generalize (w.setCell ⟨p.m, 0, none⟩ (.int .i32 1)) = W at *
  go_wp2_with fail
  cases cl with
  | true =>
    refine (isClosed_yes p.m p.c 0 0 _ (by rw [cell_of h1.m]; rfl) h1.c).mono ?_
    rintro e w' ⟨rfl, rfl⟩
    go_wp2
    exact door_unlockN p.m _ (by rw [cell_of h1.m]; rfl) (by rw [frozen_of h1.m]) (results_none rfl _ _ _) ⟨rfl, h1.lock 0, k1.setCell (.inl (by simp)) _⟩
  | false =>
    refine (isClosed_no p.m p.c 0 0 _ (by rw [cell_of h1.m]; rfl) h1.c).mono ?_
    rintro e w' ⟨rfl, rfl⟩
    have c2 : w'.cell? ⟨p.m, 2, none⟩ = some (.chan (some p.c)) := cell_of h1.m 2
    have hcl := fun ats ty => run_close_open (P := Tryz.prog) (w := w') ats ty h1.c
    go_wp2
    change bodyPostD _ _ _ _ _ (w'.setChan p.c 0 #[] true 0 0 false)
    have h2 := h1.shut
    have k2 := k1.setChan (c := p.c) (.inl (by simp)) 0 #[] true 0 0 false
    exact door_unlockN p.m _ (by rw [cell_of h2.m]; rfl) (by rw [frozen_of h2.m]) (results_none rfl _ _ _) ⟨rfl, h2.lock 0, k2.setCell (.inl (by simp)) _⟩
def beginE (cl : Bool) (n : Nat) (th : Nat → Option (Int × Int × Int)) (i kind key : Int) : Int :=
  if cl = true then 5 else if (i < 0 ∨ (n : Int) ≤ i) ∨ kind < 0 ∨ key < 0 ∨ 8 ≤ key then 1 else if (th i.toNat).isSome then 2 else 0
def beginT (cl : Bool) (n : Nat) (th : Nat → Option (Int × Int × Int)) (i kind key v o : Int) : Nat → Option (Int × Int × Int) :=
  if beginE cl n th i kind key = 0 then upd th i.toNat (some (key, v, o)) else th
theorem beginE_ok {n : Nat} {th : Nat → Option (Int × Int × Int)} {i key : Int} (h : ¬ ((i < 0 ∨ (n : Int) ≤ i) ∨ (0 : Int) < 0 ∨ key < 0 ∨ 8 ≤ key)) (ht : th i.toNat = none) : beginE false n th i 0 key = 0 := by
  unfold beginE
  rw [if_neg (by simp), if_neg h, ht]
  rfl
theorem beginE_busy {n : Nat} {th : Nat → Option (Int × Int × Int)} {i key : Int} {x : Int × Int × Int} (h : ¬ ((i < 0 ∨ (n : Int) ≤ i) ∨ (0 : Int) < 0 ∨ key < 0 ∨ 8 ≤ key)) (ht : th i.toNat = some x) : beginE false n th i 0 key = 2 := by
  unfold beginE
  rw [if_neg (by simp), if_neg h, ht]
  rfl
theorem pbegin (p : PM) (i kind key v o : Int) (cl : Bool) (w : World) (th : Nat → Option (Int × Int × Int)) (h : PAt p 0 w cl th) (hk : kind ≤ 0) :
    Calls Tryz.prog 15 #[.pointer (some ⟨p.m, 0, none⟩), .int .i64 i, .agg #[.int .i64 kind, .int .i64 key, .int .i64 v, .int .i64 o]] w fun e w' => e = .returned (.int .i64 (beginE cl p.ts.length th i kind key)) ∧
      PAt p 0 w' cl (beginT cl p.ts.length th i kind key v o) ∧ Kept (p.m :: p.ts) w w' := by
  cases cl with
  | true =>
    refine (begin_closed p i kind key v o w th h).mono ?_
    rintro e w' ⟨rfl, h', k'⟩
    exact ⟨by simp [beginE], by simpa [beginT, beginE] using h', k'.mono (by simp)⟩
  | false =>
    by_cases hi : i < 0 ∨ (p.ts.length : Int) ≤ i
    · refine (begin_noThread p i kind key v o w th h hi).mono ?_
      rintro e w' ⟨rfl, h', k'⟩
      exact ⟨by simp [beginE, hi], by simpa [beginT, beginE, hi] using h', k'.mono (by simp)⟩
    · by_cases hm : kind < 0 ∨ key < 0 ∨ 8 ≤ key
      · refine (begin_arg p i kind key v o w th h (by omega) (by omega) hk hm).mono ?_
        rintro e w' ⟨rfl, h', k'⟩
        exact ⟨by simp [beginE, hi, hm], by simpa [beginT, beginE, hi, hm] using h', k'.mono (by simp)⟩
      · obtain rfl : kind = 0 := by omega
        rcases ht : th i.toNat with _ | x
        · refine (begin_ok p i key v o w th h (by omega) (by omega) (by omega) (by omega) ht).mono ?_
          rintro e w' ⟨rfl, h', k'⟩
          have he := beginE_ok (n := p.ts.length) (th := th) (i := i) (key := key) (by omega) ht
          exact ⟨by rw [he], by unfold beginT; rw [if_pos he]; exact h', k'⟩
        · refine (begin_busy p i key v o w th h (by omega) (by omega) (by omega) (by omega) ht).mono ?_
          rintro e w' ⟨rfl, h', k'⟩
          have he := beginE_busy (n := p.ts.length) (th := th) (i := i) (key := key) (by omega) ht
          exact ⟨by rw [he], by unfold beginT; rw [if_neg (by rw [he]; omega)]; exact h', k'.mono (by simp)⟩
theorem rbegin (q : RM) (i kind key v o : Int) (cl : Bool) (w : World) (th : Nat → Option (Int × Int × Int)) (h : RAt q w cl th) (hk : kind ≤ 0) :
    Calls Tryz.prog 16 #[.pointer (some ⟨q.r, 0, none⟩), .int .i64 i, .agg #[.int .i64 kind, .int .i64 key, .int .i64 v, .int .i64 o]] w fun e w' => e = .returned (.int .i64 (beginE cl q.n th i kind key)) ∧
      RAt q w' cl (beginT cl q.n th i kind key v o) ∧ Kept [q.tb] w w' := by
  cases cl with
  | true =>
    refine (rbegin_closed q i kind key v o w th h).mono ?_
    rintro e w' ⟨rfl, k'⟩
    exact ⟨by simp [beginE], by simpa [beginT, beginE] using h.keptNil k', k'.mono (by simp)⟩
  | false =>
    by_cases hi : (i < 0 ∨ (q.n : Int) ≤ i) ∨ kind < 0 ∨ key < 0 ∨ 8 ≤ key
    · refine (rbegin_arg q i kind key v o w th h hk (by omega)).mono ?_
      rintro e w' ⟨rfl, k'⟩
      exact ⟨by simp [beginE, hi], by simpa [beginT, beginE, hi] using h.keptNil k', k'.mono (by simp)⟩
    · obtain rfl : kind = 0 := by omega
      rcases ht : th i.toNat with _ | x
      · refine (rbegin_ok q i key v o w th h (by omega) (by omega) (by omega) (by omega) ht).mono ?_
        rintro e w' ⟨rfl, h', k'⟩
        have he := beginE_ok (n := q.n) (th := th) (i := i) (key := key) hi ht
        exact ⟨by rw [he], by unfold beginT; rw [if_pos he]; exact h', k'⟩
      · refine (rbegin_busy q i key v o w th h (by omega) (by omega) (by omega) (by omega) ht).mono ?_
        rintro e w' ⟨rfl, k'⟩
        have he := beginE_busy (n := q.n) (th := th) (i := i) (key := key) hi ht
        exact ⟨by rw [he], by unfold beginT; rw [if_neg (by rw [he]; omega)]; exact h.keptNil k', k'.mono (by simp)⟩
theorem keys_beginT {cl : Bool} {n : Nat} {th : Nat → Option (Int × Int × Int)} {i kind key v o : Int} (h : KeysOk th) : KeysOk (beginT cl n th i kind key v o) := by
  intro j k v' o' hj
  unfold beginT at hj
  split at hj
  · rename_i he
    unfold upd at hj
    split at hj
    · simp only [Option.some.injEq, Prod.mk.injEq] at hj
      obtain ⟨rfl, _, _⟩ := hj
      unfold beginE at he
      split at he
      · omega
      · split at he
        · omega
        · omega
    · exact h j k v' o' hj
  · exact h j k v' o' hj
end Go.Proofs.YtfgfpggjcfhccaaGreat
