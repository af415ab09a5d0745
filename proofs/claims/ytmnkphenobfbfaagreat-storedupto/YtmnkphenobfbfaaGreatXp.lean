import Derived.Test.YtmnkphenobfbfaaGreatXn
import Derived.Test.YtmnkphenobfbfaaGreatXo
import Derived.Test.YtmnkphenobfbfaaGreatGa
namespace Go.Proofs.YtmnkphenobfbfaaGreat
open Go.RowKit
/-- What a call of Step leaves. -/
def RRes (r tb : Nat) (sl : Value) (B : Nat) (w : World) (a : Ans) (e : Ending) (w' : World) : Prop :=
  e = .returned (ans a.o.d a.o.f a.o.v a.err) ∧ (∃ sl', RefAt r tb sl' B a.o.m w' ∧ ∀ g, sl'.ownBlock = some g → sl.ownBlock = some g ∨ w.heap.size ≤ g) ∧ Kept (r :: tb :: sl.ownBlock.toList) w w'
set_option maxRecDepth 100000 in
set_option maxHeartbeats 800000 in
theorem r_closed {r tb : Nat} {sl : Value} {B : Nat} {m : M} {w : World} (h : RefAt r tb sl B m w) (n : Int) (hc : m.cl = true) :
    Calls Tryz.prog 19 #[.pointer (some ⟨r, 0, none⟩), .int .i64 n] w (RRes r tb sl B w (m.still 5)) := by
  obtain ⟨hsr, hfr, -, -, -, -, -, -, c20, c21, c22⟩ := h.mapCell
  have H : Hid _ := h
  rw [hc] at c21
  clear h hc
  go_enter Tryz.func19, Tryz.ntmps19
  go_wp2
  refine bodyPost_ret (v := ans false false 0 5) (by simp [results, Tryz.results19, go_sem, ans]) rfl ⟨rfl, ⟨sl, H.out.alloc _, fun g hg => .inl hg⟩, (Kept.refl _ w).alloc _⟩
set_option maxRecDepth 100000 in
set_option maxHeartbeats 800000 in
theorem r_arg {r tb : Nat} {sl : Value} {B : Nat} {m : M} {w : World} (h : RefAt r tb sl B m w) (n : Int) (hc : m.cl = false) (hn : n < 0 ∨ (m.nth : Int) ≤ n) :
    Calls Tryz.prog 19 #[.pointer (some ⟨r, 0, none⟩), .int .i64 n] w (RRes r tb sl B w (m.still 1)) := by
  obtain ⟨hsr, hfr, -, -, -, -, -, -, c20, c21, c22⟩ := h.mapCell
  have H : Hid _ := h
  rw [hc] at c21
  clear h hc
  by_cases hn0 : n < 0
  · clear hn
    go_enter Tryz.func19, Tryz.ntmps19
    go_wp2
    refine bodyPost_ret (v := ans false false 0 1) (by simp [results, Tryz.results19, go_sem, ans]) rfl ⟨rfl, ⟨sl, H.out.alloc _, fun g hg => .inl hg⟩, (Kept.refl _ w).alloc _⟩
  · have hn1 : (m.nth : Int) ≤ n := by omega
    clear hn
    go_enter Tryz.func19, Tryz.ntmps19
    go_wp2
    refine bodyPost_ret (v := ans false false 0 1) (by simp [results, Tryz.results19, go_sem, ans]) rfl ⟨rfl, ⟨sl, H.out.alloc _, fun g hg => .inl hg⟩, (Kept.refl _ w).alloc _⟩
set_option maxRecDepth 100000 in
set_option maxHeartbeats 800000 in
theorem r_idle {r tb : Nat} {sl : Value} {B : Nat} {m : M} {w : World} (h : RefAt r tb sl B m w) (n : Int) (hc : m.cl = false) (h0 : 0 ≤ n) (h1 : n < (m.nth : Int)) (hat : (m.ths n.toNat).at_ = 0) :
    Calls Tryz.prog 19 #[.pointer (some ⟨r, 0, none⟩), .int .i64 n] w (RRes r tb sl B w (m.still 3)) := by
  obtain ⟨hsr, hfr, -, -, -, -, -, -, c20, c21, c22⟩ := h.mapCell
  have H : Hid _ := h
  have hi' : n.toNat < m.nth := by omega
  obtain ⟨hs, hf, t0, -, -, -, t4, -⟩ := h.thCell hi'
  have hn0 : ¬ n < 0 := by omega
  have hn1 : ¬ (m.nth : Int) ≤ n := by omega
  rw [hc] at c21
  rw [hat] at t4
  clear h hc hat
  go_enter Tryz.func19, Tryz.ntmps19
  go_wp2
  refine bodyPost_ret (v := ans false false 0 3) (by simp [results, Tryz.results19, go_sem, ans]) rfl ⟨rfl, ⟨sl, H.out.alloc _, fun g hg => .inl hg⟩, (Kept.refl _ w).alloc _⟩
set_option maxRecDepth 100000 in
set_option maxHeartbeats 800000 in
theorem r_blocked4 {r tb : Nat} {sl : Value} {B : Nat} {m : M} {w : World} (h : RefAt r tb sl B m w) (n : Int) (hc : m.cl = false) (h0 : 0 ≤ n) (h1 : n < (m.nth : Int)) (hk : (m.ths n.toNat).kind = 1) (hat : (m.ths n.toNat).at_ = 4) (hh : 0 ≤ m.hol) :
    Calls Tryz.prog 19 #[.pointer (some ⟨r, 0, none⟩), .int .i64 n] w (RRes r tb sl B w (m.still 4)) := by
  obtain ⟨hsr, hfr, -, -, -, -, -, -, c20, c21, c22⟩ := h.mapCell
  have H : Hid _ := h
  have hi' : n.toNat < m.nth := by omega
  obtain ⟨hs, hf, t0, -, -, -, t4, -⟩ := h.thCell hi'
  have hn0 : ¬ n < 0 := by omega
  have hn1 : ¬ (m.nth : Int) ≤ n := by omega
  rw [hc] at c21
  rw [hat] at t4
  rw [hk] at t0
  clear h hc hat hk
  generalize m.hol = hl at *
  go_enter Tryz.func19, Tryz.ntmps19
  go_wp2
  refine bodyPost_ret (v := ans false false 0 4) (by simp [results, Tryz.results19, go_sem, ans]) rfl ⟨rfl, ⟨sl, H.out.alloc _, fun g hg => .inl hg⟩, (Kept.refl _ w).alloc _⟩
set_option maxRecDepth 100000 in
set_option maxHeartbeats 800000 in
theorem r_takes4 {r tb : Nat} {sl : Value} {B : Nat} {m : M} {w : World} (h : RefAt r tb sl B m w) (n : Int) (hc : m.cl = false) (h0 : 0 ≤ n) (h1 : n < (m.nth : Int)) (hk : (m.ths n.toNat).kind = 1) (hat : (m.ths n.toNat).at_ = 4) (hh : m.hol < 0) :
    Calls Tryz.prog 19 #[.pointer (some ⟨r, 0, none⟩), .int .i64 n] w (RRes r tb sl B w (⟨0, { m with hol := n }.goes n.toNat 5⟩)) := by
  obtain ⟨hsr, hfr, -, -, -, -, -, -, c20, c21, c22⟩ := h.mapCell
  have H : Hid _ := h
  have hi' : n.toNat < m.nth := by omega
  obtain ⟨hs, hf, t0, -, -, -, t4, -⟩ := h.thCell hi'
  have hn0 : ¬ n < 0 := by omega
  have hn1 : ¬ (m.nth : Int) ≤ n := by omega
  rw [hc] at c21
  rw [hat] at t4
  rw [hk] at t0
  clear h hc hat hk
  have hh' : ¬ 0 ≤ m.hol := by omega
  generalize m.hol = hl at *
  have hne := H.out.rne
  go_enter Tryz.func19, Tryz.ntmps19
  go_wp2
  refine bodyPost_ret (v := ans false false 0 0) (by simp [results, Tryz.results19, go_sem, ans]) rfl ⟨rfl, ⟨sl, ?_, fun g hg => .inl hg⟩, ?_⟩
  · exact (((H.out.setHol n).putAt hi' 5)).alloc _
  · exact (((Kept.refl _ w).setCell (.inl (by simp)) _).setCell (.inl (by simp)) _).alloc _
set_option maxRecDepth 100000 in
set_option maxHeartbeats 800000 in
theorem r_blocked2 {r tb : Nat} {sl : Value} {B : Nat} {m : M} {w : World} (h : RefAt r tb sl B m w) (n : Int) (hc : m.cl = false) (h0 : 0 ≤ n) (h1 : n < (m.nth : Int)) (hk : ¬ (m.ths n.toNat).kind = 1) (hat : (m.ths n.toNat).at_ = 2) (hh : 0 ≤ m.hol) :
    Calls Tryz.prog 19 #[.pointer (some ⟨r, 0, none⟩), .int .i64 n] w (RRes r tb sl B w (m.still 4)) := by
  obtain ⟨hsr, hfr, -, -, -, -, -, -, c20, c21, c22⟩ := h.mapCell
  have H : Hid _ := h
  have hi' : n.toNat < m.nth := by omega
  obtain ⟨hs, hf, t0, -, -, -, t4, -⟩ := h.thCell hi'
  have hn0 : ¬ n < 0 := by omega
  have hn1 : ¬ (m.nth : Int) ≤ n := by omega
  rw [hc] at c21
  rw [hat] at t4
  clear h hc hat
  generalize (m.ths n.toNat).kind = kd at *
  generalize m.hol = hl at *
  go_enter Tryz.func19, Tryz.ntmps19
  go_wp2
  refine bodyPost_ret (v := ans false false 0 4) (by simp [results, Tryz.results19, go_sem, ans]) rfl ⟨rfl, ⟨sl, H.out.alloc _, fun g hg => .inl hg⟩, (Kept.refl _ w).alloc _⟩
set_option maxRecDepth 100000 in
set_option maxHeartbeats 800000 in
theorem r_takes2 {r tb : Nat} {sl : Value} {B : Nat} {m : M} {w : World} (h : RefAt r tb sl B m w) (n : Int) (hc : m.cl = false) (h0 : 0 ≤ n) (h1 : n < (m.nth : Int)) (hk : ¬ (m.ths n.toNat).kind = 1) (hat : (m.ths n.toNat).at_ = 2) (hh : m.hol < 0) :
    Calls Tryz.prog 19 #[.pointer (some ⟨r, 0, none⟩), .int .i64 n] w (RRes r tb sl B w (⟨0, { m with hol := n }.goes n.toNat 3⟩)) := by
  obtain ⟨hsr, hfr, -, -, -, -, -, -, c20, c21, c22⟩ := h.mapCell
  have H : Hid _ := h
  have hi' : n.toNat < m.nth := by omega
  obtain ⟨hs, hf, t0, -, -, -, t4, -⟩ := h.thCell hi'
  have hn0 : ¬ n < 0 := by omega
  have hn1 : ¬ (m.nth : Int) ≤ n := by omega
  rw [hc] at c21
  rw [hat] at t4
  clear h hc hat
  generalize (m.ths n.toNat).kind = kd at *
  have hh' : ¬ 0 ≤ m.hol := by omega
  generalize m.hol = hl at *
  have hne := H.out.rne
  go_enter Tryz.func19, Tryz.ntmps19
  go_wp2
  refine bodyPost_ret (v := ans false false 0 0) (by simp [results, Tryz.results19, go_sem, ans]) rfl ⟨rfl, ⟨sl, ?_, fun g hg => .inl hg⟩, ?_⟩
  · exact (((H.out.setHol n).putAt hi' 3)).alloc _
  · exact (((Kept.refl _ w).setCell (.inl (by simp)) _).setCell (.inl (by simp)) _).alloc _
set_option maxRecDepth 100000 in
set_option maxHeartbeats 800000 in
theorem r_load {r tb : Nat} {sl : Value} {B : Nat} {m : M} {w : World} (h : RefAt r tb sl B m w) (n : Int) (hc : m.cl = false) (h0 : 0 ≤ n) (h1 : n < (m.nth : Int)) (hk : (m.ths n.toNat).kind = 0) (hat : ¬ (m.ths n.toNat).at_ = 0) (hl : ¬ (m.ths n.toNat).at_ = 2) (o : Out)
    (run : ∀ W, RefAt r tb sl B m W → Kept [] w W → DoesS 36 #[.pointer (some ⟨r, 0, none⟩), .pointer (some ⟨tb, n.toNat * 9, none⟩)] r tb sl B o W) :
    Calls Tryz.prog 19 #[.pointer (some ⟨r, 0, none⟩), .int .i64 n] w (RRes r tb sl B w (⟨0, o⟩)) := by
  obtain ⟨hsr, hfr, -, -, -, -, -, -, c20, c21, c22⟩ := h.mapCell
  have H : Hid _ := h
  have hi' : n.toNat < m.nth := by omega
  obtain ⟨hs, hf, t0, -, -, -, t4, -⟩ := h.thCell hi'
  have hn0 : ¬ n < 0 := by omega
  have hn1 : ¬ (m.nth : Int) ≤ n := by omega
  rw [hc] at c21
  rw [hk] at t0
  have RUN : Hid _ := run
  have hno : w.heap.size ∉ r :: tb :: sl.ownBlock.toList := by
    simp only [List.mem_cons, not_or]
    exact ⟨by omega, by omega, (h.alloc (.cells #[.bool false, .bool false, .int .i64 0] 52)).notOwn (block_alloc_new w (.cells #[.bool false, .bool false, .int .i64 0] 52)) (by simp)⟩
  have HNO : Hid _ := hno
  clear h hc hk run hno
  generalize (m.ths n.toNat).at_ = at0 at *
  go_enter Tryz.func19, Tryz.ntmps19
  go_wp2_with fail
  have k1 := (Kept.refl (r :: tb :: sl.ownBlock.toList) w).alloc (.cells #[.bool false, .bool false, .int .i64 0] 52)
  refine Calls.mono (RUN.out _ (H.out.alloc _) ((Kept.refl [] w).alloc _)) ?_
  rintro e w2 ⟨rfl, ⟨sl', h2, hq⟩, k2⟩
  have r2 := k2.at (block_alloc_new w (.cells #[.bool false, .bool false, .int .i64 0] 52)) HNO.out
  have hc2 : ∀ o, w2.cell? ⟨w.heap.size, o, none⟩ = #[.bool false, .bool false, .int .i64 0][o]? := cell_of r2
  have hf2 : ∀ o, w2.frozen? ⟨w.heap.size, o, none⟩ = false := frozen_of r2
  have KK : Hid _ := k1.trans k2
  have H2 : Hid _ := h2
  have HQ : Hid (∀ g, sl'.ownBlock = some g → sl.ownBlock = some g ∨ w.heap.size ≤ g) := fun g hg => (hq g hg).imp id fun q => by simp only [World.size_alloc] at q; omega
  clear k1 k2 h2 hq
  simp only [Out.val, res]
  go_wp2
  refine bodyPost_ret (v := ans o.d o.f o.v 0) (by simp [results, Tryz.results19, go_sem, ans, cell_of (resLaid r2 o.d o.f o.v)]) rfl ⟨rfl, ⟨sl', H2.out.resLaid r2 o.d o.f o.v, HQ.out⟩, ?_⟩
  exact ((KK.out.setCell (.inr (by simp)) _).setCell (.inr (by simp)) _).setCell (.inr (by simp)) _
set_option maxRecDepth 100000 in
set_option maxHeartbeats 800000 in
theorem r_store {r tb : Nat} {sl : Value} {B : Nat} {m : M} {w : World} (h : RefAt r tb sl B m w) (n : Int) (hc : m.cl = false) (h0 : 0 ≤ n) (h1 : n < (m.nth : Int)) (hk : (m.ths n.toNat).kind = 1) (hat : ¬ (m.ths n.toNat).at_ = 0) (hl : ¬ (m.ths n.toNat).at_ = 4) (o : Out)
    (run : ∀ W, RefAt r tb sl B m W → Kept [] w W → DoesS 37 #[.pointer (some ⟨r, 0, none⟩), .pointer (some ⟨tb, n.toNat * 9, none⟩)] r tb sl B o W) :
    Calls Tryz.prog 19 #[.pointer (some ⟨r, 0, none⟩), .int .i64 n] w (RRes r tb sl B w (⟨0, o⟩)) := by
  obtain ⟨hsr, hfr, -, -, -, -, -, -, c20, c21, c22⟩ := h.mapCell
  have H : Hid _ := h
  have hi' : n.toNat < m.nth := by omega
  obtain ⟨hs, hf, t0, -, -, -, t4, -⟩ := h.thCell hi'
  have hn0 : ¬ n < 0 := by omega
  have hn1 : ¬ (m.nth : Int) ≤ n := by omega
  rw [hc] at c21
  rw [hk] at t0
  have RUN : Hid _ := run
  have hno : w.heap.size ∉ r :: tb :: sl.ownBlock.toList := by
    simp only [List.mem_cons, not_or]
    exact ⟨by omega, by omega, (h.alloc (.cells #[.bool false, .bool false, .int .i64 0] 52)).notOwn (block_alloc_new w (.cells #[.bool false, .bool false, .int .i64 0] 52)) (by simp)⟩
  have HNO : Hid _ := hno
  clear h hc hk run hno
  generalize (m.ths n.toNat).at_ = at0 at *
  go_enter Tryz.func19, Tryz.ntmps19
  go_wp2_with fail
  have k1 := (Kept.refl (r :: tb :: sl.ownBlock.toList) w).alloc (.cells #[.bool false, .bool false, .int .i64 0] 52)
  refine Calls.mono (RUN.out _ (H.out.alloc _) ((Kept.refl [] w).alloc _)) ?_
  rintro e w2 ⟨rfl, ⟨sl', h2, hq⟩, k2⟩
  have r2 := k2.at (block_alloc_new w (.cells #[.bool false, .bool false, .int .i64 0] 52)) HNO.out
  have hc2 : ∀ o, w2.cell? ⟨w.heap.size, o, none⟩ = #[.bool false, .bool false, .int .i64 0][o]? := cell_of r2
  have hf2 : ∀ o, w2.frozen? ⟨w.heap.size, o, none⟩ = false := frozen_of r2
  have KK : Hid _ := k1.trans k2
  have H2 : Hid _ := h2
  have HQ : Hid (∀ g, sl'.ownBlock = some g → sl.ownBlock = some g ∨ w.heap.size ≤ g) := fun g hg => (hq g hg).imp id fun q => by simp only [World.size_alloc] at q; omega
  clear k1 k2 h2 hq
  simp only [Out.val, res]
  go_wp2
  refine bodyPost_ret (v := ans o.d o.f o.v 0) (by simp [results, Tryz.results19, go_sem, ans, cell_of (resLaid r2 o.d o.f o.v)]) rfl ⟨rfl, ⟨sl', H2.out.resLaid r2 o.d o.f o.v, HQ.out⟩, ?_⟩
  exact ((KK.out.setCell (.inr (by simp)) _).setCell (.inr (by simp)) _).setCell (.inr (by simp)) _
set_option maxRecDepth 100000 in
set_option maxHeartbeats 800000 in
theorem r_remove {r tb : Nat} {sl : Value} {B : Nat} {m : M} {w : World} (h : RefAt r tb sl B m w) (n : Int) (hc : m.cl = false) (h0 : 0 ≤ n) (h1 : n < (m.nth : Int)) (hk : (m.ths n.toNat).kind = 2) (hat : ¬ (m.ths n.toNat).at_ = 0) (hl : ¬ (m.ths n.toNat).at_ = 2) (o : Out)
    (run : ∀ W, RefAt r tb sl B m W → Kept [] w W → DoesS 38 #[.pointer (some ⟨r, 0, none⟩), .pointer (some ⟨tb, n.toNat * 9, none⟩)] r tb sl B o W) :
    Calls Tryz.prog 19 #[.pointer (some ⟨r, 0, none⟩), .int .i64 n] w (RRes r tb sl B w (⟨0, o⟩)) := by
  obtain ⟨hsr, hfr, -, -, -, -, -, -, c20, c21, c22⟩ := h.mapCell
  have H : Hid _ := h
  have hi' : n.toNat < m.nth := by omega
  obtain ⟨hs, hf, t0, -, -, -, t4, -⟩ := h.thCell hi'
  have hn0 : ¬ n < 0 := by omega
  have hn1 : ¬ (m.nth : Int) ≤ n := by omega
  rw [hc] at c21
  rw [hk] at t0
  have RUN : Hid _ := run
  have hno : w.heap.size ∉ r :: tb :: sl.ownBlock.toList := by
    simp only [List.mem_cons, not_or]
    exact ⟨by omega, by omega, (h.alloc (.cells #[.bool false, .bool false, .int .i64 0] 52)).notOwn (block_alloc_new w (.cells #[.bool false, .bool false, .int .i64 0] 52)) (by simp)⟩
  have HNO : Hid _ := hno
  clear h hc hk run hno
  generalize (m.ths n.toNat).at_ = at0 at *
  go_enter Tryz.func19, Tryz.ntmps19
  go_wp2_with fail
  have k1 := (Kept.refl (r :: tb :: sl.ownBlock.toList) w).alloc (.cells #[.bool false, .bool false, .int .i64 0] 52)
  refine Calls.mono (RUN.out _ (H.out.alloc _) ((Kept.refl [] w).alloc _)) ?_
  rintro e w2 ⟨rfl, ⟨sl', h2, hq⟩, k2⟩
  have r2 := k2.at (block_alloc_new w (.cells #[.bool false, .bool false, .int .i64 0] 52)) HNO.out
  have hc2 : ∀ o, w2.cell? ⟨w.heap.size, o, none⟩ = #[.bool false, .bool false, .int .i64 0][o]? := cell_of r2
  have hf2 : ∀ o, w2.frozen? ⟨w.heap.size, o, none⟩ = false := frozen_of r2
  have KK : Hid _ := k1.trans k2
  have H2 : Hid _ := h2
  have HQ : Hid (∀ g, sl'.ownBlock = some g → sl.ownBlock = some g ∨ w.heap.size ≤ g) := fun g hg => (hq g hg).imp id fun q => by simp only [World.size_alloc] at q; omega
  clear k1 k2 h2 hq
  simp only [Out.val, res]
  go_wp2
  refine bodyPost_ret (v := ans o.d o.f o.v 0) (by simp [results, Tryz.results19, go_sem, ans, cell_of (resLaid r2 o.d o.f o.v)]) rfl ⟨rfl, ⟨sl', H2.out.resLaid r2 o.d o.f o.v, HQ.out⟩, ?_⟩
  exact ((KK.out.setCell (.inr (by simp)) _).setCell (.inr (by simp)) _).setCell (.inr (by simp)) _
set_option maxRecDepth 100000 in
set_option maxHeartbeats 800000 in
theorem r_replace {r tb : Nat} {sl : Value} {B : Nat} {m : M} {w : World} (h : RefAt r tb sl B m w) (n : Int) (hc : m.cl = false) (h0 : 0 ≤ n) (h1 : n < (m.nth : Int)) (hk : (m.ths n.toNat).kind = 3) (hat : ¬ (m.ths n.toNat).at_ = 0) (hl : ¬ (m.ths n.toNat).at_ = 2) (o : Out)
    (run : ∀ W, RefAt r tb sl B m W → Kept [] w W → DoesS 39 #[.pointer (some ⟨r, 0, none⟩), .pointer (some ⟨tb, n.toNat * 9, none⟩)] r tb sl B o W) :
    Calls Tryz.prog 19 #[.pointer (some ⟨r, 0, none⟩), .int .i64 n] w (RRes r tb sl B w (⟨0, o⟩)) := by
  obtain ⟨hsr, hfr, -, -, -, -, -, -, c20, c21, c22⟩ := h.mapCell
  have H : Hid _ := h
  have hi' : n.toNat < m.nth := by omega
  obtain ⟨hs, hf, t0, -, -, -, t4, -⟩ := h.thCell hi'
  have hn0 : ¬ n < 0 := by omega
  have hn1 : ¬ (m.nth : Int) ≤ n := by omega
  rw [hc] at c21
  rw [hk] at t0
  have RUN : Hid _ := run
  have hno : w.heap.size ∉ r :: tb :: sl.ownBlock.toList := by
    simp only [List.mem_cons, not_or]
    exact ⟨by omega, by omega, (h.alloc (.cells #[.bool false, .bool false, .int .i64 0] 52)).notOwn (block_alloc_new w (.cells #[.bool false, .bool false, .int .i64 0] 52)) (by simp)⟩
  have HNO : Hid _ := hno
  clear h hc hk run hno
  generalize (m.ths n.toNat).at_ = at0 at *
  go_enter Tryz.func19, Tryz.ntmps19
  go_wp2_with fail
  have k1 := (Kept.refl (r :: tb :: sl.ownBlock.toList) w).alloc (.cells #[.bool false, .bool false, .int .i64 0] 52)
  refine Calls.mono (RUN.out _ (H.out.alloc _) ((Kept.refl [] w).alloc _)) ?_
  rintro e w2 ⟨rfl, ⟨sl', h2, hq⟩, k2⟩
  have r2 := k2.at (block_alloc_new w (.cells #[.bool false, .bool false, .int .i64 0] 52)) HNO.out
  have hc2 : ∀ o, w2.cell? ⟨w.heap.size, o, none⟩ = #[.bool false, .bool false, .int .i64 0][o]? := cell_of r2
  have hf2 : ∀ o, w2.frozen? ⟨w.heap.size, o, none⟩ = false := frozen_of r2
  have KK : Hid _ := k1.trans k2
  have H2 : Hid _ := h2
  have HQ : Hid (∀ g, sl'.ownBlock = some g → sl.ownBlock = some g ∨ w.heap.size ≤ g) := fun g hg => (hq g hg).imp id fun q => by simp only [World.size_alloc] at q; omega
  clear k1 k2 h2 hq
  simp only [Out.val, res]
  go_wp2
  refine bodyPost_ret (v := ans o.d o.f o.v 0) (by simp [results, Tryz.results19, go_sem, ans, cell_of (resLaid r2 o.d o.f o.v)]) rfl ⟨rfl, ⟨sl', H2.out.resLaid r2 o.d o.f o.v, HQ.out⟩, ?_⟩
  exact ((KK.out.setCell (.inr (by simp)) _).setCell (.inr (by simp)) _).setCell (.inr (by simp)) _
theorem r_step {r tb : Nat} {sl : Value} {B : Nat} {m : M} {w : World} (h : RefAt r tb sl B m w) (hI : m.Inv) (hnc : m.nc < 1000000) (hB : B ≤ w.heap.size) (n : Int) :
    Calls Tryz.prog 19 #[.pointer (some ⟨r, 0, none⟩), .int .i64 n] w (RRes r tb sl B w (m.step n)) := by
  unfold M.step
  by_cases hc : m.cl = true
  · rw [if_pos hc]; exact r_closed h n hc
  rw [if_neg hc]
  have hc' : m.cl = false := by simpa using hc
  by_cases hi : n < 0 ∨ (m.nth : Int) ≤ n
  · rw [if_pos hi]; exact r_arg h n hc' hi
  rw [if_neg hi]
  have h0 : 0 ≤ n := by omega
  have h1 : n < (m.nth : Int) := by omega
  have hi' : n.toNat < m.nth := by omega
  have hnn : ((n.toNat : Nat) : Int) = n := by omega
  by_cases ha : (m.ths n.toNat).at_ = 0
  · rw [if_pos ha]; exact r_idle h n hc' h0 h1 ha
  rw [if_neg ha]
  have ho := (hI.th n.toNat hi').resolve_left ha
  have hop := ho.op
  unfold OpOk at hop
  have hak := ho.ak
  have hkd : (m.ths n.toNat).kind = 0 ∨ (m.ths n.toNat).kind = 1 ∨ (m.ths n.toNat).kind = 2 ∨ (m.ths n.toNat).kind = 3 := by omega
  rcases hkd with hk | hk | hk | hk
  · have hl : m.lockAt n.toNat = 2 := by simp [M.lockAt, hk]
    by_cases e : (m.ths n.toNat).at_ = 2
    · by_cases hf : 0 ≤ m.hol
      · rw [show m.does n.toNat = none by unfold M.does; rw [hl, if_pos e, if_pos hf]]
        exact r_blocked2 h n hc' h0 h1 (by omega) e hf
      · rw [show m.does n.toNat = some ({ m with hol := n }.goes n.toNat 3) by unfold M.does; rw [hl, if_pos e, if_neg hf, hnn]; rfl]
        exact r_takes2 h n hc' h0 h1 (by omega) e (Int.not_le.1 hf)
    · rw [show m.does n.toNat = some (m.load n.toNat) by unfold M.does; rw [hl, if_neg e, if_pos hk]]
      refine r_load h n hc' h0 h1 hk ha e _ fun W hW _ => ?_
      have hat : (m.ths n.toNat).at_ = 1 ∨ (m.ths n.toNat).at_ = 3 ∨ (m.ths n.toNat).at_ = 4 ∨ (m.ths n.toNat).at_ = 5 ∨ (m.ths n.toNat).at_ = 51 ∨ (m.ths n.toNat).at_ = 52 ∨ (m.ths n.toNat).at_ = 53 ∨ (m.ths n.toNat).at_ = 6 ∨ (m.ths n.toNat).at_ = 7 := by
        have : (1 ≤ (m.ths n.toNat).at_ ∧ (m.ths n.toNat).at_ ≤ 7) ∨ (51 ≤ (m.ths n.toNat).at_ ∧ (m.ths n.toNat).at_ ≤ 53) := by simpa [AtOk, hk] using hak
        omega
      exact (does_load hW hi' hop.2.2.1 (by omega) hI.mis.1 (by rcases hI.mis.2 with c | ⟨c, _, _⟩ <;> omega) hat (fun e7 => by
        have q := ho.ne (by simp [NeedsE, hk, e7])
        have := ho.e.2
        exact ⟨q, by omega⟩)).s
  · have hl : m.lockAt n.toNat = 4 := by simp [M.lockAt, hk]
    by_cases e : (m.ths n.toNat).at_ = 4
    · by_cases hf : 0 ≤ m.hol
      · rw [show m.does n.toNat = none by unfold M.does; rw [hl, if_pos e, if_pos hf]]
        exact r_blocked4 h n hc' h0 h1 hk e hf
      · rw [show m.does n.toNat = some ({ m with hol := n }.goes n.toNat 5) by unfold M.does; rw [hl, if_pos e, if_neg hf, hnn]; rfl]
        exact r_takes4 h n hc' h0 h1 hk e (Int.not_le.1 hf)
    · rw [show m.does n.toNat = some (m.store n.toNat) by unfold M.does; rw [hl, if_neg e, if_neg (by omega), if_pos hk]]
      refine r_store h n hc' h0 h1 hk ha e _ fun W hW kW => ?_
      exact does_store hW hI hi' ho hk e hnc (Nat.le_trans hB kW.size)
  · have hl : m.lockAt n.toNat = 2 := by simp [M.lockAt, hk]
    by_cases e : (m.ths n.toNat).at_ = 2
    · by_cases hf : 0 ≤ m.hol
      · rw [show m.does n.toNat = none by unfold M.does; rw [hl, if_pos e, if_pos hf]]
        exact r_blocked2 h n hc' h0 h1 (by omega) e hf
      · rw [show m.does n.toNat = some ({ m with hol := n }.goes n.toNat 3) by unfold M.does; rw [hl, if_pos e, if_neg hf, hnn]; rfl]
        exact r_takes2 h n hc' h0 h1 (by omega) e (Int.not_le.1 hf)
    · rw [show m.does n.toNat = some (m.remove n.toNat) by unfold M.does; rw [hl, if_neg e, if_neg (by omega), if_neg (by omega), if_pos hk]]
      exact r_remove h n hc' h0 h1 hk ha e _ fun W hW _ => does_remove hW hI hi' ho hk e
  · have hl : m.lockAt n.toNat = 2 := by simp [M.lockAt, hk]
    by_cases e : (m.ths n.toNat).at_ = 2
    · by_cases hf : 0 ≤ m.hol
      · rw [show m.does n.toNat = none by unfold M.does; rw [hl, if_pos e, if_pos hf]]
        exact r_blocked2 h n hc' h0 h1 (by omega) e hf
      · rw [show m.does n.toNat = some ({ m with hol := n }.goes n.toNat 3) by unfold M.does; rw [hl, if_pos e, if_neg hf, hnn]; rfl]
        exact r_takes2 h n hc' h0 h1 (by omega) e (Int.not_le.1 hf)
    · rw [show m.does n.toNat = some (m.replace n.toNat) by unfold M.does; rw [hl, if_neg e, if_neg (by omega), if_neg (by omega), if_neg (by omega)]]
      exact r_replace h n hc' h0 h1 hk ha e _ fun W hW _ => does_replace hW hI hi' ho hk e
end Go.Proofs.YtmnkphenobfbfaaGreat
