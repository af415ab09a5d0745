import Derived.Test.YtmnkphenobfbfaaGreatXp
namespace Go.Proofs.YtmnkphenobfbfaaGreat
open Go.RowKit
theorem RefAt.putKind {r tb : Nat} {sl : Value} {B : Nat} {m : M} {w : World} (h : RefAt r tb sl B m w) {i : Nat} (hi : i < m.nth) (x : Int) :
    RefAt r tb sl B { m with ths := put m.ths i { m.ths i with kind := x } } (w.setCell ⟨tb, i * 9 + 0, none⟩ (.int .i64 x)) := by
  refine h.thread (by omega) _ _ fun cs hs t => ?_
  refine ⟨?_, ?_, ?_, ?_, ?_, ?_, ?_, ?_, ?_⟩
  · show (cs.setIfInBounds (i * 9) _)[i * 9]? = _; rw [Array.getElem?_setIfInBounds_self_of_lt (by omega)]
  · rw [Array.getElem?_setIfInBounds_ne (by omega)]; exact t.c1
  · rw [Array.getElem?_setIfInBounds_ne (by omega)]; exact t.c2
  · rw [Array.getElem?_setIfInBounds_ne (by omega)]; exact t.c3
  · rw [Array.getElem?_setIfInBounds_ne (by omega)]; exact t.c4
  · rw [Array.getElem?_setIfInBounds_ne (by omega)]; exact t.c5
  · rw [Array.getElem?_setIfInBounds_ne (by omega)]; exact t.c6
  · rw [Array.getElem?_setIfInBounds_ne (by omega)]; exact t.c7
  · rw [Array.getElem?_setIfInBounds_ne (by omega)]; exact t.c8
theorem RefAt.putKey {r tb : Nat} {sl : Value} {B : Nat} {m : M} {w : World} (h : RefAt r tb sl B m w) {i : Nat} (hi : i < m.nth) (x : Int) :
    RefAt r tb sl B { m with ths := put m.ths i { m.ths i with key := x } } (w.setCell ⟨tb, i * 9 + 1, none⟩ (.int .i64 x)) := by
  refine h.thread (by omega) _ _ fun cs hs t => ?_
  refine ⟨?_, ?_, ?_, ?_, ?_, ?_, ?_, ?_, ?_⟩
  · rw [Array.getElem?_setIfInBounds_ne (by omega)]; exact t.c0
  · rw [Array.getElem?_setIfInBounds_self_of_lt (by omega)]
  · rw [Array.getElem?_setIfInBounds_ne (by omega)]; exact t.c2
  · rw [Array.getElem?_setIfInBounds_ne (by omega)]; exact t.c3
  · rw [Array.getElem?_setIfInBounds_ne (by omega)]; exact t.c4
  · rw [Array.getElem?_setIfInBounds_ne (by omega)]; exact t.c5
  · rw [Array.getElem?_setIfInBounds_ne (by omega)]; exact t.c6
  · rw [Array.getElem?_setIfInBounds_ne (by omega)]; exact t.c7
  · rw [Array.getElem?_setIfInBounds_ne (by omega)]; exact t.c8
theorem RefAt.putVal {r tb : Nat} {sl : Value} {B : Nat} {m : M} {w : World} (h : RefAt r tb sl B m w) {i : Nat} (hi : i < m.nth) (x : Int) :
    RefAt r tb sl B { m with ths := put m.ths i { m.ths i with val := x } } (w.setCell ⟨tb, i * 9 + 2, none⟩ (.int .i64 x)) := by
  refine h.thread (by omega) _ _ fun cs hs t => ?_
  refine ⟨?_, ?_, ?_, ?_, ?_, ?_, ?_, ?_, ?_⟩
  · rw [Array.getElem?_setIfInBounds_ne (by omega)]; exact t.c0
  · rw [Array.getElem?_setIfInBounds_ne (by omega)]; exact t.c1
  · rw [Array.getElem?_setIfInBounds_self_of_lt (by omega)]
  · rw [Array.getElem?_setIfInBounds_ne (by omega)]; exact t.c3
  · rw [Array.getElem?_setIfInBounds_ne (by omega)]; exact t.c4
  · rw [Array.getElem?_setIfInBounds_ne (by omega)]; exact t.c5
  · rw [Array.getElem?_setIfInBounds_ne (by omega)]; exact t.c6
  · rw [Array.getElem?_setIfInBounds_ne (by omega)]; exact t.c7
  · rw [Array.getElem?_setIfInBounds_ne (by omega)]; exact t.c8
theorem RefAt.putOld {r tb : Nat} {sl : Value} {B : Nat} {m : M} {w : World} (h : RefAt r tb sl B m w) {i : Nat} (hi : i < m.nth) (x : Int) :
    RefAt r tb sl B { m with ths := put m.ths i { m.ths i with old := x } } (w.setCell ⟨tb, i * 9 + 3, none⟩ (.int .i64 x)) := by
  refine h.thread (by omega) _ _ fun cs hs t => ?_
  refine ⟨?_, ?_, ?_, ?_, ?_, ?_, ?_, ?_, ?_⟩
  · rw [Array.getElem?_setIfInBounds_ne (by omega)]; exact t.c0
  · rw [Array.getElem?_setIfInBounds_ne (by omega)]; exact t.c1
  · rw [Array.getElem?_setIfInBounds_ne (by omega)]; exact t.c2
  · rw [Array.getElem?_setIfInBounds_self_of_lt (by omega)]
  · rw [Array.getElem?_setIfInBounds_ne (by omega)]; exact t.c4
  · rw [Array.getElem?_setIfInBounds_ne (by omega)]; exact t.c5
  · rw [Array.getElem?_setIfInBounds_ne (by omega)]; exact t.c6
  · rw [Array.getElem?_setIfInBounds_ne (by omega)]; exact t.c7
  · rw [Array.getElem?_setIfInBounds_ne (by omega)]; exact t.c8
/-- A thread's nine cells. -/
theorem RefAt.begun {r tb : Nat} {sl : Value} {B : Nat} {m : M} {w : World} (h : RefAt r tb sl B m w) {i : Nat} (hi : i < m.nth) (a b c d e f g p q : Int) :
    RefAt r tb sl B (m.thr i ⟨a, b, c, d, e, f, g, p, q⟩) (((((((((w.setCell ⟨tb, i * 9 + 0, none⟩ (.int .i64 a)).setCell ⟨tb, i * 9 + 1, none⟩ (.int .i64 b)).setCell ⟨tb, i * 9 + 2, none⟩ (.int .i64 c)).setCell ⟨tb, i * 9 + 3, none⟩ (.int .i64 d)).setCell ⟨tb, i * 9 + 4, none⟩ (.int .i64 e)).setCell ⟨tb, i * 9 + 5, none⟩ (.int .i64 f)).setCell ⟨tb, i * 9 + 6, none⟩ (.int .i64 g)).setCell ⟨tb, i * 9 + 7, none⟩ (.int .i64 p)).setCell ⟨tb, i * 9 + 8, none⟩ (.int .i64 q)) := by
  have h9 := ((((((((h.putKind hi a).putKey hi b).putVal hi c).putOld hi d).putAt hi e).putE hi f).putSst hi g).putSv hi p).putNext hi q
  simp only [put_put, put_same] at h9
  exact h9
/-- What a call of Begin leaves. -/
def RBeg (r tb : Nat) (sl : Value) (B : Nat) (w : World) (x : Int × M) (e : Ending) (w' : World) : Prop :=
  e = .returned (.int .i64 x.1) ∧ RefAt r tb sl B x.2 w' ∧ Kept [tb] w w'
set_option maxRecDepth 100000 in
set_option maxHeartbeats 1600000 in
theorem b_closed {r tb : Nat} {sl : Value} {B : Nat} {m : M} {w : World} (h : RefAt r tb sl B m w) (n kind key val old : Int) (hc : m.cl = true) :
    Calls Tryz.prog 17 #[.pointer (some ⟨r, 0, none⟩), .int .i64 n, .agg #[.int .i64 kind, .int .i64 key, .int .i64 val, .int .i64 old]] w (RBeg r tb sl B w ((5, m))) := by
  obtain ⟨hsr, hfr, -, -, -, -, -, -, -, c21, c22⟩ := h.mapCell
  have H : Hid _ := h
  rw [hc] at c21
  clear h hc
  go_enter Tryz.func17, Tryz.ntmps17
  go_wp2
  go_ret
  exact ⟨rfl, H.out.alloc _, (Kept.refl _ w).alloc _⟩
set_option maxRecDepth 100000 in
set_option maxHeartbeats 1600000 in
theorem b_a {r tb : Nat} {sl : Value} {B : Nat} {m : M} {w : World} (h : RefAt r tb sl B m w) (n kind key val old : Int) (hc : m.cl = false) (a1 : n < 0) :
    Calls Tryz.prog 17 #[.pointer (some ⟨r, 0, none⟩), .int .i64 n, .agg #[.int .i64 kind, .int .i64 key, .int .i64 val, .int .i64 old]] w (RBeg r tb sl B w ((1, m))) := by
  obtain ⟨hsr, hfr, -, -, -, -, -, -, -, c21, c22⟩ := h.mapCell
  have H : Hid _ := h
  rw [hc] at c21
  clear h hc
  go_enter Tryz.func17, Tryz.ntmps17
  go_wp2
  go_ret
  exact ⟨rfl, H.out.alloc _, (Kept.refl _ w).alloc _⟩
set_option maxRecDepth 100000 in
set_option maxHeartbeats 1600000 in
theorem b_b {r tb : Nat} {sl : Value} {B : Nat} {m : M} {w : World} (h : RefAt r tb sl B m w) (n kind key val old : Int) (hc : m.cl = false) (a1 : ¬ n < 0) (a2 : (m.nth : Int) ≤ n) :
    Calls Tryz.prog 17 #[.pointer (some ⟨r, 0, none⟩), .int .i64 n, .agg #[.int .i64 kind, .int .i64 key, .int .i64 val, .int .i64 old]] w (RBeg r tb sl B w ((1, m))) := by
  obtain ⟨hsr, hfr, -, -, -, -, -, -, -, c21, c22⟩ := h.mapCell
  have H : Hid _ := h
  rw [hc] at c21
  clear h hc
  go_enter Tryz.func17, Tryz.ntmps17
  go_wp2
  go_ret
  exact ⟨rfl, H.out.alloc _, (Kept.refl _ w).alloc _⟩
set_option maxRecDepth 100000 in
set_option maxHeartbeats 1600000 in
theorem b_c {r tb : Nat} {sl : Value} {B : Nat} {m : M} {w : World} (h : RefAt r tb sl B m w) (n kind key val old : Int) (hc : m.cl = false) (a1 : ¬ n < 0) (a2 : ¬ (m.nth : Int) ≤ n) (a3 : kind < 0) :
    Calls Tryz.prog 17 #[.pointer (some ⟨r, 0, none⟩), .int .i64 n, .agg #[.int .i64 kind, .int .i64 key, .int .i64 val, .int .i64 old]] w (RBeg r tb sl B w ((1, m))) := by
  obtain ⟨hsr, hfr, -, -, -, -, -, -, -, c21, c22⟩ := h.mapCell
  have H : Hid _ := h
  rw [hc] at c21
  clear h hc
  go_enter Tryz.func17, Tryz.ntmps17
  go_wp2
  go_ret
  exact ⟨rfl, H.out.alloc _, (Kept.refl _ w).alloc _⟩
set_option maxRecDepth 100000 in
set_option maxHeartbeats 1600000 in
theorem b_d {r tb : Nat} {sl : Value} {B : Nat} {m : M} {w : World} (h : RefAt r tb sl B m w) (n kind key val old : Int) (hc : m.cl = false) (a1 : ¬ n < 0) (a2 : ¬ (m.nth : Int) ≤ n) (a3 : ¬ kind < 0) (a4 : 3 < kind) :
    Calls Tryz.prog 17 #[.pointer (some ⟨r, 0, none⟩), .int .i64 n, .agg #[.int .i64 kind, .int .i64 key, .int .i64 val, .int .i64 old]] w (RBeg r tb sl B w ((1, m))) := by
  obtain ⟨hsr, hfr, -, -, -, -, -, -, -, c21, c22⟩ := h.mapCell
  have H : Hid _ := h
  rw [hc] at c21
  clear h hc
  go_enter Tryz.func17, Tryz.ntmps17
  go_wp2
  go_ret
  exact ⟨rfl, H.out.alloc _, (Kept.refl _ w).alloc _⟩
set_option maxRecDepth 100000 in
set_option maxHeartbeats 1600000 in
theorem b_e {r tb : Nat} {sl : Value} {B : Nat} {m : M} {w : World} (h : RefAt r tb sl B m w) (n kind key val old : Int) (hc : m.cl = false) (a1 : ¬ n < 0) (a2 : ¬ (m.nth : Int) ≤ n) (a3 : ¬ kind < 0) (a4 : ¬ 3 < kind) (a5 : key < 0) :
    Calls Tryz.prog 17 #[.pointer (some ⟨r, 0, none⟩), .int .i64 n, .agg #[.int .i64 kind, .int .i64 key, .int .i64 val, .int .i64 old]] w (RBeg r tb sl B w ((1, m))) := by
  obtain ⟨hsr, hfr, -, -, -, -, -, -, -, c21, c22⟩ := h.mapCell
  have H : Hid _ := h
  rw [hc] at c21
  clear h hc
  go_enter Tryz.func17, Tryz.ntmps17
  go_wp2
  go_ret
  exact ⟨rfl, H.out.alloc _, (Kept.refl _ w).alloc _⟩
set_option maxRecDepth 100000 in
set_option maxHeartbeats 1600000 in
theorem b_f {r tb : Nat} {sl : Value} {B : Nat} {m : M} {w : World} (h : RefAt r tb sl B m w) (n kind key val old : Int) (hc : m.cl = false) (a1 : ¬ n < 0) (a2 : ¬ (m.nth : Int) ≤ n) (a3 : ¬ kind < 0) (a4 : ¬ 3 < kind) (a5 : ¬ key < 0) (a6 : 7 < key) :
    Calls Tryz.prog 17 #[.pointer (some ⟨r, 0, none⟩), .int .i64 n, .agg #[.int .i64 kind, .int .i64 key, .int .i64 val, .int .i64 old]] w (RBeg r tb sl B w ((1, m))) := by
  obtain ⟨hsr, hfr, -, -, -, -, -, -, -, c21, c22⟩ := h.mapCell
  have H : Hid _ := h
  rw [hc] at c21
  clear h hc
  go_enter Tryz.func17, Tryz.ntmps17
  go_wp2
  go_ret
  exact ⟨rfl, H.out.alloc _, (Kept.refl _ w).alloc _⟩
set_option maxRecDepth 100000 in
set_option maxHeartbeats 1600000 in
theorem b_v1_1 {r tb : Nat} {sl : Value} {B : Nat} {m : M} {w : World} (h : RefAt r tb sl B m w) (n key val old : Int) (hc : m.cl = false) (a1 : ¬ n < 0) (a2 : ¬ (m.nth : Int) ≤ n) (a5 : ¬ key < 0) (a6 : ¬ 7 < key) (v1 : val < 1) :
    Calls Tryz.prog 17 #[.pointer (some ⟨r, 0, none⟩), .int .i64 n, .agg #[.int .i64 1, .int .i64 key, .int .i64 val, .int .i64 old]] w (RBeg r tb sl B w ((1, m))) := by
  obtain ⟨hsr, hfr, -, -, -, -, -, -, -, c21, c22⟩ := h.mapCell
  have H : Hid _ := h
  rw [hc] at c21
  clear h hc
  go_enter Tryz.func17, Tryz.ntmps17
  go_wp2
  go_ret
  exact ⟨rfl, H.out.alloc _, (Kept.refl _ w).alloc _⟩
set_option maxRecDepth 100000 in
set_option maxHeartbeats 1600000 in
theorem b_v2_1 {r tb : Nat} {sl : Value} {B : Nat} {m : M} {w : World} (h : RefAt r tb sl B m w) (n key val old : Int) (hc : m.cl = false) (a1 : ¬ n < 0) (a2 : ¬ (m.nth : Int) ≤ n) (a5 : ¬ key < 0) (a6 : ¬ 7 < key) (v1 : ¬ val < 1) (v2 : 1000 < val) :
    Calls Tryz.prog 17 #[.pointer (some ⟨r, 0, none⟩), .int .i64 n, .agg #[.int .i64 1, .int .i64 key, .int .i64 val, .int .i64 old]] w (RBeg r tb sl B w ((1, m))) := by
  obtain ⟨hsr, hfr, -, -, -, -, -, -, -, c21, c22⟩ := h.mapCell
  have H : Hid _ := h
  rw [hc] at c21
  clear h hc
  go_enter Tryz.func17, Tryz.ntmps17
  go_wp2
  go_ret
  exact ⟨rfl, H.out.alloc _, (Kept.refl _ w).alloc _⟩
set_option maxRecDepth 100000 in
set_option maxHeartbeats 1600000 in
theorem b_v1_3 {r tb : Nat} {sl : Value} {B : Nat} {m : M} {w : World} (h : RefAt r tb sl B m w) (n key val old : Int) (hc : m.cl = false) (a1 : ¬ n < 0) (a2 : ¬ (m.nth : Int) ≤ n) (a5 : ¬ key < 0) (a6 : ¬ 7 < key) (v1 : val < 1) :
    Calls Tryz.prog 17 #[.pointer (some ⟨r, 0, none⟩), .int .i64 n, .agg #[.int .i64 3, .int .i64 key, .int .i64 val, .int .i64 old]] w (RBeg r tb sl B w ((1, m))) := by
  obtain ⟨hsr, hfr, -, -, -, -, -, -, -, c21, c22⟩ := h.mapCell
  have H : Hid _ := h
  rw [hc] at c21
  clear h hc
  go_enter Tryz.func17, Tryz.ntmps17
  go_wp2
  go_ret
  exact ⟨rfl, H.out.alloc _, (Kept.refl _ w).alloc _⟩
set_option maxRecDepth 100000 in
set_option maxHeartbeats 1600000 in
theorem b_v2_3 {r tb : Nat} {sl : Value} {B : Nat} {m : M} {w : World} (h : RefAt r tb sl B m w) (n key val old : Int) (hc : m.cl = false) (a1 : ¬ n < 0) (a2 : ¬ (m.nth : Int) ≤ n) (a5 : ¬ key < 0) (a6 : ¬ 7 < key) (v1 : ¬ val < 1) (v2 : 1000 < val) :
    Calls Tryz.prog 17 #[.pointer (some ⟨r, 0, none⟩), .int .i64 n, .agg #[.int .i64 3, .int .i64 key, .int .i64 val, .int .i64 old]] w (RBeg r tb sl B w ((1, m))) := by
  obtain ⟨hsr, hfr, -, -, -, -, -, -, -, c21, c22⟩ := h.mapCell
  have H : Hid _ := h
  rw [hc] at c21
  clear h hc
  go_enter Tryz.func17, Tryz.ntmps17
  go_wp2
  go_ret
  exact ⟨rfl, H.out.alloc _, (Kept.refl _ w).alloc _⟩
set_option maxRecDepth 100000 in
set_option maxHeartbeats 1600000 in
theorem b_o1 {r tb : Nat} {sl : Value} {B : Nat} {m : M} {w : World} (h : RefAt r tb sl B m w) (n key val old : Int) (hc : m.cl = false) (a1 : ¬ n < 0) (a2 : ¬ (m.nth : Int) ≤ n) (a5 : ¬ key < 0) (a6 : ¬ 7 < key) (v1 : ¬ val < 1) (v2 : ¬ 1000 < val) (o1 : old < 1) :
    Calls Tryz.prog 17 #[.pointer (some ⟨r, 0, none⟩), .int .i64 n, .agg #[.int .i64 3, .int .i64 key, .int .i64 val, .int .i64 old]] w (RBeg r tb sl B w ((1, m))) := by
  obtain ⟨hsr, hfr, -, -, -, -, -, -, -, c21, c22⟩ := h.mapCell
  have H : Hid _ := h
  rw [hc] at c21
  clear h hc
  go_enter Tryz.func17, Tryz.ntmps17
  go_wp2
  go_ret
  exact ⟨rfl, H.out.alloc _, (Kept.refl _ w).alloc _⟩
set_option maxRecDepth 100000 in
set_option maxHeartbeats 1600000 in
theorem b_o2 {r tb : Nat} {sl : Value} {B : Nat} {m : M} {w : World} (h : RefAt r tb sl B m w) (n key val old : Int) (hc : m.cl = false) (a1 : ¬ n < 0) (a2 : ¬ (m.nth : Int) ≤ n) (a5 : ¬ key < 0) (a6 : ¬ 7 < key) (v1 : ¬ val < 1) (v2 : ¬ 1000 < val) (o1 : ¬ old < 1) (o2 : 1000 < old) :
    Calls Tryz.prog 17 #[.pointer (some ⟨r, 0, none⟩), .int .i64 n, .agg #[.int .i64 3, .int .i64 key, .int .i64 val, .int .i64 old]] w (RBeg r tb sl B w ((1, m))) := by
  obtain ⟨hsr, hfr, -, -, -, -, -, -, -, c21, c22⟩ := h.mapCell
  have H : Hid _ := h
  rw [hc] at c21
  clear h hc
  go_enter Tryz.func17, Tryz.ntmps17
  go_wp2
  go_ret
  exact ⟨rfl, H.out.alloc _, (Kept.refl _ w).alloc _⟩
set_option maxRecDepth 100000 in
set_option maxHeartbeats 1600000 in
theorem b_busy0 {r tb : Nat} {sl : Value} {B : Nat} {m : M} {w : World} (h : RefAt r tb sl B m w) (n key val old : Int) (hc : m.cl = false) (a1 : ¬ n < 0) (a2 : ¬ (m.nth : Int) ≤ n) (a5 : ¬ key < 0) (a6 : ¬ 7 < key) (hat : 0 < (m.ths n.toNat).at_) :
    Calls Tryz.prog 17 #[.pointer (some ⟨r, 0, none⟩), .int .i64 n, .agg #[.int .i64 0, .int .i64 key, .int .i64 val, .int .i64 old]] w (RBeg r tb sl B w ((2, m))) := by
  obtain ⟨hsr, hfr, -, -, -, -, -, -, -, c21, c22⟩ := h.mapCell
  have H : Hid _ := h
  have hi : n.toNat < m.nth := by omega
  obtain ⟨hs, hf, t0, t1, t2, t3, t4, t5, t6, t7, t8⟩ := h.thCell hi
  rw [hc] at c21
  clear h hc
  generalize (m.ths n.toNat).at_ = at0 at *
  clear t0 t1 t2 t3 t5 t6 t7 t8
  go_enter Tryz.func17, Tryz.ntmps17
  go_wp2
  go_ret
  exact ⟨rfl, H.out.alloc _, (Kept.refl _ w).alloc _⟩
set_option maxRecDepth 100000 in
set_option maxHeartbeats 1600000 in
theorem b_ok0 {r tb : Nat} {sl : Value} {B : Nat} {m : M} {w : World} (h : RefAt r tb sl B m w) (n key val old : Int) (hc : m.cl = false) (a1 : ¬ n < 0) (a2 : ¬ (m.nth : Int) ≤ n) (a5 : ¬ key < 0) (a6 : ¬ 7 < key) (hat : (m.ths n.toNat).at_ = 0) :
    Calls Tryz.prog 17 #[.pointer (some ⟨r, 0, none⟩), .int .i64 n, .agg #[.int .i64 0, .int .i64 key, .int .i64 val, .int .i64 old]] w (RBeg r tb sl B w ((0, m.thr n.toNat ⟨0, key, val, old, 1, -1, 0, 0, 0⟩))) := by
  obtain ⟨hsr, hfr, -, -, -, -, -, -, -, c21, c22⟩ := h.mapCell
  have H : Hid _ := h
  have hi : n.toNat < m.nth := by omega
  obtain ⟨hs, hf, t0, t1, t2, t3, t4, t5, t6, t7, t8⟩ := h.thCell hi
  rw [hc] at c21
  rw [hat] at t4
  clear h hc hat
  go_enter Tryz.func17, Tryz.ntmps17
  go_wp2_with fail
  go_region
  go_wp2
  go_ret
  refine ⟨rfl, ?_, ?_⟩
  · exact ((H.out.begun hi 0 key val old 1 (-1) 0 0 0).alloc _).drew
  · exact (((((((((((Kept.refl _ w).setCell (.inl (by simp)) _).setCell (.inl (by simp)) _).setCell (.inl (by simp)) _).setCell (.inl (by simp)) _).setCell (.inl (by simp)) _).setCell (.inl (by simp)) _).setCell (.inl (by simp)) _).setCell (.inl (by simp)) _).setCell (.inl (by simp)) _).alloc _).drew
set_option maxRecDepth 100000 in
set_option maxHeartbeats 1600000 in
theorem b_busy1 {r tb : Nat} {sl : Value} {B : Nat} {m : M} {w : World} (h : RefAt r tb sl B m w) (n key val old : Int) (hc : m.cl = false) (a1 : ¬ n < 0) (a2 : ¬ (m.nth : Int) ≤ n) (a5 : ¬ key < 0) (a6 : ¬ 7 < key) (v1 : ¬ val < 1) (v2 : ¬ 1000 < val) (hat : 0 < (m.ths n.toNat).at_) :
    Calls Tryz.prog 17 #[.pointer (some ⟨r, 0, none⟩), .int .i64 n, .agg #[.int .i64 1, .int .i64 key, .int .i64 val, .int .i64 old]] w (RBeg r tb sl B w ((2, m))) := by
  obtain ⟨hsr, hfr, -, -, -, -, -, -, -, c21, c22⟩ := h.mapCell
  have H : Hid _ := h
  have hi : n.toNat < m.nth := by omega
  obtain ⟨hs, hf, t0, t1, t2, t3, t4, t5, t6, t7, t8⟩ := h.thCell hi
  rw [hc] at c21
  clear h hc
  generalize (m.ths n.toNat).at_ = at0 at *
  clear t0 t1 t2 t3 t5 t6 t7 t8
  go_enter Tryz.func17, Tryz.ntmps17
  go_wp2
  go_ret
  exact ⟨rfl, H.out.alloc _, (Kept.refl _ w).alloc _⟩
set_option maxRecDepth 100000 in
set_option maxHeartbeats 1600000 in
theorem b_ok1 {r tb : Nat} {sl : Value} {B : Nat} {m : M} {w : World} (h : RefAt r tb sl B m w) (n key val old : Int) (hc : m.cl = false) (a1 : ¬ n < 0) (a2 : ¬ (m.nth : Int) ≤ n) (a5 : ¬ key < 0) (a6 : ¬ 7 < key) (v1 : ¬ val < 1) (v2 : ¬ 1000 < val) (hat : (m.ths n.toNat).at_ = 0) :
    Calls Tryz.prog 17 #[.pointer (some ⟨r, 0, none⟩), .int .i64 n, .agg #[.int .i64 1, .int .i64 key, .int .i64 val, .int .i64 old]] w (RBeg r tb sl B w ((0, m.thr n.toNat ⟨1, key, val, old, 1, -1, 0, 0, 0⟩))) := by
  obtain ⟨hsr, hfr, -, -, -, -, -, -, -, c21, c22⟩ := h.mapCell
  have H : Hid _ := h
  have hi : n.toNat < m.nth := by omega
  obtain ⟨hs, hf, t0, t1, t2, t3, t4, t5, t6, t7, t8⟩ := h.thCell hi
  rw [hc] at c21
  rw [hat] at t4
  clear h hc hat
  go_enter Tryz.func17, Tryz.ntmps17
  go_wp2_with fail
  go_region
  go_wp2
  go_ret
  refine ⟨rfl, ?_, ?_⟩
  · exact ((H.out.begun hi 1 key val old 1 (-1) 0 0 0).alloc _).drew
  · exact (((((((((((Kept.refl _ w).setCell (.inl (by simp)) _).setCell (.inl (by simp)) _).setCell (.inl (by simp)) _).setCell (.inl (by simp)) _).setCell (.inl (by simp)) _).setCell (.inl (by simp)) _).setCell (.inl (by simp)) _).setCell (.inl (by simp)) _).setCell (.inl (by simp)) _).alloc _).drew
set_option maxRecDepth 100000 in
set_option maxHeartbeats 1600000 in
theorem b_busy2 {r tb : Nat} {sl : Value} {B : Nat} {m : M} {w : World} (h : RefAt r tb sl B m w) (n key val old : Int) (hc : m.cl = false) (a1 : ¬ n < 0) (a2 : ¬ (m.nth : Int) ≤ n) (a5 : ¬ key < 0) (a6 : ¬ 7 < key) (hat : 0 < (m.ths n.toNat).at_) :
    Calls Tryz.prog 17 #[.pointer (some ⟨r, 0, none⟩), .int .i64 n, .agg #[.int .i64 2, .int .i64 key, .int .i64 val, .int .i64 old]] w (RBeg r tb sl B w ((2, m))) := by
  obtain ⟨hsr, hfr, -, -, -, -, -, -, -, c21, c22⟩ := h.mapCell
  have H : Hid _ := h
  have hi : n.toNat < m.nth := by omega
  obtain ⟨hs, hf, t0, t1, t2, t3, t4, t5, t6, t7, t8⟩ := h.thCell hi
  rw [hc] at c21
  clear h hc
  generalize (m.ths n.toNat).at_ = at0 at *
  clear t0 t1 t2 t3 t5 t6 t7 t8
  go_enter Tryz.func17, Tryz.ntmps17
  go_wp2
  go_ret
  exact ⟨rfl, H.out.alloc _, (Kept.refl _ w).alloc _⟩
set_option maxRecDepth 100000 in
set_option maxHeartbeats 1600000 in
theorem b_ok2 {r tb : Nat} {sl : Value} {B : Nat} {m : M} {w : World} (h : RefAt r tb sl B m w) (n key val old : Int) (hc : m.cl = false) (a1 : ¬ n < 0) (a2 : ¬ (m.nth : Int) ≤ n) (a5 : ¬ key < 0) (a6 : ¬ 7 < key) (hat : (m.ths n.toNat).at_ = 0) :
    Calls Tryz.prog 17 #[.pointer (some ⟨r, 0, none⟩), .int .i64 n, .agg #[.int .i64 2, .int .i64 key, .int .i64 val, .int .i64 old]] w (RBeg r tb sl B w ((0, m.thr n.toNat ⟨2, key, val, old, 1, -1, 0, 0, 0⟩))) := by
  obtain ⟨hsr, hfr, -, -, -, -, -, -, -, c21, c22⟩ := h.mapCell
  have H : Hid _ := h
  have hi : n.toNat < m.nth := by omega
  obtain ⟨hs, hf, t0, t1, t2, t3, t4, t5, t6, t7, t8⟩ := h.thCell hi
  rw [hc] at c21
  rw [hat] at t4
  clear h hc hat
  go_enter Tryz.func17, Tryz.ntmps17
  go_wp2_with fail
  go_region
  go_wp2
  go_ret
  refine ⟨rfl, ?_, ?_⟩
  · exact ((H.out.begun hi 2 key val old 1 (-1) 0 0 0).alloc _).drew
  · exact (((((((((((Kept.refl _ w).setCell (.inl (by simp)) _).setCell (.inl (by simp)) _).setCell (.inl (by simp)) _).setCell (.inl (by simp)) _).setCell (.inl (by simp)) _).setCell (.inl (by simp)) _).setCell (.inl (by simp)) _).setCell (.inl (by simp)) _).setCell (.inl (by simp)) _).alloc _).drew
set_option maxRecDepth 100000 in
set_option maxHeartbeats 1600000 in
theorem b_busy3 {r tb : Nat} {sl : Value} {B : Nat} {m : M} {w : World} (h : RefAt r tb sl B m w) (n key val old : Int) (hc : m.cl = false) (a1 : ¬ n < 0) (a2 : ¬ (m.nth : Int) ≤ n) (a5 : ¬ key < 0) (a6 : ¬ 7 < key) (v1 : ¬ val < 1) (v2 : ¬ 1000 < val) (o1 : ¬ old < 1) (o2 : ¬ 1000 < old) (hat : 0 < (m.ths n.toNat).at_) :
    Calls Tryz.prog 17 #[.pointer (some ⟨r, 0, none⟩), .int .i64 n, .agg #[.int .i64 3, .int .i64 key, .int .i64 val, .int .i64 old]] w (RBeg r tb sl B w ((2, m))) := by
  obtain ⟨hsr, hfr, -, -, -, -, -, -, -, c21, c22⟩ := h.mapCell
  have H : Hid _ := h
  have hi : n.toNat < m.nth := by omega
  obtain ⟨hs, hf, t0, t1, t2, t3, t4, t5, t6, t7, t8⟩ := h.thCell hi
  rw [hc] at c21
  clear h hc
  generalize (m.ths n.toNat).at_ = at0 at *
  clear t0 t1 t2 t3 t5 t6 t7 t8
  go_enter Tryz.func17, Tryz.ntmps17
  go_wp2
  go_ret
  exact ⟨rfl, H.out.alloc _, (Kept.refl _ w).alloc _⟩
set_option maxRecDepth 100000 in
set_option maxHeartbeats 1600000 in
theorem b_ok3 {r tb : Nat} {sl : Value} {B : Nat} {m : M} {w : World} (h : RefAt r tb sl B m w) (n key val old : Int) (hc : m.cl = false) (a1 : ¬ n < 0) (a2 : ¬ (m.nth : Int) ≤ n) (a5 : ¬ key < 0) (a6 : ¬ 7 < key) (v1 : ¬ val < 1) (v2 : ¬ 1000 < val) (o1 : ¬ old < 1) (o2 : ¬ 1000 < old) (hat : (m.ths n.toNat).at_ = 0) :
    Calls Tryz.prog 17 #[.pointer (some ⟨r, 0, none⟩), .int .i64 n, .agg #[.int .i64 3, .int .i64 key, .int .i64 val, .int .i64 old]] w (RBeg r tb sl B w ((0, m.thr n.toNat ⟨3, key, val, old, 1, -1, 0, 0, 0⟩))) := by
  obtain ⟨hsr, hfr, -, -, -, -, -, -, -, c21, c22⟩ := h.mapCell
  have H : Hid _ := h
  have hi : n.toNat < m.nth := by omega
  obtain ⟨hs, hf, t0, t1, t2, t3, t4, t5, t6, t7, t8⟩ := h.thCell hi
  rw [hc] at c21
  rw [hat] at t4
  clear h hc hat
  go_enter Tryz.func17, Tryz.ntmps17
  go_wp2_with fail
  go_region
  go_wp2
  go_ret
  refine ⟨rfl, ?_, ?_⟩
  · exact ((H.out.begun hi 3 key val old 1 (-1) 0 0 0).alloc _).drew
  · exact (((((((((((Kept.refl _ w).setCell (.inl (by simp)) _).setCell (.inl (by simp)) _).setCell (.inl (by simp)) _).setCell (.inl (by simp)) _).setCell (.inl (by simp)) _).setCell (.inl (by simp)) _).setCell (.inl (by simp)) _).setCell (.inl (by simp)) _).setCell (.inl (by simp)) _).alloc _).drew
theorem r_begin {r tb : Nat} {sl : Value} {B : Nat} {m : M} {w : World} (h : RefAt r tb sl B m w) (hI : m.Inv) (n kind key val old : Int) :
    Calls Tryz.prog 17 #[.pointer (some ⟨r, 0, none⟩), .int .i64 n, .agg #[.int .i64 kind, .int .i64 key, .int .i64 val, .int .i64 old]] w (RBeg r tb sl B w (m.begin n kind key val old)) := by
  unfold M.begin
  by_cases hc : m.cl = true
  · rw [if_pos hc]; exact b_closed h n kind key val old hc
  rw [if_neg hc]
  have hc' : m.cl = false := by simpa using hc
  by_cases a1 : n < 0
  · rw [if_pos (.inl a1)]; exact b_a h n kind key val old hc' a1
  by_cases a2 : (m.nth : Int) ≤ n
  · rw [if_pos (.inr (.inl a2))]; exact b_b h n kind key val old hc' a1 a2
  by_cases a3 : kind < 0
  · rw [if_pos (.inr (.inr (by unfold OpOk; omega)))]; exact b_c h n kind key val old hc' a1 a2 a3
  by_cases a4 : 3 < kind
  · rw [if_pos (.inr (.inr (by unfold OpOk; omega)))]; exact b_d h n kind key val old hc' a1 a2 a3 a4
  by_cases a5 : key < 0
  · rw [if_pos (.inr (.inr (by unfold OpOk; omega)))]; exact b_e h n kind key val old hc' a1 a2 a3 a4 a5
  by_cases a6 : 7 < key
  · rw [if_pos (.inr (.inr (by unfold OpOk; omega)))]; exact b_f h n kind key val old hc' a1 a2 a3 a4 a5 a6
  have hi : n.toNat < m.nth := by omega
  have hcase : 0 < (m.ths n.toNat).at_ ∨ (m.ths n.toNat).at_ = 0 := by
    rcases hI.th n.toNat hi with a | a
    · exact .inr a
    · left; rcases a.ak with ⟨_, q⟩ | ⟨_, q⟩ | ⟨_, q⟩ | ⟨_, q⟩ <;> omega
  have hkd : kind = 0 ∨ kind = 1 ∨ kind = 2 ∨ kind = 3 := by omega
  rcases hkd with rfl | rfl | rfl | rfl
  · rw [if_neg (by unfold OpOk; omega)]
    rcases hcase with q | q
    · rw [if_pos q]; exact b_busy0 h n key val old hc' a1 a2 a5 a6 q
    · rw [if_neg (by omega)]; exact b_ok0 h n key val old hc' a1 a2 a5 a6 q
  · by_cases v1 : val < 1
    · rw [if_pos (.inr (.inr (by unfold OpOk; omega)))]; exact b_v1_1 h n key val old hc' a1 a2 a5 a6 v1
    by_cases v2 : 1000 < val
    · rw [if_pos (.inr (.inr (by unfold OpOk; omega)))]; exact b_v2_1 h n key val old hc' a1 a2 a5 a6 v1 v2
    rw [if_neg (by unfold OpOk; omega)]
    rcases hcase with q | q
    · rw [if_pos q]; exact b_busy1 h n key val old hc' a1 a2 a5 a6 v1 v2 q
    · rw [if_neg (by omega)]; exact b_ok1 h n key val old hc' a1 a2 a5 a6 v1 v2 q
  · rw [if_neg (by unfold OpOk; omega)]
    rcases hcase with q | q
    · rw [if_pos q]; exact b_busy2 h n key val old hc' a1 a2 a5 a6 q
    · rw [if_neg (by omega)]; exact b_ok2 h n key val old hc' a1 a2 a5 a6 q
  · by_cases v1 : val < 1
    · rw [if_pos (.inr (.inr (by unfold OpOk; omega)))]; exact b_v1_3 h n key val old hc' a1 a2 a5 a6 v1
    by_cases v2 : 1000 < val
    · rw [if_pos (.inr (.inr (by unfold OpOk; omega)))]; exact b_v2_3 h n key val old hc' a1 a2 a5 a6 v1 v2
    by_cases o1 : old < 1
    · rw [if_pos (.inr (.inr (by unfold OpOk; omega)))]; exact b_o1 h n key val old hc' a1 a2 a5 a6 v1 v2 o1
    by_cases o2 : 1000 < old
    · rw [if_pos (.inr (.inr (by unfold OpOk; omega)))]; exact b_o2 h n key val old hc' a1 a2 a5 a6 v1 v2 o1 o2
    rw [if_neg (by unfold OpOk; omega)]
    rcases hcase with q | q
    · rw [if_pos q]; exact b_busy3 h n key val old hc' a1 a2 a5 a6 v1 v2 o1 o2 q
    · rw [if_neg (by omega)]; exact b_ok3 h n key val old hc' a1 a2 a5 a6 v1 v2 o1 o2 q
end Go.Proofs.YtmnkphenobfbfaaGreat
