import Derived.Test.YtmnkphenobfbfaaXg
import Derived.Test.YtmnkphenobfbfaaYa
namespace Go.Proofs.Ytmnkphenobfbfaa
/-! A Load alone, from a map at rest: by DIRTY, and by READ. -/
structure Rest (m : M) : Prop where
  cl : m.cl = false
  th : 0 < m.nth
  idle : (m.ths 0).at_ = 0
  hol : m.hol = -1
theorem step0 {m : M} (hc : m.cl = false) (hn : 0 < m.nth) (ha : ¬ (m.ths 0).at_ = 0) {o : Out} (hd : m.does 0 = some o) : m.step 0 = ⟨0, o⟩ := by
  unfold M.step
  rw [if_neg (by rw [hc]; simp), if_neg (by omega)]
  simp only [Int.toNat_zero]
  rw [if_neg ha, hd]
def ldT (key a e : Int) : Thr := ⟨0, key, 0, 0, a, e, 0, 0, 0⟩
theorem begin0 {m : M} (h : Rest m) (key : Nat) (hk : key < 8) : m.begin 0 0 key 0 0 = (0, m.thr 0 (ldT key 1 (-1))) := by
  unfold M.begin
  rw [if_neg (by rw [h.cl]; simp), if_neg ?_]
  · simp only [Int.toNat_zero]
    rw [if_neg (by rw [h.idle]; omega)]
    rfl
  · have hn := h.th
    rintro (q | q | q)
    · omega
    · omega
    · exact q (by unfold OpOk; omega)
theorem does_ld {m : M} (key a e : Int) (h2 : ¬ a = 2) : (m.thr 0 (ldT key a e)).does 0 = some ((m.thr 0 (ldT key a e)).load 0) := by
  simp [M.does, M.lockAt, thr_ths, ldT, h2]
theorem ld1_in {m : M} {key : Nat} (hr : 0 ≤ m.read key) (e : Int) : (m.thr 0 (ldT key 1 e)).load 0 = ⟨false, false, 0, m.thr 0 (ldT key 7 (m.read key))⟩ := by
  simp [M.load, M.first, M.key, M.sets, M.goes, M.thr, put_put, put_same, ldT, hr]
theorem ld1_on {m : M} {key : Nat} (hr : ¬ 0 ≤ m.read key) (ha : m.am = true) (e : Int) : (m.thr 0 (ldT key 1 e)).load 0 = ⟨false, false, 0, m.thr 0 (ldT key 2 (m.read key))⟩ := by
  simp [M.load, M.first, M.key, M.sets, M.goes, M.thr, put_put, put_same, ldT, hr, ha]
theorem ld2 {m : M} {key e : Int} (hh : ¬ 0 ≤ m.hol) : (m.thr 0 (ldT key 2 e)).does 0 = some ⟨false, false, 0, { m with hol := 0 }.thr 0 (ldT key 3 e)⟩ := by
  simp [M.does, M.lockAt, M.goes, M.thr, put_put, put_same, ldT, hh]
theorem ld3_on {m : M} {key : Nat} (hr : ¬ 0 ≤ m.read key) (ha : m.am = true) (e : Int) : (m.thr 0 (ldT key 3 e)).load 0 = ⟨false, false, 0, m.thr 0 (ldT key 4 (m.read key))⟩ := by
  simp [M.load, M.third, M.key, M.sets, M.goes, M.thr, put_put, put_same, ldT, hr, ha]
theorem ld4 {m : M} {key : Nat} (e : Int) : (m.thr 0 (ldT key 4 e)).load 0 = ⟨false, false, 0, m.thr 0 (ldT key 5 (m.dirty key))⟩ := by
  simp [M.load, M.key, M.sets, M.goes, M.thr, put_put, put_same, ldT]
theorem ld5_few {m : M} {key e : Int} (hc : m.mis + 1 < cnt m.dirty 8) : (m.thr 0 (ldT key 5 e)).load 0 = ⟨false, false, 0, { m with mis := m.mis + 1 }.thr 0 (ldT key 6 e)⟩ := by
  simp [M.load, M.missed, M.goes, M.thr, put_put, put_same, ldT, hc]
theorem ld5_all {m : M} {key e : Int} (hc : ¬ m.mis + 1 < cnt m.dirty 8) : (m.thr 0 (ldT key 5 e)).load 0 = ⟨false, false, 0, { m with mis := m.mis + 1 }.thr 0 (ldT key 51 e)⟩ := by
  simp [M.load, M.missed, M.goes, M.thr, put_put, put_same, ldT, hc]
theorem ld51 {m : M} {key e : Int} : (m.thr 0 (ldT key 51 e)).load 0 = ⟨false, false, 0, { m with read := m.dirty, am := false }.thr 0 (ldT key 52 e)⟩ := by
  simp [M.load, M.missed, M.goes, M.thr, put_put, put_same, ldT]
theorem ld52 {m : M} {key e : Int} : (m.thr 0 (ldT key 52 e)).load 0 = ⟨false, false, 0, { m with hd := false, dirty := fun _ => -1 }.thr 0 (ldT key 53 e)⟩ := by
  simp [M.load, M.missed, M.goes, M.thr, put_put, put_same, ldT]
theorem ld53 {m : M} {key e : Int} : (m.thr 0 (ldT key 53 e)).load 0 = ⟨false, false, 0, { m with mis := 0 }.thr 0 (ldT key 6 e)⟩ := by
  simp [M.load, M.missed, M.goes, M.thr, put_put, put_same, ldT]
theorem ld6 {m : M} {key e : Int} (he : ¬ e < 0) : (m.thr 0 (ldT key 6 e)).load 0 = ⟨false, false, 0, { m with hol := -1 }.thr 0 (ldT key 7 e)⟩ := by
  simp [M.load, M.frees, M.goes, M.thr, put_put, put_same, ldT, he]
theorem ld7 {m : M} {key e : Int} (hs : (m.cells e.toNat).st = 0) : (m.thr 0 (ldT key 7 e)).load 0 = ⟨true, true, (m.cells e.toNat).v, m.thr 0 (ldT key 0 e)⟩ := by
  simp [M.load, M.ends, M.thr, put_put, put_same, ldT, hs]
end Go.Proofs.Ytmnkphenobfbfaa
namespace Go.Proofs.Ytmnkphenobfbfaa
theorem runs_go {m m' : M} {t : Int} {f : Bool} {v : Int} (h : m.step t = ⟨0, false, f, v, m'⟩) (n : Nat) : m.runs t (n + 1) = m'.runs t n := by
  simp [M.runs, h]
theorem runs_done {m m' : M} {t : Int} {f : Bool} {v : Int} (h : m.step t = ⟨0, true, f, v, m'⟩) (n : Nat) : m.runs t (n + 1) = (true, f, v, true, m') := by
  simp [M.runs, h]
theorem thr_at (m : M) (key a e : Int) (ha : ¬ a = 0) : ¬ ((m.thr 0 (ldT key a e)).ths 0).at_ = 0 := by
  rw [thr_ths]; exact ha
theorem ld_step {m : M} {key a e : Int} {o : Out} (hc : m.cl = false) (hn : 0 < m.nth) (h0 : ¬ a = 0) (h2 : ¬ a = 2) (h : (m.thr 0 (ldT key a e)).load 0 = o) : (m.thr 0 (ldT key a e)).step 0 = ⟨0, o⟩ := by
  refine step0 (m := m.thr 0 (ldT key a e)) hc hn (thr_at m key a e h0) ?_
  rw [does_ld key a e h2, h]
/-- A Load whose key stands in DIRTY alone, and is not the last miss. -/
theorem load_few {m : M} (h : Rest m) {key : Nat} (hr : ¬ 0 ≤ m.read key) (ha : m.am = true) (hd : ¬ m.dirty key < 0) (hs : (m.cells (m.dirty key).toNat).st = 0) (hc : m.mis + 1 < cnt m.dirty 8) :
    (m.thr 0 (ldT key 1 (-1))).runs 0 30 = (true, true, (m.cells (m.dirty key).toNat).v, true, { m with mis := m.mis + 1, hol := -1 }.thr 0 (ldT key 0 (m.dirty key))) := by
  have hn := h.th
  have hh : ¬ 0 ≤ m.hol := by rw [h.hol]; omega
  rw [runs_go (ld_step h.cl hn (by omega) (by omega) (ld1_on hr ha _)) 29]
  rw [runs_go (step0 (m := m.thr 0 (ldT key 2 (m.read key))) h.cl hn (thr_at m key 2 _ (by omega)) (ld2 hh)) 28]
  rw [runs_go (ld_step (m := { m with hol := 0 }) h.cl hn (by omega) (by omega) (ld3_on (m := { m with hol := 0 }) hr ha _)) 27]
  rw [runs_go (ld_step (m := { m with hol := 0 }) h.cl hn (by omega) (by omega) (ld4 (m := { m with hol := 0 }) _)) 26]
  rw [runs_go (ld_step (m := { m with hol := 0 }) h.cl hn (by omega) (by omega) (ld5_few (m := { m with hol := 0 }) hc)) 25]
  rw [runs_go (ld_step (m := { m with hol := 0, mis := m.mis + 1 }) h.cl hn (by omega) (by omega) (ld6 (m := { m with hol := 0, mis := m.mis + 1 }) hd)) 24]
  rw [runs_done (ld_step (m := { m with hol := -1, mis := m.mis + 1 }) h.cl hn (by omega) (by omega) (ld7 (m := { m with hol := -1, mis := m.mis + 1 }) hs)) 23]
/-- The last miss: DIRTY takes READ's place. -/
theorem load_all {m : M} (h : Rest m) {key : Nat} (hr : ¬ 0 ≤ m.read key) (ha : m.am = true) (hd : ¬ m.dirty key < 0) (hs : (m.cells (m.dirty key).toNat).st = 0) (hc : ¬ m.mis + 1 < cnt m.dirty 8) :
    (m.thr 0 (ldT key 1 (-1))).runs 0 30 = (true, true, (m.cells (m.dirty key).toNat).v, true, { m with read := m.dirty, am := false, hd := false, dirty := fun _ => -1, mis := 0, hol := -1 }.thr 0 (ldT key 0 (m.dirty key))) := by
  have hn := h.th
  have hh : ¬ 0 ≤ m.hol := by rw [h.hol]; omega
  rw [runs_go (ld_step h.cl hn (by omega) (by omega) (ld1_on hr ha _)) 29]
  rw [runs_go (step0 (m := m.thr 0 (ldT key 2 (m.read key))) h.cl hn (thr_at m key 2 _ (by omega)) (ld2 hh)) 28]
  rw [runs_go (ld_step (m := { m with hol := 0 }) h.cl hn (by omega) (by omega) (ld3_on (m := { m with hol := 0 }) hr ha _)) 27]
  rw [runs_go (ld_step (m := { m with hol := 0 }) h.cl hn (by omega) (by omega) (ld4 (m := { m with hol := 0 }) _)) 26]
  rw [runs_go (ld_step (m := { m with hol := 0 }) h.cl hn (by omega) (by omega) (ld5_all (m := { m with hol := 0 }) hc)) 25]
  rw [runs_go (ld_step (m := { m with hol := 0, mis := m.mis + 1 }) h.cl hn (by omega) (by omega) (ld51 (m := { m with hol := 0, mis := m.mis + 1 }))) 24]
  rw [runs_go (ld_step (m := { m with hol := 0, mis := m.mis + 1, read := m.dirty, am := false }) h.cl hn (by omega) (by omega) (ld52 (m := { m with hol := 0, mis := m.mis + 1, read := m.dirty, am := false }))) 23]
  rw [runs_go (ld_step (m := { m with hol := 0, mis := m.mis + 1, read := m.dirty, am := false, hd := false, dirty := fun _ => -1 }) h.cl hn (by omega) (by omega) (ld53 (m := { m with hol := 0, mis := m.mis + 1, read := m.dirty, am := false, hd := false, dirty := fun _ => -1 }))) 22]
  rw [runs_go (ld_step (m := { m with hol := 0, mis := 0, read := m.dirty, am := false, hd := false, dirty := fun _ => -1 }) h.cl hn (by omega) (by omega) (ld6 (m := { m with hol := 0, mis := 0, read := m.dirty, am := false, hd := false, dirty := fun _ => -1 }) hd)) 21]
  rw [runs_done (ld_step (m := { m with hol := -1, mis := 0, read := m.dirty, am := false, hd := false, dirty := fun _ => -1 }) h.cl hn (by omega) (by omega) (ld7 (m := { m with hol := -1, mis := 0, read := m.dirty, am := false, hd := false, dirty := fun _ => -1 }) hs)) 20]
/-- The maps that 'Promoted' makes: i keys from f on. -/
def stM (f : Nat) : Nat → M
  | 0 => M.new 2
  | i + 1 => (((stM f i).begin 1 1 (((f + i) % 8 : Nat) : Int) ((1 + i : Nat) : Int) 0).2.runs 1 30).2.2.2.2
theorem st_begin : ∀ f, f < 8 → ∀ i, i < 8 → ((stM f i).begin 1 1 (((f + i) % 8 : Nat) : Int) ((1 + i : Nat) : Int) 0).1 = 0 := by decide +kernel
theorem st_runs : ∀ f, f < 8 → ∀ i, i < 8 → (((stM f i).begin 1 1 (((f + i) % 8 : Nat) : Int) ((1 + i : Nat) : Int) 0).2.runs 1 30).2.2.2.1 = true := by decide +kernel
end Go.Proofs.Ytmnkphenobfbfaa
namespace Go.Proofs.Ytmnkphenobfbfaa
theorem st_rest : ∀ f, f < 8 → ∀ c, c < 9 → (stM f c).cl = false ∧ (stM f c).nth = 2 ∧ ((stM f c).ths 0).at_ = 0 ∧ ((stM f c).ths 1).at_ = 0 ∧ (stM f c).hol = -1 ∧ (stM f c).mis = 0 := by decide +kernel
theorem st_look : ∀ f, f < 8 → ∀ c, c < 9 → 0 < c → (stM f c).am = true ∧ (stM f c).hd = true ∧ cnt (stM f c).read 8 = 0 ∧ cnt (stM f c).dirty 8 = c := by decide +kernel
theorem st_read : ∀ f, f < 8 → ∀ c, c < 9 → ∀ k, k < 8 → ¬ 0 ≤ (stM f c).read k := by decide +kernel
theorem st_key : ∀ f, f < 8 → ∀ c, c < 9 → ∀ k, k < c → ¬ (stM f c).dirty ((f + k) % 8) < 0 ∧ ((stM f c).cells ((stM f c).dirty ((f + k) % 8)).toNat).st = 0 ∧ ((stM f c).cells ((stM f c).dirty ((f + k) % 8)).toNat).v = 1 + (k : Int) := by decide +kernel
/-- Behind j Loads. -/
structure LP (f c j : Nat) (m : M) : Prop where
  rest : Rest m
  rd : m.read = (stM f c).read
  dt : m.dirty = (stM f c).dirty
  ce : m.cells = (stM f c).cells
  am : m.am = true
  hd : m.hd = true
  mis : m.mis = j
/-- Behind all. -/
structure PP (f c : Nat) (m : M) : Prop where
  rest : Rest m
  rd : m.read = (stM f c).dirty
  dt : m.dirty = fun _ => -1
  ce : m.cells = (stM f c).cells
  am : m.am = false
  hd : m.hd = false
  mis : m.mis = 0
theorem lp_start {f c : Nat} (hf : f < 8) (hc : c < 9) (h0 : 0 < c) : LP f c 0 (stM f c) := by
  have h1 := st_rest f hf c hc
  have h2 := st_look f hf c hc h0
  exact ⟨⟨h1.1, by rw [h1.2.1]; omega, h1.2.2.1, h1.2.2.2.2.1⟩, rfl, rfl, rfl, h2.1, h2.2.1, h1.2.2.2.2.2⟩
/-- One Load of a key that was stored. -/
theorem lp_load {f c j k : Nat} {m : M} (hf : f < 8) (hc : c < 9) (h : LP f c j m) (hj : j < c) (hk : k < c) :
    (m.begin 0 0 (((f + k) % 8 : Nat) : Int) 0 0).1 = 0 ∧ ∃ m', (m.begin 0 0 (((f + k) % 8 : Nat) : Int) 0 0).2.runs 0 30 = (true, true, 1 + (k : Int), true, m') ∧ (j + 1 < c → LP f c (j + 1) m') ∧ (j + 1 = c → PP f c m') := by
  have hb := begin0 h.rest ((f + k) % 8) (by omega)
  have hq := st_key f hf c hc k hk
  have hr := st_read f hf c hc ((f + k) % 8) (by omega)
  have hn := (st_look f hf c hc (by omega)).2.2.2
  rw [hb]
  refine ⟨rfl, ?_⟩
  have e1 : ¬ 0 ≤ m.read ((f + k) % 8) := by rw [h.rd]; exact hr
  have e2 : ¬ m.dirty ((f + k) % 8) < 0 := by rw [h.dt]; exact hq.1
  have e3 : (m.cells (m.dirty ((f + k) % 8)).toNat).st = 0 := by rw [h.ce, h.dt]; exact hq.2.1
  have e4 : (m.cells (m.dirty ((f + k) % 8)).toNat).v = 1 + (k : Int) := by rw [h.ce, h.dt]; exact hq.2.2
  by_cases hx : j + 1 < c
  · have hm : m.mis + 1 < cnt m.dirty 8 := by rw [h.mis, h.dt, hn]; omega
    refine ⟨_, by rw [← e4]; exact load_few h.rest e1 h.am e2 e3 hm, fun _ => ?_, fun q => by omega⟩
    exact ⟨⟨h.rest.cl, h.rest.th, by rw [thr_ths]; rfl, rfl⟩, h.rd, h.dt, h.ce, h.am, h.hd, by show m.mis + 1 = ((j + 1 : Nat) : Int); rw [h.mis]; omega⟩
  · have hm : ¬ m.mis + 1 < cnt m.dirty 8 := by rw [h.mis, h.dt, hn]; omega
    refine ⟨_, by rw [← e4]; exact load_all h.rest e1 h.am e2 e3 hm, fun q => by omega, fun _ => ?_⟩
    exact ⟨⟨h.rest.cl, h.rest.th, by rw [thr_ths]; rfl, rfl⟩, h.dt, rfl, h.ce, rfl, rfl, rfl⟩
theorem cnt_none (n : Nat) : cnt (fun _ => -1) n = 0 := by
  induction n with
  | zero => rfl
  | succ n ih => simp [cnt, ih]
/-- The Load behind all: two steps. -/
theorem pp_load {f c : Nat} {m : M} (hf : f < 8) (hc : c < 9) (h0 : 0 < c) (h : PP f c m) :
    (m.begin 0 0 (f : Int) 0 0).1 = 0 ∧ ∃ m1 m2, (m.begin 0 0 (f : Int) 0 0).2.step 0 = ⟨0, false, false, 0, m1⟩ ∧ m1.step 0 = ⟨0, true, true, 1, m2⟩ := by
  have hb := begin0 h.rest f hf
  have hq := st_key f hf c hc 0 h0
  have hff : (f + 0) % 8 = f := by omega
  rw [hff] at hq
  rw [hb]
  have e1 : 0 ≤ m.read f := by rw [h.rd]; omega
  have e3 : (m.cells (m.read f).toNat).st = 0 := by rw [h.ce, h.rd]; exact hq.2.1
  have e4 : (m.cells (m.read f).toNat).v = 1 := by rw [h.ce, h.rd]; simpa using hq.2.2
  refine ⟨rfl, _, m.thr 0 (ldT f 0 (m.read f)), ld_step h.rest.cl h.rest.th (by omega) (by omega) (ld1_in e1 _), ?_⟩
  have := ld_step (m := m) (key := f) (a := 7) (e := m.read f) h.rest.cl h.rest.th (by omega) (by omega) (ld7 (m := m) e3)
  rw [e4] at this
  exact this
end Go.Proofs.Ytmnkphenobfbfaa
