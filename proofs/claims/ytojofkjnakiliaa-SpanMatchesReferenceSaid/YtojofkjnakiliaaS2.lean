/- Plain facts on stretches of time: what the sweep's result is, when a list is valid, and the laws of layer 20 on lists of pairs of numbers; no condition beyond those that each theorem names, and nothing of Go. -/
import Derived.Test.YtojofkjnakiliaaS1
namespace Go.Proofs.Ytojofkjnakiliaa
namespace SpP

def top : Int := 20000000
def evLe (x y : Ev) : Bool := decide (x.1 ≤ y.1)
/-- The stretches that a sweep over the ends of two lists makes. -/
def swp (c : Int → Int → Bool) (a b : List Sp) : List Sp := swept c ((evs a b).mergeSort evLe)
theorem ms_perm (l : List Ev) : (l.mergeSort evLe).Perm l := List.mergeSort_perm l evLe
theorem ms_pair (l : List Ev) : (l.mergeSort evLe).Pairwise (fun x y => x.1 ≤ y.1) := by
  have h := List.pairwise_mergeSort (le := evLe) (fun a b c h1 h2 => by simp only [evLe, decide_eq_true_eq] at *; omega) (fun a b => by simp only [evLe, Bool.or_eq_true, decide_eq_true_eq]; omega) l
  exact h.imp fun h => by simpa [evLe] using h
/-- Not empty or empty, but in the range of all times. -/
def InR (l : List Sp) : Prop := ∀ s ∈ l, 0 ≤ s.1 ∧ s.1 ≤ s.2 ∧ s.2 ≤ top
theorem InR.low {l : List Sp} (h : InR l) : ∀ s ∈ l, (-1 : Int) < s.1 ∧ s.1 ≤ s.2 := fun s hs => by
  have := h s hs
  omega
theorem swept_swp {c : Int → Int → Bool} (h0 : c 0 0 = false) {a b : List Sp} {d : List Ev} (hd : d.Perm (evs a b)) (hs : d.Pairwise (fun x y => x.1 ≤ y.1)) (ha : InR a) (hb : InR b) : swept c d = swp c a b := by
  have h1 := swept_is h0 hd hs ha.low hb.low
  have h2 := swept_is h0 (ms_perm (evs a b)) (ms_pair (evs a b)) ha.low hb.low
  exact sep_unique h1.1 h2.1 fun t => (h1.2.2 t).trans (h2.2.2 t).symm
theorem swp_sep {c : Int → Int → Bool} (h0 : c 0 0 = false) {a b : List Sp} (ha : InR a) (hb : InR b) : Sep (-1) (swp c a b) :=
  (swept_is h0 (ms_perm (evs a b)) (ms_pair (evs a b)) ha.low hb.low).1
theorem swp_len {c : Int → Int → Bool} (h0 : c 0 0 = false) {a b : List Sp} (ha : InR a) (hb : InR b) : (swp c a b).length ≤ 2 * a.length + 2 * b.length :=
  (swept_is h0 (ms_perm (evs a b)) (ms_pair (evs a b)) ha.low hb.low).2.1
theorem swp_cnt {c : Int → Int → Bool} (h0 : c 0 0 = false) {a b : List Sp} (ha : InR a) (hb : InR b) (t : Int) : hasS (swp c a b) t = c (cnt a t) (cnt b t) :=
  (swept_is h0 (ms_perm (evs a b)) (ms_pair (evs a b)) ha.low hb.low).2.2 t
theorem cnt_zero {l : List Sp} {t : Int} (h : hasS l t = false) : cnt l t = 0 := by
  have h1 := cnt_has0 l t
  rw [h] at h1
  simpa using h1
theorem swp_top {c : Int → Int → Bool} (h0 : c 0 0 = false) {a b : List Sp} (ha : InR a) (hb : InR b) : ∀ s ∈ swp c a b, s.2 ≤ top := by
  intro s hs
  have hse := (swp_sep h0 ha hb).mem s hs
  have hh : hasS (swp c a b) (s.2 - 1) = true := (hasS_iff _ _).2 ⟨s, hs, by omega, by omega⟩
  rw [swp_cnt h0 ha hb] at hh
  cases qa : hasS a (s.2 - 1) with
  | true =>
    obtain ⟨x, hx, h1, h2⟩ := (hasS_iff _ _).1 qa
    have := ha x hx
    omega
  | false =>
    cases qb : hasS b (s.2 - 1) with
    | true =>
      obtain ⟨x, hx, h1, h2⟩ := (hasS_iff _ _).1 qb
      have := hb x hx
      omega
    | false =>
      rw [cnt_zero qa, cnt_zero qb, h0] at hh
      cases hh

/-- Apart, in order, and in the range of all times. -/
structure Val (l : List Sp) : Prop where
  sep : Sep (-1) l
  top : ∀ s ∈ l, s.2 ≤ top
theorem Val.inR {l : List Sp} (h : Val l) : InR l := fun s hs => by
  have := h.sep.mem s hs
  have := h.top s hs
  omega
theorem Val.nil : Val [] := ⟨trivial, fun s h => by cases h⟩
theorem swp_val {c : Int → Int → Bool} (h0 : c 0 0 = false) {a b : List Sp} (ha : InR a) (hb : InR b) : Val (swp c a b) := ⟨swp_sep h0 ha hb, swp_top h0 ha hb⟩
theorem Val.eq {a b : List Sp} (ha : Val a) (hb : Val b) (h : ∀ t, hasS a t = hasS b t) : a = b := sep_unique ha.sep hb.sep h

def vFrom : Int → List Sp → Bool
  | _, [] => true
  | lo, s :: r => decide (lo < s.1) && decide (s.1 < s.2) && decide (s.2 ≤ top) && vFrom s.2 r
theorem vFrom_iff : ∀ (lo : Int) (l : List Sp), vFrom lo l = true ↔ Sep lo l ∧ ∀ s ∈ l, s.2 ≤ top
  | _, [] => by simp [vFrom, Sep]
  | lo, s :: r => by
    have ih := vFrom_iff s.2 r
    simp only [vFrom, Bool.and_eq_true, decide_eq_true_eq, Sep, List.mem_cons, forall_eq_or_imp, ih]
    constructor
    · rintro ⟨⟨⟨h1, h2⟩, h3⟩, h4, h5⟩; exact ⟨⟨h1, h2, h4⟩, h3, h5⟩
    · rintro ⟨⟨h1, h2, h4⟩, h3, h5⟩; exact ⟨⟨⟨h1, h2⟩, h3⟩, h4, h5⟩
def validB (l : List Sp) : Bool := decide (l.length ≤ 20000) && vFrom (-1) l
theorem validB_iff (l : List Sp) : validB l = true ↔ l.length ≤ 20000 ∧ Val l := by
  unfold validB
  rw [Bool.and_eq_true, vFrom_iff, decide_eq_true_eq]
  exact ⟨fun ⟨h1, h2, h3⟩ => ⟨h1, h2, h3⟩, fun ⟨h1, h2⟩ => ⟨h1, h2.sep, h2.top⟩⟩
def inB (l : List Sp) : Bool := l.all fun s => decide (0 ≤ s.1) && decide (s.1 ≤ s.2) && decide (s.2 ≤ top)
theorem inB_iff (l : List Sp) : inB l = true ↔ InR l := by
  unfold inB InR
  rw [List.all_eq_true]
  constructor
  · intro h s hs
    have := h s hs
    simp only [Bool.and_eq_true, decide_eq_true_eq] at this
    omega
  · intro h s hs
    have := h s hs
    simp only [Bool.and_eq_true, decide_eq_true_eq]
    omega

def cN (a _ : Int) : Bool := decide (0 < a)
def cU (a b : Int) : Bool := decide (0 < a + b)
def cX (a b : Int) : Bool := decide (0 < a) && decide (0 < b)
def cM (a b : Int) : Bool := decide (0 < a) && decide (b = 0)
def nrm (l : List Sp) : List Sp := swp cN l []
theorem inR_nil : InR [] := fun s h => by cases h
theorem nrm_has {l : List Sp} (h : InR l) (t : Int) : hasS (nrm l) t = hasS l t := by
  unfold nrm
  rw [swp_cnt rfl h inR_nil, ← cnt_has]
  rfl
theorem nrm_val {l : List Sp} (h : InR l) : Val (nrm l) := swp_val rfl h inR_nil
theorem nrm_len {l : List Sp} (h : InR l) : (nrm l).length ≤ 2 * l.length := by have := swp_len (c := cN) rfl h inR_nil; show (swp cN l []).length ≤ _; simpa using this
theorem uni_has {a b : List Sp} (ha : InR a) (hb : InR b) (t : Int) : hasS (swp cU a b) t = (hasS a t || hasS b t) := by
  rw [swp_cnt rfl ha hb, ← cnt_has, ← cnt_has, Bool.eq_iff_iff]
  have h1 := cnt_nn a t
  have h2 := cnt_nn b t
  simp only [cU, decide_eq_true_eq, Bool.or_eq_true]
  omega
theorem crs_has {a b : List Sp} (ha : InR a) (hb : InR b) (t : Int) : hasS (swp cX a b) t = (hasS a t && hasS b t) := by
  rw [swp_cnt rfl ha hb, ← cnt_has, ← cnt_has]
  rfl
theorem min_has {a b : List Sp} (ha : InR a) (hb : InR b) (t : Int) : hasS (swp cM a b) t = (hasS a t && !hasS b t) := by
  rw [swp_cnt rfl ha hb, ← cnt_has, ← cnt_has0]
  rfl
theorem hasS_reverse (l : List Sp) (t : Int) : hasS l.reverse t = hasS l t := by simp [hasS]
theorem inR_reverse {l : List Sp} (h : InR l) : InR l.reverse := fun s hs => h s (by simpa using hs)

/-- P20.2 -/
theorem nrm_bad {l : List Sp} (h : inB l = false) : validB l = false := by
  rw [Bool.eq_false_iff]
  intro q
  rw [(inB_iff l).2 ((validB_iff l).1 q).2.inR] at h
  cases h
theorem nrm_turned {l : List Sp} (h : InR l) : nrm l.reverse = nrm l :=
  (nrm_val (inR_reverse h)).eq (nrm_val h) fun t => by rw [nrm_has (inR_reverse h), nrm_has h, hasS_reverse]
theorem nrm_self {l : List Sp} (h : Val l) : nrm l = l := (nrm_val h.inR).eq h fun t => nrm_has h.inR t
theorem nrm_again {l : List Sp} (h : InR l) : nrm (nrm l) = nrm l := nrm_self (nrm_val h)

/-- P20.4, P20.5 -/
theorem parts_all {a b : List Sp} (ha : Val a) (hb : Val b) : swp cU (swp cX a b) (swp cM a b) = a := by
  have hx := swp_val (c := cX) rfl ha.inR hb.inR
  have hm := swp_val (c := cM) rfl ha.inR hb.inR
  refine (swp_val rfl hx.inR hm.inR).eq ha fun t => ?_
  rw [uni_has hx.inR hm.inR, crs_has ha.inR hb.inR, min_has ha.inR hb.inR]
  cases hasS a t <;> cases hasS b t <;> rfl
theorem parts_none {a b : List Sp} (ha : Val a) (hb : Val b) : swp cX (swp cX a b) (swp cM a b) = [] := by
  have hx := swp_val (c := cX) rfl ha.inR hb.inR
  have hm := swp_val (c := cM) rfl ha.inR hb.inR
  refine (swp_val rfl hx.inR hm.inR).eq Val.nil fun t => ?_
  rw [crs_has hx.inR hm.inR, crs_has ha.inR hb.inR, min_has ha.inR hb.inR]
  cases hasS a t <;> cases hasS b t <;> rfl
theorem uni_comm {a b : List Sp} (ha : Val a) (hb : Val b) : swp cU a b = swp cU b a := by
  refine (swp_val rfl ha.inR hb.inR).eq (swp_val rfl hb.inR ha.inR) fun t => ?_
  rw [uni_has ha.inR hb.inR, uni_has hb.inR ha.inR, Bool.or_comm]
theorem crs_comm {a b : List Sp} (ha : Val a) (hb : Val b) : swp cX a b = swp cX b a := by
  refine (swp_val rfl ha.inR hb.inR).eq (swp_val rfl hb.inR ha.inR) fun t => ?_
  rw [crs_has ha.inR hb.inR, crs_has hb.inR ha.inR, Bool.and_comm]
theorem minus_uni {a b c : List Sp} (ha : Val a) (hb : Val b) (hc : Val c) : swp cM a (swp cU b c) = swp cM (swp cM a b) c := by
  have hu := swp_val (c := cU) rfl hb.inR hc.inR
  have hm := swp_val (c := cM) rfl ha.inR hb.inR
  refine (swp_val rfl ha.inR hu.inR).eq (swp_val rfl hm.inR hc.inR) fun t => ?_
  rw [min_has ha.inR hu.inR, uni_has hb.inR hc.inR, min_has hm.inR hc.inR, min_has ha.inR hb.inR]
  cases hasS a t <;> cases hasS b t <;> cases hasS c t <;> rfl

/-- P20.6 -/
def grown (l : List Sp) (b a : Int) : List Sp := l.map fun s => (max 0 (s.1 - b), min top (s.2 + a))
theorem grown_inR {l : List Sp} (h : Val l) {b a : Int} (hb : 0 ≤ b) (ha : 0 ≤ a) : InR (grown l b a) := by
  intro s hs
  obtain ⟨x, hx, rfl⟩ := List.mem_map.1 hs
  have h1 := h.inR x hx
  unfold top at *
  simp only
  omega
theorem grown_has {l : List Sp} (h : Val l) {b a : Int} (hb : 0 ≤ b) (ha : 0 ≤ a) (t : Int) : hasS (grown l b a) t = true ↔ (0 ≤ t ∧ t < top) ∧ ∃ u, hasS l u = true ∧ u - b ≤ t ∧ t ≤ u + a := by
  rw [hasS_iff]
  constructor
  · rintro ⟨s, hs, h1, h2⟩
    obtain ⟨x, hx, rfl⟩ := List.mem_map.1 hs
    have h3 := h.inR x hx
    have h4 := h.sep.mem x hx
    simp only at h1 h2
    refine ⟨by omega, max x.1 (t - a), (hasS_iff _ _).2 ⟨x, hx, by omega, by omega⟩, by omega, by omega⟩
  · rintro ⟨h0, u, hu, h1, h2⟩
    obtain ⟨x, hx, h3, h4⟩ := (hasS_iff _ _).1 hu
    refine ⟨_, List.mem_map.2 ⟨x, hx, rfl⟩, ?_, ?_⟩
    · simp only; omega
    · simp only; omega
theorem grow_zero {l : List Sp} (h : Val l) : nrm (grown l 0 0) = l := by
  have hg := grown_inR h (b := 0) (a := 0) (by omega) (by omega)
  refine (nrm_val hg).eq h fun t => ?_
  rw [nrm_has hg, Bool.eq_iff_iff, grown_has h (by omega) (by omega)]
  constructor
  · rintro ⟨_, u, hu, h1, h2⟩
    obtain rfl : u = t := by omega
    exact hu
  · intro hu
    obtain ⟨x, hx, h3, h4⟩ := (hasS_iff _ _).1 hu
    have h5 := h.inR x hx
    exact ⟨by omega, t, hu, by omega, by omega⟩
theorem grow_twice {l : List Sp} (h : Val l) {b a m n : Int} (hb : 0 ≤ b) (ha : 0 ≤ a) (hm : 0 ≤ m) (hn : 0 ≤ n) : nrm (grown (nrm (grown l b a)) m n) = nrm (grown l (b + m) (a + n)) := by
  have hg := grown_inR h hb ha
  have hv := nrm_val hg
  have hg2 := grown_inR hv hm hn
  have hg3 := grown_inR h (b := b + m) (a := a + n) (by omega) (by omega)
  refine (nrm_val hg2).eq (nrm_val hg3) fun t => ?_
  rw [nrm_has hg2, nrm_has hg3, Bool.eq_iff_iff, grown_has hv hm hn, grown_has h (by omega) (by omega)]
  constructor
  · rintro ⟨h0, u, hu, h1, h2⟩
    rw [nrm_has hg, grown_has h hb ha] at hu
    obtain ⟨_, v, hv, h3, h4⟩ := hu
    exact ⟨h0, v, hv, by omega, by omega⟩
  · rintro ⟨h0, v, hv2, h1, h2⟩
    obtain ⟨x, hx, h3, h4⟩ := (hasS_iff _ _).1 hv2
    have h5 := h.inR x hx
    refine ⟨h0, max 0 (max (v - b) (t - n)), ?_, by omega, by omega⟩
    rw [nrm_has hg, grown_has h hb ha]
    exact ⟨by omega, v, hv2, by omega, by omega⟩
theorem grow_has {l : List Sp} (h : Val l) {b a : Int} (hb : 0 ≤ b) (ha : 0 ≤ a) {t : Int} (h0 : 0 ≤ t) (h1 : t < top) : hasS (nrm (grown l b a)) t = l.any fun s => decide (s.1 - b ≤ t) && decide (t < s.2 + a) := by
  have hg := grown_inR h hb ha
  rw [nrm_has hg, Bool.eq_iff_iff, hasS_iff, List.any_eq_true]
  constructor
  · rintro ⟨s, hs, h2, h3⟩
    obtain ⟨x, hx, rfl⟩ := List.mem_map.1 hs
    simp only at h2 h3
    exact ⟨x, hx, by simp only [Bool.and_eq_true, decide_eq_true_eq]; omega⟩
  · rintro ⟨x, hx, h2⟩
    simp only [Bool.and_eq_true, decide_eq_true_eq] at h2
    exact ⟨_, List.mem_map.2 ⟨x, hx, rfl⟩, by simp only; omega, by simp only; omega⟩

/-- P20.7 -/
theorem one_eq {a b : List Sp} (ha : Val a) (hb : Val b) (h : ∀ s, s ∈ a ∨ s ∈ b → hasS a s.1 = hasS b s.1 ∧ hasS a s.2 = hasS b s.2) : a = b :=
  ha.eq hb fun t => has_all ha.sep hb.sep h (t + 1).toNat t (by omega)
end SpP
end Go.Proofs.Ytojofkjnakiliaa
