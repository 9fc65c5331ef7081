/- Plain facts on stretches of time, as lists of pairs of numbers: what they have, that lists that are apart and have the same are the same, and what a sweep over the ends of two lists makes; no condition beyond those that each theorem names, and nothing of Go. -/
namespace Go.Proofs.Ytojofkjnakiliaa
namespace SpP

abbrev Sp := Int × Int
abbrev Ev := Int × Int × Int

/-- A time is in one of the stretches. -/
def hasS (l : List Sp) (t : Int) : Bool := l.any fun s => decide (s.1 ≤ t) && decide (t < s.2)
@[simp] theorem hasS_nil (t : Int) : hasS [] t = false := rfl
theorem hasS_cons (s : Sp) (l : List Sp) (t : Int) : hasS (s :: l) t = (decide (s.1 ≤ t) && decide (t < s.2) || hasS l t) := rfl
theorem hasS_append (a b : List Sp) (t : Int) : hasS (a ++ b) t = (hasS a t || hasS b t) := by simp [hasS]
theorem hasS_iff (l : List Sp) (t : Int) : hasS l t = true ↔ ∃ s ∈ l, s.1 ≤ t ∧ t < s.2 := by simp [hasS]

/-- Not empty, apart from each other, in order, and beginning behind a time. -/
def Sep : Int → List Sp → Prop
  | _, [] => True
  | lo, s :: r => lo < s.1 ∧ s.1 < s.2 ∧ Sep s.2 r

theorem Sep.mono {lo lo' : Int} : ∀ {l : List Sp}, Sep lo l → lo' ≤ lo → Sep lo' l
  | [], _, _ => trivial
  | _ :: _, ⟨h1, h2, h3⟩, h => ⟨by omega, h2, h3⟩
theorem Sep.low : ∀ {lo t : Int} {l : List Sp}, Sep lo l → t ≤ lo → hasS l t = false
  | _, _, [], _, _ => rfl
  | lo, t, s :: r, ⟨h1, h2, h3⟩, h => by
    rw [hasS_cons, Sep.low h3 (by omega), show decide (s.1 ≤ t) = false by simp; omega]
    rfl
theorem Sep.mem : ∀ {lo : Int} {l : List Sp}, Sep lo l → ∀ s ∈ l, lo < s.1 ∧ s.1 < s.2
  | _, [], _, _, h => by cases h
  | lo, x :: r, ⟨h1, h2, h3⟩, s, h => by
    rcases List.mem_cons.1 h with rfl | h
    · exact ⟨h1, h2⟩
    · have := Sep.mem h3 s h
      omega
theorem Sep.snoc : ∀ {lo : Int} {l : List Sp} {s : Sp}, Sep lo l → lo < s.1 → s.1 < s.2 → (∀ e ∈ l, e.2 < s.1) → Sep lo (l ++ [s])
  | _, [], _, _, h1, h2, _ => ⟨h1, h2, trivial⟩
  | lo, x :: r, s, ⟨h1, h2, h3⟩, k1, k2, k3 => ⟨h1, h2, Sep.snoc h3 (k3 x (by simp)) k2 fun e he => k3 e (by simp [he])⟩
theorem Sep.append_inv : ∀ {lo : Int} {l m : List Sp}, Sep lo (l ++ m) → Sep lo l
  | _, [], _, _ => trivial
  | _, _ :: _, _, ⟨h1, h2, h3⟩ => ⟨h1, h2, Sep.append_inv h3⟩

/-- Lists that are apart and have the same times are the same. -/
theorem sep_unique : ∀ {a b : List Sp} {lo lo' : Int}, Sep lo a → Sep lo' b → (∀ t, hasS a t = hasS b t) → a = b
  | [], [], _, _, _, _, _ => rfl
  | [], s :: r, _, _, _, ⟨_, h2, _⟩, h => by
    have := h s.1
    rw [hasS_cons] at this
    simp [h2] at this
  | s :: r, [], _, _, ⟨_, h2, _⟩, _, h => by
    have := h s.1
    rw [hasS_cons] at this
    simp [h2] at this
  | s :: r, s' :: r', lo, lo', ⟨h1, h2, h3⟩, ⟨k1, k2, k3⟩, h => by
    have e1 : s.1 = s'.1 := by
      have q1 := h s.1
      have q2 := h s'.1
      rw [hasS_cons, hasS_cons] at q1 q2
      rcases Int.lt_trichotomy s.1 s'.1 with hl | he | hl
      · rw [k3.low (by omega), show decide (s'.1 ≤ s.1) = false by simp; omega] at q1
        simp [h2] at q1
      · exact he
      · rw [h3.low (by omega), show decide (s.1 ≤ s'.1) = false by simp; omega] at q2
        simp [k2] at q2
    have e2 : s.2 = s'.2 := by
      have q1 := h s.2
      have q2 := h s'.2
      rw [hasS_cons, hasS_cons] at q1 q2
      rcases Int.lt_trichotomy s.2 s'.2 with hl | he | hl
      · rw [h3.low (Int.le_refl _), show decide (s.2 < s.2) = false by simp, show decide (s'.1 ≤ s.2) = true by simp; omega, show decide (s.2 < s'.2) = true by simpa using hl] at q1
        simp at q1
      · exact he
      · rw [k3.low (Int.le_refl _), show decide (s'.2 < s'.2) = false by simp, show decide (s.1 ≤ s'.2) = true by simp; omega, show decide (s'.2 < s.2) = true by simpa using hl] at q2
        simp at q2
    have e3 : r = r' := sep_unique h3 k3 fun t => by
      have q := h t
      rw [hasS_cons, hasS_cons, e1, e2] at q
      by_cases ht : t ≤ s.2
      · rw [h3.low ht, k3.low (by omega)]
      · rw [show decide (t < s'.2) = false by simp; omega] at q
        simpa using q
    rw [show s = s' from Prod.ext e1 e2, e3]

/-- A list that is apart is told by the times at and beside its ends. -/
theorem has_turn : ∀ {l : List Sp} {t : Int}, hasS l (t - 1) ≠ hasS l t → ∃ s ∈ l, t = s.1 ∨ t = s.2
  | [], _, h => absurd rfl h
  | s :: r, t, h => by
    by_cases e : t = s.1 ∨ t = s.2
    · exact ⟨s, by simp, e⟩
    · have q : hasS r (t - 1) ≠ hasS r t := by
        intro q
        apply h
        rw [hasS_cons, hasS_cons, q, show decide (s.1 ≤ t - 1) = decide (s.1 ≤ t) by rw [decide_eq_decide]; omega, show decide (t - 1 < s.2) = decide (t < s.2) by rw [decide_eq_decide]; omega]
      obtain ⟨x, hx, h2⟩ := has_turn q
      exact ⟨x, by simp [hx], h2⟩
theorem has_all {a b : List Sp} {lo : Int} (ha : Sep lo a) (hb : Sep lo b) (h : ∀ s, s ∈ a ∨ s ∈ b → hasS a s.1 = hasS b s.1 ∧ hasS a s.2 = hasS b s.2) : ∀ (n : Nat) (t : Int), t ≤ lo + n → hasS a t = hasS b t
  | 0, t, ht => by rw [ha.low (by omega), hb.low (by omega)]
  | n + 1, t, ht => by
    have ih := has_all ha hb h n (t - 1) (by omega)
    by_cases qa : hasS a (t - 1) = hasS a t
    · by_cases qb : hasS b (t - 1) = hasS b t
      · rw [← qa, ← qb, ih]
      · obtain ⟨s, hs, rfl | rfl⟩ := has_turn qb
        · exact (h s (.inr hs)).1
        · exact (h s (.inr hs)).2
    · obtain ⟨s, hs, rfl | rfl⟩ := has_turn qa
      · exact (h s (.inl hs)).1
      · exact (h s (.inl hs)).2

/-- How many stretches have a time. -/
def cnt : List Sp → Int → Int
  | [], _ => 0
  | s :: r, t => (if s.1 ≤ t ∧ t < s.2 then 1 else 0) + cnt r t
theorem cnt_nn : ∀ (l : List Sp) (t : Int), 0 ≤ cnt l t
  | [], _ => Int.le_refl _
  | s :: r, t => by
    have := cnt_nn r t
    unfold cnt
    split <;> omega
theorem cnt_has : ∀ (l : List Sp) (t : Int), decide (0 < cnt l t) = hasS l t
  | [], _ => rfl
  | s :: r, t => by
    have h0 := cnt_nn r t
    have h1 := cnt_has r t
    rw [hasS_cons, ← h1, show cnt (s :: r) t = (if s.1 ≤ t ∧ t < s.2 then 1 else 0) + cnt r t from rfl]
    by_cases h : s.1 ≤ t ∧ t < s.2
    · rw [if_pos h, show decide (s.1 ≤ t) = true by simpa using h.1, show decide (t < s.2) = true by simpa using h.2]
      simp; omega
    · rw [if_neg h]
      have : (decide (s.1 ≤ t) && decide (t < s.2)) = false := by
        rw [Bool.eq_false_iff]; intro q; simp at q; exact h q
      rw [this]
      simp
theorem cnt_has0 (l : List Sp) (t : Int) : decide (cnt l t = 0) = !hasS l t := by
  rw [← cnt_has, Bool.eq_iff_iff]
  have := cnt_nn l t
  simp; omega

/-- What ends up to a time sum up to. -/
def sA : List Ev → Int → Int
  | [], _ => 0
  | x :: r, t => (if x.1 ≤ t then x.2.1 else 0) + sA r t
def sB : List Ev → Int → Int
  | [], _ => 0
  | x :: r, t => (if x.1 ≤ t then x.2.2 else 0) + sB r t
def tA : List Ev → Int
  | [] => 0
  | x :: r => x.2.1 + tA r
def tB : List Ev → Int
  | [] => 0
  | x :: r => x.2.2 + tB r
theorem sA_append : ∀ (a b : List Ev) (t : Int), sA (a ++ b) t = sA a t + sA b t
  | [], _, _ => by simp [sA]
  | x :: r, b, t => by simp only [List.cons_append, sA, sA_append r b t]; omega
theorem sB_append : ∀ (a b : List Ev) (t : Int), sB (a ++ b) t = sB a t + sB b t
  | [], _, _ => by simp [sB]
  | x :: r, b, t => by simp only [List.cons_append, sB, sB_append r b t]; omega
theorem tA_append : ∀ (a b : List Ev), tA (a ++ b) = tA a + tA b
  | [], _ => by simp [tA]
  | x :: r, b => by simp only [List.cons_append, tA, tA_append r b]; omega
theorem tB_append : ∀ (a b : List Ev), tB (a ++ b) = tB a + tB b
  | [], _ => by simp [tB]
  | x :: r, b => by simp only [List.cons_append, tB, tB_append r b]; omega
theorem s_perm {a b : List Ev} (h : a.Perm b) : (∀ t, sA a t = sA b t) ∧ (∀ t, sB a t = sB b t) ∧ tA a = tA b ∧ tB a = tB b := by
  induction h with
  | nil => exact ⟨fun _ => rfl, fun _ => rfl, rfl, rfl⟩
  | cons x _ ih => exact ⟨fun t => by simp only [sA, ih.1], fun t => by simp only [sB, ih.2.1], by simp only [tA, ih.2.2.1], by simp only [tB, ih.2.2.2]⟩
  | swap x y l => exact ⟨fun t => by simp only [sA]; omega, fun t => by simp only [sB]; omega, by simp only [tA]; omega, by simp only [tB]; omega⟩
  | trans _ _ h1 h2 => exact ⟨fun t => (h1.1 t).trans (h2.1 t), fun t => (h1.2.1 t).trans (h2.2.1 t), h1.2.2.1.trans h2.2.2.1, h1.2.2.2.trans h2.2.2.2⟩
theorem s_late {l : List Ev} {t : Int} (h : ∀ x ∈ l, x.1 ≤ t) : sA l t = tA l ∧ sB l t = tB l := by
  induction l with
  | nil => exact ⟨rfl, rfl⟩
  | cons x r ih =>
    have := ih fun y hy => h y (by simp [hy])
    have hx := h x (by simp)
    simp only [sA, sB, tA, tB, if_pos hx, this.1, this.2]
    exact ⟨trivial, trivial⟩

/-- The ends of the stretches of two lists. -/
def evA (l : List Sp) : List Ev := l.flatMap fun s => [(s.1, 1, 0), (s.2, -1, 0)]
def evB (l : List Sp) : List Ev := l.flatMap fun s => [(s.1, 0, 1), (s.2, 0, -1)]
def evs (a b : List Sp) : List Ev := evA a ++ evB b
theorem evA_s : ∀ (l : List Sp), (∀ s ∈ l, s.1 ≤ s.2) → ∀ t, sA (evA l) t = cnt l t ∧ sB (evA l) t = 0
  | [], _, _ => ⟨rfl, rfl⟩
  | s :: r, h, t => by
    have ih := evA_s r (fun x hx => h x (by simp [hx])) t
    have hs := h s (by simp)
    have e : evA (s :: r) = (s.1, 1, 0) :: (s.2, -1, 0) :: evA r := rfl
    rw [e]
    simp only [sA, sB, cnt, ih.1, ih.2]
    constructor
    · by_cases h1 : s.1 ≤ t
      · by_cases h2 : s.2 ≤ t
        · rw [if_pos h1, if_pos h2, if_neg (by omega)]; omega
        · rw [if_pos h1, if_neg h2, if_pos (by omega)]; omega
      · rw [if_neg h1, if_neg (by omega), if_neg (by omega)]; omega
    · simp
theorem evB_s : ∀ (l : List Sp), (∀ s ∈ l, s.1 ≤ s.2) → ∀ t, sB (evB l) t = cnt l t ∧ sA (evB l) t = 0
  | [], _, _ => ⟨rfl, rfl⟩
  | s :: r, h, t => by
    have ih := evB_s r (fun x hx => h x (by simp [hx])) t
    have hs := h s (by simp)
    have e : evB (s :: r) = (s.1, 0, 1) :: (s.2, 0, -1) :: evB r := rfl
    rw [e]
    simp only [sA, sB, cnt, ih.1, ih.2]
    constructor
    · by_cases h1 : s.1 ≤ t
      · by_cases h2 : s.2 ≤ t
        · rw [if_pos h1, if_pos h2, if_neg (by omega)]; omega
        · rw [if_pos h1, if_neg h2, if_pos (by omega)]; omega
      · rw [if_neg h1, if_neg (by omega), if_neg (by omega)]; omega
    · simp
theorem evA_t : ∀ (l : List Sp), tA (evA l) = 0 ∧ tB (evA l) = 0
  | [] => ⟨rfl, rfl⟩
  | s :: r => by
    have ih := evA_t r
    have e : evA (s :: r) = (s.1, 1, 0) :: (s.2, -1, 0) :: evA r := rfl
    rw [e]; simp only [tA, tB, ih.1, ih.2]; omega
theorem evB_t : ∀ (l : List Sp), tA (evB l) = 0 ∧ tB (evB l) = 0
  | [] => ⟨rfl, rfl⟩
  | s :: r => by
    have ih := evB_t r
    have e : evB (s :: r) = (s.1, 0, 1) :: (s.2, 0, -1) :: evB r := rfl
    rw [e]; simp only [tA, tB, ih.1, ih.2]; omega
theorem evA_len (l : List Sp) : (evA l).length = 2 * l.length := by
  induction l with
  | nil => rfl
  | cons s r ih => rw [show evA (s :: r) = (s.1, 1, 0) :: (s.2, -1, 0) :: evA r from rfl]; simp [ih]; omega
theorem evB_len (l : List Sp) : (evB l).length = 2 * l.length := by
  induction l with
  | nil => rfl
  | cons s r ih => rw [show evB (s :: r) = (s.1, 0, 1) :: (s.2, 0, -1) :: evB r from rfl]; simp [ih]; omega
theorem evA_mem {l : List Sp} {x : Ev} (h : x ∈ evA l) : ∃ s ∈ l, x.1 = s.1 ∨ x.1 = s.2 := by
  obtain ⟨s, hs, hx⟩ := List.mem_flatMap.1 h
  simp at hx
  rcases hx with rfl | rfl
  · exact ⟨s, hs, .inl rfl⟩
  · exact ⟨s, hs, .inr rfl⟩
theorem evB_mem {l : List Sp} {x : Ev} (h : x ∈ evB l) : ∃ s ∈ l, x.1 = s.1 ∨ x.1 = s.2 := by
  obtain ⟨s, hs, hx⟩ := List.mem_flatMap.1 h
  simp at hx
  rcases hx with rfl | rfl
  · exact ⟨s, hs, .inl rfl⟩
  · exact ⟨s, hs, .inr rfl⟩

/-- Ends at the same time, summed up. -/
def acc (all : Ev) : List Ev → List Ev
  | [] => [all]
  | y :: r => if y.1 = all.1 then acc (all.1, all.2.1 + y.2.1, all.2.2 + y.2.2) r else all :: acc y r
def grp : List Ev → List Ev
  | [] => []
  | x :: r => acc x r
theorem acc_s : ∀ (r : List Ev) (all : Ev) (t : Int), sA (acc all r) t = sA (all :: r) t ∧ sB (acc all r) t = sB (all :: r) t
  | [], _, _ => ⟨rfl, rfl⟩
  | y :: r, all, t => by
    unfold acc
    split
    · rename_i h
      have ih := acc_s r (all.1, all.2.1 + y.2.1, all.2.2 + y.2.2) t
      rw [ih.1, ih.2]
      simp only [sA, sB, h]
      constructor
      · split <;> omega
      · split <;> omega
    · have ih := acc_s r y t
      simp only [sA, sB, ih.1, ih.2]
      exact ⟨trivial, trivial⟩
theorem acc_t : ∀ (r : List Ev) (all : Ev), tA (acc all r) = tA (all :: r) ∧ tB (acc all r) = tB (all :: r)
  | [], _ => ⟨rfl, rfl⟩
  | y :: r, all => by
    unfold acc
    split
    · have ih := acc_t r (all.1, all.2.1 + y.2.1, all.2.2 + y.2.2)
      rw [ih.1, ih.2]
      simp only [tA, tB]
      omega
    · have ih := acc_t r y
      simp only [tA, tB, ih.1, ih.2]
      exact ⟨trivial, trivial⟩
theorem grp_s (l : List Ev) (t : Int) : sA (grp l) t = sA l t ∧ sB (grp l) t = sB l t := by
  cases l with
  | nil => exact ⟨rfl, rfl⟩
  | cons x r => exact acc_s r x t
theorem grp_t (l : List Ev) : tA (grp l) = tA l ∧ tB (grp l) = tB l := by
  cases l with
  | nil => exact ⟨rfl, rfl⟩
  | cons x r => exact acc_t r x
theorem acc_len : ∀ (r : List Ev) (all : Ev), (acc all r).length ≤ r.length + 1
  | [], _ => Nat.le_refl _
  | y :: r, all => by
    unfold acc
    split
    · have := acc_len r (all.1, all.2.1 + y.2.1, all.2.2 + y.2.2)
      simp; omega
    · have := acc_len r y
      simp; omega
theorem grp_len (l : List Ev) : (grp l).length ≤ l.length := by
  cases l with
  | nil => exact Nat.le_refl _
  | cons x r => exact acc_len r x
/-- In the order of time, each one later than the one before. -/
theorem acc_up : ∀ (r : List Ev) (all : Ev), (all :: r).Pairwise (fun x y => x.1 ≤ y.1) → (acc all r).Pairwise (fun x y => x.1 < y.1) ∧ (∀ x ∈ acc all r, all.1 ≤ x.1) ∧ ∀ x ∈ acc all r, ∃ y ∈ all :: r, x.1 = y.1
  | [], all, _ => ⟨by simp [acc], by simp [acc], by simp [acc]⟩
  | y :: r, all, h => by
    obtain ⟨h1, h2⟩ := List.pairwise_cons.1 h
    obtain ⟨h3, h4⟩ := List.pairwise_cons.1 h2
    unfold acc
    split
    · have ih := acc_up r (all.1, all.2.1 + y.2.1, all.2.2 + y.2.2) (List.pairwise_cons.2 ⟨fun x hx => h1 x (by simp [hx]), h4⟩)
      refine ⟨ih.1, ih.2.1, fun x hx => ?_⟩
      obtain ⟨z, hz, hz2⟩ := ih.2.2 x hx
      rcases List.mem_cons.1 hz with rfl | hz
      · exact ⟨all, by simp, hz2⟩
      · exact ⟨z, by simp [hz], hz2⟩
    · rename_i hne
      have ih := acc_up r y h2
      have hy := h1 y (by simp)
      refine ⟨List.pairwise_cons.2 ⟨fun x hx => ?_, ih.1⟩, fun x hx => ?_, fun x hx => ?_⟩
      · have := ih.2.1 x hx
        omega
      · rcases List.mem_cons.1 hx with rfl | hx
        · exact Int.le_refl _
        · have := ih.2.1 x hx
          omega
      · rcases List.mem_cons.1 hx with rfl | hx
        · exact ⟨x, by simp, rfl⟩
        · obtain ⟨z, hz, hz2⟩ := ih.2.2 x hx
          exact ⟨z, List.mem_cons_of_mem _ hz, hz2⟩
theorem grp_up {l : List Ev} (h : l.Pairwise (fun x y => x.1 ≤ y.1)) : (grp l).Pairwise (fun x y => x.1 < y.1) ∧ ∀ x ∈ grp l, ∃ y ∈ l, x.1 = y.1 := by
  cases l with
  | nil => exact ⟨List.Pairwise.nil, fun x hx => by cases hx⟩
  | cons x r => exact ⟨(acc_up r x h).1, (acc_up r x h).2.2⟩

/-- The sweep: what it knows. -/
structure St where
  a : Int
  b : Int
  at_ : Int
  op : Bool
  out : List Sp
def step (c : Int → Int → Bool) (s : St) (x : Ev) : St :=
  if c (s.a + x.2.1) (s.b + x.2.2) = true ∧ s.op = false then ⟨s.a + x.2.1, s.b + x.2.2, x.1, true, s.out⟩
  else if c (s.a + x.2.1) (s.b + x.2.2) = false ∧ s.op = true then ⟨s.a + x.2.1, s.b + x.2.2, s.at_, false, s.out ++ [(s.at_, x.1)]⟩
  else ⟨s.a + x.2.1, s.b + x.2.2, s.at_, s.op, s.out⟩
def st0 : St := ⟨0, 0, 0, false, []⟩

/-- What holds behind some ends P, the last of which is not later than m. -/
structure Inv (c : Int → Int → Bool) (lo m : Int) (P : List Ev) (s : St) : Prop where
  a : s.a = tA P
  b : s.b = tB P
  op : s.op = c s.a s.b
  sep : Sep lo s.out
  ends : ∀ e ∈ s.out, e.2 ≤ m
  at_ : s.op = true → lo < s.at_ ∧ s.at_ ≤ m ∧ ∀ e ∈ s.out, e.2 < s.at_
  early : ∀ x ∈ P, x.1 ≤ m
  len : s.out.length ≤ P.length
  has : ∀ t, (hasS s.out t || (s.op && decide (s.at_ ≤ t))) = c (sA P t) (sB P t)
theorem has_ends {l : List Sp} {m t : Int} (h : ∀ e ∈ l, e.2 ≤ m) (ht : m ≤ t) : hasS l t = false := by
  rw [Bool.eq_false_iff]
  intro q
  obtain ⟨s, hs, h1, h2⟩ := (hasS_iff _ _).1 q
  have := h s hs
  omega
theorem inv_start {c : Int → Int → Bool} (h0 : c 0 0 = false) (lo m : Int) : Inv c lo m [] st0 where
  a := rfl
  b := rfl
  op := h0.symm
  sep := trivial
  ends := fun e he => by cases he
  at_ := fun h => by cases h
  early := fun x hx => by cases hx
  len := Nat.le_refl _
  has := fun t => by simp [st0, sA, sB, h0]
theorem inv_step {c : Int → Int → Bool} {lo m : Int} {P : List Ev} {s : St} (h : Inv c lo m P s) (x : Ev) (hm : m < x.1) (hl : lo < x.1) : Inv c lo x.1 (P ++ [x]) (step c s x) := by
  have ea : s.a + x.2.1 = tA (P ++ [x]) := by rw [tA_append, h.a]; simp [tA]
  have eb : s.b + x.2.2 = tB (P ++ [x]) := by rw [tB_append, h.b]; simp [tB]
  have hear : ∀ y ∈ P ++ [x], y.1 ≤ x.1 := fun y hy => by
    rcases List.mem_append.1 hy with hy | hy
    · have := h.early y hy
      omega
    · simp at hy; rw [hy]; exact Int.le_refl _
  have hends : ∀ e ∈ s.out, e.2 ≤ x.1 := fun e he => by have := h.ends e he; omega
  have hlow : ∀ t, t < x.1 → sA (P ++ [x]) t = sA P t ∧ sB (P ++ [x]) t = sB P t := fun t ht => by
    rw [sA_append, sB_append]
    simp only [sA, sB, if_neg (show ¬ x.1 ≤ t by omega)]
    omega
  have hhigh : ∀ t, x.1 ≤ t → sA (P ++ [x]) t = s.a + x.2.1 ∧ sB (P ++ [x]) t = s.b + x.2.2 := fun t ht => by
    rw [ea, eb]
    exact s_late fun y hy => Int.le_trans (hear y hy) ht
  unfold step
  by_cases k1 : c (s.a + x.2.1) (s.b + x.2.2) = true
  · by_cases k2 : s.op = false
    · rw [if_pos ⟨k1, k2⟩]
      refine ⟨ea, eb, k1.symm, h.sep, hends, fun _ => ⟨hl, Int.le_refl _, fun e he => by have := h.ends e he; show e.2 < x.1; omega⟩, hear, by have := h.len; simp; omega, fun t => ?_⟩
      show (hasS s.out t || (true && decide (x.1 ≤ t))) = _
      by_cases ht : x.1 ≤ t
      · rw [(hhigh t ht).1, (hhigh t ht).2, k1]; simp [ht]
      · rw [(hlow t (by omega)).1, (hlow t (by omega)).2, ← h.has t, k2]; simp [ht]
    · have k3 : s.op = true := by simpa using k2
      rw [if_neg (by simp [k3]), if_neg (by simp [k1])]
      have ha := h.at_ k3
      refine ⟨ea, eb, by simp [k1, k3], h.sep, hends, fun _ => ⟨ha.1, by show s.at_ ≤ x.1; omega, ha.2.2⟩, hear, by have := h.len; simp; omega, fun t => ?_⟩
      show (hasS s.out t || (s.op && decide (s.at_ ≤ t))) = _
      by_cases ht : x.1 ≤ t
      · rw [(hhigh t ht).1, (hhigh t ht).2, k1, k3]; simp; right; omega
      · rw [(hlow t (by omega)).1, (hlow t (by omega)).2, ← h.has t]
  · have k1' : c (s.a + x.2.1) (s.b + x.2.2) = false := by simpa using k1
    by_cases k2 : s.op = true
    · rw [if_neg (by simp [k2]), if_pos ⟨k1', k2⟩]
      have ha := h.at_ k2
      refine ⟨ea, eb, k1'.symm, h.sep.snoc (s := (s.at_, x.1)) ha.1 (by show s.at_ < x.1; omega) ha.2.2, fun e he => ?_, (fun q => by cases q), hear, by have := h.len; simp; omega, fun t => ?_⟩
      · rcases List.mem_append.1 he with he | he
        · exact hends e he
        · simp at he; rw [he]; exact Int.le_refl _
      · show (hasS (s.out ++ [(s.at_, x.1)]) t || (false && _)) = _
        rw [hasS_append, hasS_cons]
        by_cases ht : x.1 ≤ t
        · rw [(hhigh t ht).1, (hhigh t ht).2, k1', has_ends hends ht]; simp; omega
        · rw [(hlow t (by omega)).1, (hlow t (by omega)).2, ← h.has t, k2]; simp [show t < x.1 by omega]
    · have k3 : s.op = false := by simpa using k2
      rw [if_neg (by simp [k1']), if_neg (by simp [k3])]
      refine ⟨ea, eb, by simp [k1', k3], h.sep, hends, (fun q => by simp [k3] at q), hear, by have := h.len; simp; omega, fun t => ?_⟩
      show (hasS s.out t || (s.op && decide (s.at_ ≤ t))) = _
      by_cases ht : x.1 ≤ t
      · rw [(hhigh t ht).1, (hhigh t ht).2, k1', k3, has_ends hends ht]; rfl
      · rw [(hlow t (by omega)).1, (hlow t (by omega)).2, ← h.has t]
theorem inv_fold {c : Int → Int → Bool} {lo : Int} : ∀ (R : List Ev) {m : Int} {P : List Ev} {s : St}, Inv c lo m P s → R.Pairwise (fun x y => x.1 < y.1) → (∀ x ∈ R, m < x.1 ∧ lo < x.1) → ∃ m', Inv c lo m' (P ++ R) (R.foldl (step c) s)
  | [], m, P, s, h, _, _ => ⟨m, by simpa using h⟩
  | x :: R, m, P, s, h, hp, hm => by
    obtain ⟨h1, h2⟩ := List.pairwise_cons.1 hp
    have hx := hm x (by simp)
    have := inv_fold R (inv_step h x hx.1 hx.2) h2 fun y hy => ⟨h1 y hy, (hm y (by simp [hy])).2⟩
    simpa using this

/-- The stretches that a sweep makes of the ends of two lists, in whatever order those of the same time stand. -/
def swept (c : Int → Int → Bool) (d : List Ev) : List Sp := ((grp d).foldl (step c) st0).out
theorem swept_is {c : Int → Int → Bool} (h0 : c 0 0 = false) {a b : List Sp} {d : List Ev} {lo : Int} (hd : d.Perm (evs a b)) (hs : d.Pairwise (fun x y => x.1 ≤ y.1))
    (ha : ∀ s ∈ a, lo < s.1 ∧ s.1 ≤ s.2) (hb : ∀ s ∈ b, lo < s.1 ∧ s.1 ≤ s.2) :
    Sep lo (swept c d) ∧ (swept c d).length ≤ 2 * a.length + 2 * b.length ∧ ∀ t, hasS (swept c d) t = c (cnt a t) (cnt b t) := by
  have hl : ∀ x ∈ grp d, lo - 1 < x.1 ∧ lo < x.1 := fun x hx => by
    obtain ⟨y, hy, hxy⟩ := (grp_up hs).2 x hx
    rcases List.mem_append.1 (hd.mem_iff.1 hy) with hy | hy
    · obtain ⟨s, h1, h2⟩ := evA_mem hy
      have := ha s h1
      omega
    · obtain ⟨s, h1, h2⟩ := evB_mem hy
      have := hb s h1
      omega
  obtain ⟨m, hI⟩ := inv_fold (grp d) (inv_start h0 lo (lo - 1)) (grp_up hs).1 hl
  rw [List.nil_append] at hI
  have hp := s_perm hd
  have tA0 : tA (grp d) = 0 := by rw [(grp_t d).1, hp.2.2.1]; unfold evs; rw [tA_append, (evA_t a).1, (evB_t b).1]; rfl
  have tB0 : tB (grp d) = 0 := by rw [(grp_t d).2, hp.2.2.2]; unfold evs; rw [tB_append, (evA_t a).2, (evB_t b).2]; rfl
  have hop : ((grp d).foldl (step c) st0).op = false := by rw [hI.op, hI.a, hI.b, tA0, tB0, h0]
  refine ⟨hI.sep, ?_, fun t => ?_⟩
  · have h1 := hI.len
    have h2 := grp_len d
    have h3 := hd.length_eq
    unfold evs at h3
    rw [List.length_append, evA_len, evB_len] at h3
    unfold swept
    omega
  · have h1 := hI.has t
    rw [hop] at h1
    simp only [Bool.false_and, Bool.or_false] at h1
    show hasS ((grp d).foldl (step c) st0).out t = _
    rw [h1, (grp_s d t).1, (grp_s d t).2, hp.1 t, hp.2.1 t]
    unfold evs
    rw [sA_append, sB_append, (evA_s a (fun s h => (ha s h).2) t).1, (evA_s a (fun s h => (ha s h).2) t).2, (evB_s b (fun s h => (hb s h).2) t).1, (evB_s b (fun s h => (hb s h).2) t).2]
    simp
end SpP
end Go.Proofs.Ytojofkjnakiliaa
