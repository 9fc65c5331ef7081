/- What the reference of package span makes, as plain functions of lists of pairs of numbers, and that it is what the sweep makes; no condition beyond those that each theorem names, and nothing of Go. -/
import Derived.Test.YtojofkjnakiliaaS14
namespace Go.Proofs.Ytojofkjnakiliaa
namespace SpP

def wthGo : Bool → Sp → List Sp → List Sp → List Sp
  | put, s, out, [] => if put = true then out else out ++ [s]
  | put, s, out, x :: r =>
    if x.2 < s.1 then wthGo put s (out ++ [x]) r
    else if s.2 < x.1 then (if put = true then wthGo true s (out ++ [x]) r else wthGo true s ((out ++ [s]) ++ [x]) r)
    else wthGo put (min s.1 x.1, max s.2 x.2) out r
def wth (l : List Sp) (s : Sp) : List Sp := if s.2 ≤ s.1 then l else wthGo false s [] l
def allL (l : List Sp) : List Sp := l.foldl wth []

theorem sep_append : ∀ {A B : List Sp} {lo hi : Int}, Sep lo A → Sep hi B → (∀ e ∈ A, e.2 ≤ hi) → lo ≤ hi → Sep lo (A ++ B)
  | [], _, _, _, _, hB, _, hlo => hB.mono hlo
  | x :: A, B, lo, hi, ⟨h1, h2, h3⟩, hB, hA, _ => ⟨h1, h2, sep_append h3 hB (fun e he => hA e (by simp [he])) (hA x (by simp))⟩
theorem sep_gt : ∀ {lo : Int} {l : List Sp}, Sep lo l → ∀ e ∈ l, lo < e.1 := fun h e he => (h.mem e he).1
theorem go_true : ∀ (r : List Sp) (s : Sp) (out : List Sp) (lo' : Int), s.1 < s.2 → Sep lo' r → s.2 ≤ lo' → wthGo true s out r = out ++ r
  | [], _, _, _, _, _, _ => by simp [wthGo]
  | x :: r, s, out, lo', hs, ⟨h1, h2, h3⟩, hl => by
    unfold wthGo
    rw [if_neg (by omega), if_pos (by omega), if_pos rfl, go_true r s (out ++ [x]) x.2 hs h3 (by omega), List.append_assoc]
    rfl
theorem one_has (s : Sp) (t : Int) : hasS [s] t = (decide (s.1 ≤ t) && decide (t < s.2)) := by rw [hasS_cons, hasS_nil, Bool.or_false]
theorem go_false : ∀ (r : List Sp) (s : Sp) (out : List Sp) (lo lo' : Int), Sep lo out → (∀ e ∈ out, e.2 < s.1) → lo < s.1 → s.1 < s.2 → Sep lo' r → (∀ e ∈ out, e.2 ≤ lo') → lo ≤ lo' →
    Sep lo (wthGo false s out r) ∧ ∀ t, hasS (wthGo false s out r) t = (hasS out t || (hasS [s] t || hasS r t))
  | [], s, out, lo, lo', ho, he, hl, hs, _, _, _ => by
    refine ⟨?_, fun t => ?_⟩
    · show Sep lo (out ++ [s])
      exact ho.snoc hl hs he
    · show hasS (out ++ [s]) t = _
      rw [hasS_append, hasS_nil, Bool.or_false]
  | x :: r, s, out, lo, lo', ho, he, hl, hs, ⟨h1, h2, h3⟩, hlo, hll => by
    unfold wthGo
    by_cases q1 : x.2 < s.1
    · rw [if_pos q1]
      have ih := go_false r s (out ++ [x]) lo x.2 (ho.snoc (by omega) h2 (fun e h => by have := hlo e h; omega)) (fun e h => by
        rcases List.mem_append.1 h with h | h
        · exact he e h
        · simp at h; rw [h]; exact q1) hl hs h3 (fun e h => by
        rcases List.mem_append.1 h with h | h
        · have := hlo e h; omega
        · simp at h; rw [h]; exact Int.le_refl _) (by omega)
      refine ⟨ih.1, fun t => ?_⟩
      rw [ih.2, hasS_append, hasS_cons x r]
      rw [one_has x]
      generalize (decide (x.1 ≤ t) && decide (t < x.2)) = bx
      cases hasS out t <;> cases bx <;> cases hasS [s] t <;> cases hasS r t <;> rfl
    · rw [if_neg q1]
      by_cases q2 : s.2 < x.1
      · rw [if_pos q2, if_neg (by simp), go_true r s ((out ++ [s]) ++ [x]) x.2 hs h3 (by omega)]
        refine ⟨?_, fun t => ?_⟩
        · rw [List.append_assoc]
          exact sep_append (ho.snoc hl hs he) (⟨q2, h2, h3⟩ : Sep s.2 ([x] ++ r)) (fun e h => by
            rcases List.mem_append.1 h with h | h
            · have := he e h; omega
            · simp at h; rw [h]; exact Int.le_refl _) (by omega)
        · rw [hasS_append, hasS_append, hasS_append, hasS_cons x r, one_has x]
          generalize (decide (x.1 ≤ t) && decide (t < x.2)) = bx
          cases hasS out t <;> cases bx <;> cases hasS [s] t <;> cases hasS r t <;> rfl
      · rw [if_neg q2]
        have ih := go_false r (min s.1 x.1, max s.2 x.2) out lo x.2 ho (fun e h => by
          have a1 := he e h
          have a2 := hlo e h
          show e.2 < min s.1 x.1
          omega) (by show lo < min s.1 x.1; omega) (by show min s.1 x.1 < max s.2 x.2; omega) h3 (fun e h => by have := hlo e h; omega) (by omega)
        refine ⟨ih.1, fun t => ?_⟩
        have hm : hasS [(min s.1 x.1, max s.2 x.2)] t = (hasS [s] t || hasS [x] t) := by
          rw [one_has, one_has, one_has, Bool.eq_iff_iff]
          simp only [Bool.or_eq_true, Bool.and_eq_true, decide_eq_true_eq]
          omega
        rw [ih.2, hm, hasS_cons x r, one_has x]
        generalize (decide (x.1 ≤ t) && decide (t < x.2)) = bx
        cases hasS out t <;> cases bx <;> cases hasS [s] t <;> cases hasS r t <;> rfl
theorem wth_ok {l : List Sp} {s : Sp} {lo : Int} (h : Sep lo l) (hs : lo < s.1) : Sep lo (wth l s) ∧ ∀ t, hasS (wth l s) t = (hasS l t || hasS [s] t) := by
  unfold wth
  by_cases q : s.2 ≤ s.1
  · rw [if_pos q]
    refine ⟨h, fun t => ?_⟩
    have : hasS [s] t = false := by rw [one_has, Bool.eq_false_iff]; intro z; simp only [Bool.and_eq_true, decide_eq_true_eq] at z; omega
    rw [this, Bool.or_false]
  · rw [if_neg q]
    have := go_false l s [] lo lo trivial (fun e h => by cases h) hs (by omega) h (fun e h => by cases h) (Int.le_refl _)
    refine ⟨this.1, fun t => ?_⟩
    rw [this.2, hasS_nil, Bool.false_or, Bool.or_comm]
theorem wthGo_len_true : ∀ (r : List Sp) (s : Sp) (out : List Sp), (wthGo true s out r).length ≤ out.length + r.length
  | [], s, out => by simp [wthGo]
  | y :: r, s, out => by
    have a1 := wthGo_len_true r s (out ++ [y])
    have a2 := wthGo_len_true r (min s.1 y.1, max s.2 y.2) out
    unfold wthGo
    rw [if_pos rfl]
    simp only [List.length_append, List.length_cons, List.length_nil] at a1 a2 ⊢
    split
    · omega
    · split <;> omega
theorem wthGo_len : ∀ (r : List Sp) (s : Sp) (out : List Sp), (wthGo false s out r).length ≤ out.length + r.length + 1
  | [], s, out => by simp [wthGo]
  | x :: r, s, out => by
    have h1 := wthGo_len r s (out ++ [x])
    have h2 := wthGo_len_true r s ((out ++ [s]) ++ [x])
    have h4 := wthGo_len r (min s.1 x.1, max s.2 x.2) out
    unfold wthGo
    simp only [Bool.false_eq_true, if_false]
    simp only [List.length_append, List.length_cons, List.length_nil] at h1 h2 h4 ⊢
    split
    · omega
    · split <;> omega
theorem wth_len (l : List Sp) (s : Sp) : (wth l s).length ≤ l.length + 1 := by
  unfold wth
  split
  · omega
  · have := wthGo_len l s []
    simpa using this
theorem fold_ok : ∀ (b a : List Sp), Sep (-1) a → InR b → Sep (-1) (b.foldl wth a) ∧ (∀ t, hasS (b.foldl wth a) t = (hasS a t || hasS b t)) ∧ (b.foldl wth a).length ≤ a.length + b.length
  | [], a, h, _ => ⟨h, fun t => by rw [hasS_nil, Bool.or_false]; rfl, Nat.le_refl _⟩
  | s :: b, a, h, hb => by
    have hs := hb s (by simp)
    have hw := wth_ok h (s := s) (by omega)
    have hl := wth_len a s
    obtain ⟨i1, i2, i3⟩ := fold_ok b (wth a s) hw.1 (fun x hx => hb x (by simp [hx]))
    refine ⟨i1, fun t => ?_, ?_⟩
    · rw [List.foldl_cons, i2, hw.2, hasS_cons s b, one_has, Bool.or_assoc]
    · rw [List.foldl_cons, List.length_cons]; omega
theorem all_eq {l : List Sp} (h : InR l) : allL l = nrm l := by
  obtain ⟨h1, h2, _⟩ := fold_ok l [] trivial h
  exact sep_unique h1 (nrm_val h).sep fun t => by
    show hasS (l.foldl wth []) t = _
    rw [h2, nrm_has h, hasS_nil, Bool.false_or]
theorem either_eq {a b : List Sp} (ha : Val a) (hb : Val b) : b.foldl wth (allL a) = swp cU a b := by
  have hA := nrm_val ha.inR
  rw [all_eq ha.inR]
  obtain ⟨h1, h2, _⟩ := fold_ok b (nrm a) hA.sep hb.inR
  exact sep_unique h1 (swp_val (c := cU) rfl ha.inR hb.inR).sep fun t => by rw [h2, uni_has ha.inR hb.inR, nrm_has ha.inR]

def meet (x y : Sp) : List Sp := if max x.1 y.1 < min x.2 y.2 then [(max x.1 y.1, min x.2 y.2)] else []
def meetL (x : Sp) (b : List Sp) : List Sp := b.flatMap (meet x)
def bothL (a b : List Sp) : List Sp := a.flatMap fun x => meetL x b
theorem meet_has (x y : Sp) (t : Int) : hasS (meet x y) t = (hasS [x] t && hasS [y] t) := by
  unfold meet
  rw [one_has, one_has]
  split
  · rw [one_has, Bool.eq_iff_iff]
    simp only [Bool.and_eq_true, decide_eq_true_eq]
    omega
  · rw [hasS_nil, eq_comm, Bool.eq_false_iff]
    intro z
    simp only [Bool.and_eq_true, decide_eq_true_eq] at z
    omega
theorem hasS_cons' (s : Sp) (l : List Sp) (t : Int) : hasS (s :: l) t = (hasS [s] t || hasS l t) := by rw [hasS_cons, one_has]
theorem meetL_ok : ∀ (b : List Sp) (x : Sp) (lo lo2 : Int), Sep lo b → lo2 < x.1 ∨ lo2 ≤ lo → Sep lo2 (meetL x b) ∧ (∀ e ∈ meetL x b, e.2 ≤ x.2) ∧ ∀ t, hasS (meetL x b) t = (hasS [x] t && hasS b t)
  | [], x, lo, lo2, _, _ => ⟨trivial, (fun e h => by cases h), fun t => by rw [hasS_nil, Bool.and_false]; rfl⟩
  | y :: b, x, lo, lo2, ⟨h1, h2, h3⟩, hl => by
    have e : meetL x (y :: b) = meet x y ++ meetL x b := rfl
    rw [e]
    have hh : ∀ t, hasS (meet x y ++ meetL x b) t = (hasS [x] t && hasS (y :: b) t) := fun t => by
      rw [hasS_append, meet_has, (meetL_ok b x y.2 y.2 h3 (.inr (Int.le_refl _))).2.2, hasS_cons' y b]
      cases hasS [x] t <;> cases hasS [y] t <;> cases hasS b t <;> rfl
    unfold meet at hh ⊢
    by_cases q : max x.1 y.1 < min x.2 y.2
    · rw [if_pos q] at hh ⊢
      have ih := meetL_ok b x y.2 (min x.2 y.2) h3 (.inr (by omega))
      refine ⟨⟨by show lo2 < max x.1 y.1; omega, q, ih.1⟩, fun e he => ?_, hh⟩
      rcases List.mem_append.1 he with he | he
      · simp at he; rw [he]; show min x.2 y.2 ≤ x.2; omega
      · exact ih.2.1 e he
    · rw [if_neg q] at hh ⊢
      have ih := meetL_ok b x y.2 lo2 h3 (by omega)
      exact ⟨ih.1, ih.2.1, hh⟩
theorem bothL_ok : ∀ (a b : List Sp) (lo lo' : Int), Sep lo a → Sep lo' b → Sep lo (bothL a b) ∧ ∀ t, hasS (bothL a b) t = (hasS a t && hasS b t)
  | [], _, _, _, _, _ => ⟨trivial, fun t => by rw [hasS_nil, Bool.false_and]; rfl⟩
  | x :: a, b, lo, lo', ⟨h1, h2, h3⟩, hb => by
    have e : bothL (x :: a) b = meetL x b ++ bothL a b := rfl
    have hm := meetL_ok b x lo' lo hb (.inl h1)
    have ih := bothL_ok a b x.2 lo' h3 hb
    rw [e]
    refine ⟨sep_append hm.1 ih.1 hm.2.1 (by omega), fun t => ?_⟩
    rw [hasS_append, hm.2.2, ih.2, hasS_cons' x a]
    cases hasS [x] t <;> cases hasS a t <;> cases hasS b t <;> rfl
theorem meetL_len (x : Sp) : ∀ b : List Sp, (meetL x b).length ≤ b.length
  | [] => Nat.le_refl _
  | y :: b => by
    have ih := meetL_len x b
    have e : meetL x (y :: b) = meet x y ++ meetL x b := rfl
    rw [e, List.length_append, List.length_cons]
    have : (meet x y).length ≤ 1 := by unfold meet; split <;> simp
    omega
theorem bothL_len : ∀ a b : List Sp, (bothL a b).length ≤ a.length * b.length
  | [], _ => by simp [bothL]
  | x :: a, b => by
    have ih := bothL_len a b
    have hm := meetL_len x b
    have e : bothL (x :: a) b = meetL x b ++ bothL a b := rfl
    rw [e, List.length_append, List.length_cons, Nat.succ_mul]
    omega
theorem bothL_eq {a b : List Sp} (ha : Val a) (hb : Val b) : bothL a b = swp cX a b := by
  have h := bothL_ok a b (-1) (-1) ha.sep hb.sep
  exact sep_unique h.1 (swp_val (c := cX) rfl ha.inR hb.inR).sep fun t => by rw [h.2, crs_has ha.inR hb.inR]

def notL : Int → List Sp → List Sp
  | at_, [] => if at_ < top then [(at_, top)] else []
  | at_, s :: r => if at_ < s.1 then (at_, s.1) :: notL s.2 r else notL s.2 r
theorem notL_ok : ∀ (l : List Sp) (at_ : Int), Sep (at_ - 1) l → (∀ s ∈ l, s.2 ≤ top) → Sep (at_ - 1) (notL at_ l) ∧ (∀ s ∈ notL at_ l, s.2 ≤ top) ∧ (notL at_ l).length ≤ l.length + 1 ∧ ∀ t, hasS (notL at_ l) t = (decide (at_ ≤ t) && decide (t < top) && !hasS l t)
  | [], at_, _, _ => by
    unfold notL
    by_cases q : at_ < top
    · rw [if_pos q]
      refine ⟨⟨by show at_ - 1 < at_; omega, q, trivial⟩, fun s h => by simp at h; rw [h]; exact Int.le_refl _, Nat.le_refl _, fun t => ?_⟩
      rw [one_has, hasS_nil]; simp
    · rw [if_neg q]
      refine ⟨trivial, (fun s h => by cases h), Nat.zero_le _, fun t => ?_⟩
      rw [hasS_nil, eq_comm, Bool.eq_false_iff]
      intro z
      simp only [Bool.and_eq_true, decide_eq_true_eq] at z
      omega
  | s :: r, at_, ⟨h1, h2, h3⟩, ht => by
    have hst := ht s (by simp)
    have ih := notL_ok r s.2 (h3.mono (by omega)) (fun x hx => ht x (by simp [hx]))
    have key : ∀ t, (decide (at_ ≤ t) && decide (t < top) && !hasS (s :: r) t) = ((decide (at_ ≤ t) && decide (t < s.1)) || hasS (notL s.2 r) t) := fun t => by
      rw [ih.2.2.2, hasS_cons]
      by_cases q1 : t < s.2
      · have e1 : decide (s.2 ≤ t) = false := by simp; omega
        have e2 : hasS r t = false := h3.low (by omega)
        rw [e1, e2, Bool.eq_iff_iff]
        simp only [Bool.and_eq_true, Bool.not_eq_true', decide_eq_true_eq, Bool.or_false, Bool.false_and, Bool.and_eq_false_iff, decide_eq_false_iff_not]
        omega
      · have e1 : decide (s.2 ≤ t) = true := by simp; omega
        have e2 : (decide (s.1 ≤ t) && decide (t < s.2)) = false := by rw [Bool.eq_false_iff]; intro z; simp only [Bool.and_eq_true, decide_eq_true_eq] at z; omega
        have e3 : (decide (at_ ≤ t) && decide (t < s.1)) = false := by rw [Bool.eq_false_iff]; intro z; simp only [Bool.and_eq_true, decide_eq_true_eq] at z; omega
        have e4 : decide (at_ ≤ t) = true := by simp; omega
        rw [e1, e2, e3, e4]
        simp
    unfold notL
    by_cases q : at_ < s.1
    · rw [if_pos q]
      refine ⟨⟨by show at_ - 1 < at_; omega, q, ih.1.mono (by show s.1 ≤ s.2 - 1; omega)⟩, fun x hx => ?_, by simp only [List.length_cons]; omega, fun t => ?_⟩
      · rcases List.mem_cons.1 hx with rfl | hx
        · show s.1 ≤ top; omega
        · exact ih.2.1 x hx
      · rw [key, hasS_cons]
    · rw [if_neg q]
      refine ⟨ih.1.mono (by omega), ih.2.1, by simp only [List.length_cons]; omega, fun t => ?_⟩
      rw [key]
      have e3 : (decide (at_ ≤ t) && decide (t < s.1)) = false := by rw [Bool.eq_false_iff]; intro z; simp only [Bool.and_eq_true, decide_eq_true_eq] at z; omega
      rw [e3, Bool.false_or]
theorem not_val {l : List Sp} (h : Val l) : Val (notL 0 l) ∧ (notL 0 l).length ≤ l.length + 1 := by
  have := notL_ok l 0 h.sep h.top
  exact ⟨⟨this.1, this.2.1⟩, this.2.2.1⟩
theorem minus_eq {a b : List Sp} (ha : Val a) (hb : Val b) : bothL a (notL 0 b) = swp cM a b := by
  have hn := notL_ok b 0 hb.sep hb.top
  have h := bothL_ok a (notL 0 b) (-1) (0 - 1) ha.sep hn.1
  refine sep_unique h.1 (swp_val (c := cM) rfl ha.inR hb.inR).sep fun t => ?_
  rw [h.2, min_has ha.inR hb.inR, hn.2.2.2]
  cases q : hasS a t
  · rfl
  · obtain ⟨x, hx, h1, h2⟩ := (hasS_iff _ _).1 q
    have := ha.inR x hx
    rw [show decide ((0 : Int) ≤ t) = true by simp; omega, show decide (t < top) = true by simp; omega]
    rfl
end SpP
end Go.Proofs.Ytojofkjnakiliaa
