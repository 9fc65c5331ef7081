/- Plain facts for RecordDamage of layer 2: data exchanged, twice, or with a field that the type does not have, are no valid set's; no condition beyond those that each theorem names. -/
import Derived.Test.YtmnbcjchfbfngaaDoorB2
namespace Go.Proofs.YtmnbcjchfbfngaaDoor
set_option linter.unusedSimpArgs false
set_option linter.unusedVariables false
open Go.RowKit
open NmP

theorem bLess_irr : ∀ l : Bs, Op.bytesLess l l = false
  | [] => rfl
  | a :: x => by simp [Op.bytesLess, bLess_irr x]
theorem bLess_asy : ∀ a b : Bs, Op.bytesLess a b = true → Op.bytesLess b a = false
  | [], [], h => by simp [Op.bytesLess] at h
  | [], b :: y, _ => rfl
  | a :: x, [], h => by simp [Op.bytesLess] at h
  | a :: x, b :: y, h => by
    simp only [Op.bytesLess, Bool.or_eq_true, decide_eq_true_eq, Bool.and_eq_true, beq_iff_eq] at h
    simp only [Op.bytesLess, Bool.or_eq_false_iff, decide_eq_false_iff_not, Bool.and_eq_false_imp, beq_iff_eq]
    rcases h with h | ⟨rfl, h⟩
    · have h' : a.toNat < b.toNat := h
      refine ⟨fun q => ?_, fun q => ?_⟩
      · have q' : b.toNat < a.toNat := q
        omega
      · subst q
        omega
    · refine ⟨fun q => ?_, fun _ => bLess_asy x y h⟩
      have q' : a.toNat < a.toNat := q
      omega
theorem cmpI_self (a : Int) : cmpI a a = 0 := by
  unfold cmpI
  rw [if_neg (by omega), if_neg (by omega)]
theorem cmpS_self (a : Bs) : cmpS a a = 0 := by
  unfold cmpS
  rw [bLess_irr, if_neg (by simp), if_pos (by simp)]
theorem cmpI_swap (a b : Int) : cmpI b a = - cmpI a b := by
  unfold cmpI
  split <;> split <;> (try split) <;> omega
theorem bLess_tot : ∀ a b : Bs, Op.bytesLess a b = false → (a == b) = false → Op.bytesLess b a = true
  | [], [], _, h => by simp at h
  | [], b :: y, h, _ => by simp [Op.bytesLess] at h
  | a :: x, [], _, _ => rfl
  | a :: x, b :: y, h, k => by
    simp only [Op.bytesLess, Bool.or_eq_false_iff, decide_eq_false_iff_not, Bool.and_eq_false_imp, beq_iff_eq] at h
    simp only [Op.bytesLess, Bool.or_eq_true, decide_eq_true_eq, Bool.and_eq_true, beq_iff_eq]
    by_cases e : a = b
    · subst e
      exact .inr ⟨rfl, bLess_tot x y (h.2 rfl) (by simpa using k)⟩
    · refine .inl ?_
      have h1 : ¬ a.toNat < b.toNat := h.1
      have h2 : a.toNat ≠ b.toNat := fun q => e (UInt8.toNat_inj.1 q)
      show b.toNat < a.toNat
      omega
theorem cmpS_eq (a b : Bs) : cmpS a b = if Op.bytesLess a b = true then -1 else if (a == b) = true then 0 else 1 := rfl
theorem cmpS_swap (a b : Bs) : cmpS b a = - cmpS a b := by
  by_cases e : a = b
  · subst e
    rw [cmpS_self]
    rfl
  · have e1 : (a == b) = false := beq_eq_false_iff_ne.2 e
    have e2 : (b == a) = false := beq_eq_false_iff_ne.2 (fun q => e q.symm)
    rw [cmpS_eq b a, cmpS_eq a b, e1, e2]
    cases h : Op.bytesLess a b
    · rw [bLess_tot a b h e1]
      decide
    · rw [bLess_asy a b h]
      decide
theorem lessI_self (a : Dt) : lessI a a = 0 := by
  unfold lessI orI
  rw [cmpS_self, cmpI_self, cmpI_self]
  simp
theorem lessI_swap (a b : Dt) : lessI b a = - lessI a b := by
  unfold lessI orI
  rw [cmpS_swap, cmpI_swap a.2.1, cmpI_swap a.2.2]
  generalize cmpS a.1.toList b.1.toList = x
  generalize cmpI a.2.1 b.2.1 = y
  generalize cmpI a.2.2 b.2.2 = z
  split <;> split <;> (try split) <;> (try split) <;> omega
theorem ok_pair {t : Nat} : ∀ {o : Option Dt} {pre : List Dt} {p q : Dt} {post : List Dt}, okFrom t o (pre ++ p :: q :: post) = true → lessI p q < 0
  | o, [], p, q, post, h => by
    simp only [List.nil_append, okFrom, Bool.and_eq_true, decide_eq_true_eq] at h
    exact h.2.1.2
  | o, a :: r, p, q, post, h => by
    simp only [List.cons_append, okFrom, Bool.and_eq_true] at h
    exact ok_pair h.2
theorem setB_from {x : Bs} {typ life : Int} {l : List Dt} (h : setB x typ life l = true) : okFrom typ.toNat none l = true := by
  unfold setB at h
  simp only [Bool.and_eq_true] at h
  exact h.2
/-- Two neighbours exchanged. -/
theorem bad_swap {x : Bs} {typ life : Int} {pre post : List Dt} {p q : Dt} (h : setB x typ life (pre ++ p :: q :: post) = true) : setB x typ life (pre ++ q :: p :: post) = false := by
  rw [Bool.eq_false_iff]
  intro k
  have h1 := ok_pair (setB_from h)
  have h2 := ok_pair (setB_from k)
  rw [lessI_swap] at h2
  omega
/-- The last one twice. -/
theorem bad_twice {x : Bs} {typ life : Int} {pre : List Dt} {p : Dt} : setB x typ life (pre ++ [p] ++ [p]) = false := by
  rw [Bool.eq_false_iff]
  intro k
  rw [List.append_assoc] at k
  have h2 := ok_pair (setB_from k)
  rw [lessI_self] at h2
  omega
theorem bad_datum {x : Bs} {typ life : Int} {l : List Dt} {d : Dt} (hd : d ∈ l) (h : okD typ.toNat d = false) : setB x typ life l = false := by
  rw [Bool.eq_false_iff]
  intro k
  have h2 := okFrom_mem (setB_from k) d hd
  rw [h] at h2
  cases h2
theorem bad_M {t : Nat} {d : Dt} (h : d.2.2 < 0) : okD t d = false := by
  rw [Bool.eq_false_iff]
  intro k
  have := okD_facts k
  omega
theorem bad_N {t : Nat} {d : Dt} (h : d.2.1 < 0) : okD t d = false := by
  rw [Bool.eq_false_iff]
  intro k
  have := okD_facts k
  omega
theorem split_mem {c : UInt8} (hc : c ≠ 46) : ∀ l : Bs, c ∈ l → ∃ p ∈ splitF l, c ∈ p
  | [], h => absurd h List.not_mem_nil
  | a :: t, h => by
    rw [splitF_cons]
    rcases List.mem_cons.1 h with rfl | h
    · rw [if_neg hc]
      exact ⟨_, List.mem_cons_self, List.mem_cons_self⟩
    · obtain ⟨p, hp, hcp⟩ := split_mem hc t h
      split
      · exact ⟨p, List.mem_cons_of_mem _ hp, hcp⟩
      · cases hs : splitF t with
        | nil => exact absurd hs (splitF_ne t)
        | cons b r =>
          rw [hs] at hp
          rcases List.mem_cons.1 hp with rfl | hp
          · exact ⟨_, List.mem_cons_self, List.mem_cons_of_mem _ hcp⟩
          · exact ⟨p, List.mem_cons_of_mem _ hp, hcp⟩
theorem labs_mem : ∀ {f : Bool} {r : List Bs}, labsOK f r = true → ∀ p ∈ r, ∃ g, labelB p g = true
  | _, [], _, p, hp => absurd hp List.not_mem_nil
  | f, y :: r, h, p, hp => by
    simp only [labsOK, Bool.and_eq_true] at h
    rcases List.mem_cons.1 hp with rfl | hp
    · exact ⟨f, h.1⟩
    · exact labs_mem h.2 p hp
theorem valid_no95 {l : Bs} (h : (95 : UInt8) ∈ l) : validB l = false := by
  rw [Bool.eq_false_iff]
  intro k
  unfold validB at k
  simp only [Bool.or_eq_true, beq_iff_eq, Bool.and_eq_true] at k
  rcases k with rfl | ⟨⟨_, k⟩, _⟩
  · simp at h
  · obtain ⟨p, hp, hc⟩ := split_mem (c := 95) (by decide) l h
    obtain ⟨g, hg⟩ := labs_mem k p hp
    unfold labelB at hg
    simp only [Bool.or_eq_true, Bool.and_eq_true, beq_iff_eq, List.all_eq_true] at hg
    rcases hg with ⟨_, rfl⟩ | ⟨_, hg⟩
    · simp at hc
    · have := hg 95 hc
      simp [okc] at this
theorem bad_text {t : Nat} {d : Dt} (h : (95 : UInt8) ∈ d.1.toList) : okD t d = false := by
  rw [Bool.eq_false_iff]
  intro k
  unfold okD fitsB at k
  simp only [Bool.and_eq_true] at k
  have k2 := k.2
  unfold textB at k2
  rw [valid_no95 h] at k2
  split at k2
  · simp at k2
  · split at k2
    · cases k2
    · split at k2
      · unfold plainB at k2
        simp only [Bool.and_eq_true, List.all_eq_true] at k2
        have := k2.2 95 h
        simp [okP] at this
      · cases hl : d.1.toList with
        | nil => rw [hl] at h; simp at h
        | cons a r => rw [hl] at k2; simp at k2
end Go.Proofs.YtmnbcjchfbfngaaDoor
