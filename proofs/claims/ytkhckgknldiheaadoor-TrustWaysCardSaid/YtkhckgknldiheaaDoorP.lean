/- Plain facts on names as lists of bytes: their labels, what is under what, and the order; no condition beyond those that each theorem names, and nothing of Go. -/
import Derived.Lib.Bytealg
import Derived.Lib.IndexLaws
namespace Go.Proofs.YtkhckgknldiheaaDoor
set_option linter.unusedSimpArgs false
set_option linter.unusedVariables false
namespace NmP
open Go.Lib

abbrev Bs := List UInt8

def splitF : Bs → List Bs
  | [] => [[]]
  | c :: t => if c = 46 then [] :: splitF t else (c :: (splitF t).headD []) :: (splitF t).tail

theorem splitF_ne : ∀ l, splitF l ≠ []
  | [] => by simp [splitF]
  | c :: t => by unfold splitF; split <;> simp

theorem splitF_cons (c : UInt8) (t : Bs) : splitF (c :: t) = if c = 46 then [] :: splitF t else (c :: (splitF t).headD []) :: (splitF t).tail := rfl
theorem splitF_dot : ∀ a b : Bs, splitF (a ++ 46 :: b) = splitF a ++ splitF b
  | [], b => by simp [splitF]
  | c :: a, b => by
    rw [List.cons_append, splitF_cons, splitF_cons c a, splitF_dot a b]
    split
    · rfl
    · cases h : splitF a with
      | nil => exact absurd h (splitF_ne a)
      | cons x r => simp

theorem splitF_none : ∀ b : Bs, (46 : UInt8) ∉ b → splitF b = [b]
  | [], _ => rfl
  | c :: t, h => by
    have h1 : ¬ c = 46 := fun e => h (by simp [e])
    have h2 : (46 : UInt8) ∉ t := fun e => h (by simp [e])
    unfold splitF
    rw [if_neg h1, splitF_none t h2]
    rfl

def joinD : List Bs → Bs
  | [] => []
  | [x] => x
  | x :: y :: r => x ++ 46 :: joinD (y :: r)

theorem joinD_cons (x : Bs) (r : List Bs) (h : r ≠ []) : joinD (x :: r) = x ++ 46 :: joinD r := by
  cases r with
  | nil => exact absurd rfl h
  | cons y r => rfl

theorem joinD_splitF : ∀ l, joinD (splitF l) = l
  | [] => rfl
  | c :: t => by
    have ih := joinD_splitF t
    unfold splitF
    split
    · rename_i h
      rw [joinD_cons _ _ (splitF_ne t), ih, h]; rfl
    · cases h : splitF t with
      | nil => exact absurd h (splitF_ne t)
      | cons x r =>
        rw [h] at ih
        cases r with
        | nil => simpa [joinD] using ih
        | cons y r =>
          simp only [List.headD_cons, List.tail_cons]
          rw [joinD_cons _ _ (by simp)]
          rw [joinD_cons _ _ (by simp)] at ih
          rw [← ih]; rfl

theorem joinD_append (q r : List Bs) (hq : q ≠ []) (hr : r ≠ []) : joinD (q ++ r) = joinD q ++ 46 :: joinD r := by
  induction q with
  | nil => exact absurd rfl hq
  | cons x q ih =>
    rw [List.cons_append, joinD_cons _ _ (by simp [hr])]
    cases q with
    | nil => rfl
    | cons y q => rw [ih (by simp), joinD_cons x (y :: q) (by simp)]; simp

theorem splitF_inj {a b : Bs} (h : splitF a = splitF b) : a = b := by rw [← joinD_splitF a, h, joinD_splitF b]

/-- The labels of a name: the root has none. -/
def labs (l : Bs) : List Bs := if l = [46] then [] else splitF l
theorem labs_root : labs [46] = [] := if_pos rfl
theorem labs_of {l : Bs} (h : l ≠ [46]) : labs l = splitF l := if_neg h
theorem labs_inj {a b : Bs} (h : labs a = labs b) : a = b := by
  by_cases ha : a = [46] <;> by_cases hb : b = [46]
  · rw [ha, hb]
  · rw [ha, labs_root, labs_of hb] at h; exact absurd h.symm (splitF_ne b)
  · rw [hb, labs_root, labs_of ha] at h; exact absurd h (splitF_ne a)
  · rw [labs_of ha, labs_of hb] at h; exact splitF_inj h

/-- No label is empty. -/
def okN (l : Bs) : Prop := l = [46] ∨ ∀ x ∈ splitF l, x ≠ []

def underB (l m : Bs) : Bool := m == [46] || l == m || (decide (m.length + 1 < l.length) && l[l.length - m.length - 1]? == some 46 && l.drop (l.length - m.length) == m)

theorem under_iff {l m : Bs} (hl : okN l) : underB l m = true ↔ labs m <:+ labs l := by
  constructor
  · intro h
    simp only [underB, Bool.or_eq_true, Bool.and_eq_true, beq_iff_eq, decide_eq_true_eq] at h
    rcases h with (h | h) | ⟨⟨h1, h2⟩, h3⟩
    · rw [h, labs_root]; exact List.nil_suffix
    · rw [h]; exact List.suffix_refl _
    · by_cases hm : m = [46]
      · rw [hm, labs_root]; exact List.nil_suffix
      · have e : l = l.take (l.length - m.length - 1) ++ 46 :: m := by
          rw [List.getElem?_eq_some_iff] at h2
          obtain ⟨h4, h5⟩ := h2
          have a1 := (List.take_append_drop (l.length - m.length - 1) l).symm
          rw [List.drop_eq_getElem_cons h4, h5] at a1
          rw [show l.length - m.length - 1 + 1 = l.length - m.length by omega, h3] at a1
          exact a1
        have hl2 : l ≠ [46] := fun q => by rw [q] at h1; simp at h1
        rw [labs_of hm, labs_of hl2, e, splitF_dot]
        exact List.suffix_append _ _
  · rintro ⟨q, hq⟩
    by_cases hm : m = [46]
    · simp [underB, hm]
    · by_cases hl2 : l = [46]
      · rw [hl2, labs_root, labs_of hm] at hq
        exact absurd (List.append_eq_nil_iff.1 hq).2 (splitF_ne m)
      · rw [labs_of hm, labs_of hl2] at hq
        by_cases hq0 : q = []
        · rw [hq0] at hq
          have := splitF_inj (show splitF m = splitF l from hq)
          simp [underB, this]
        · have e : l = joinD q ++ 46 :: m := by rw [← joinD_splitF l, ← hq, joinD_append q _ hq0 (splitF_ne m), joinD_splitF]
          have hne : joinD q ≠ [] := by
            cases q with
            | nil => exact absurd rfl hq0
            | cons x q =>
              have hx : x ≠ [] := by
                rcases hl with h | h
                · exact absurd h hl2
                · exact h x (by rw [← hq]; simp)
              cases q with
              | nil => exact hx
              | cons y q => rw [joinD_cons _ _ (by simp)]; simp
          have hlen : 1 ≤ (joinD q).length := by
            cases h : joinD q with
            | nil => exact absurd h hne
            | cons => simp
          have h1 : l.length = (joinD q).length + 1 + m.length := by rw [e]; simp; omega
          simp only [underB, Bool.or_eq_true, Bool.and_eq_true, beq_iff_eq, decide_eq_true_eq]
          refine .inr ⟨⟨by omega, ?_⟩, ?_⟩
          · rw [show l.length - m.length - 1 = (joinD q).length by omega, e]; simp
          · rw [show l.length - m.length = (joinD q).length + 1 by omega, e]
            rw [show joinD q ++ 46 :: m = (joinD q ++ [46]) ++ m by simp]
            rw [List.drop_append_of_le_length (by simp)]
            simp

/-! The name above. -/
def parentL (l : Bs) : Bs := if indexByte l 46 < 0 then [46] else l.drop ((indexByte l 46).toNat + 1)

theorem index_split {l : Bs} : (indexByte l 46 < 0 ∧ (46 : UInt8) ∉ l) ∨ (∃ a b, l = a ++ 46 :: b ∧ (46 : UInt8) ∉ a ∧ indexByte l 46 = a.length) := by
  induction l with
  | nil => exact .inl ⟨by simp [indexByte], by simp⟩
  | cons c t ih =>
    by_cases hc : c = 46
    · exact .inr ⟨[], t, by rw [hc]; rfl, by simp, by rw [hc]; simp [indexByte]⟩
    · have hb : (c == (46 : UInt8)) = false := by simpa using hc
      rcases ih with ⟨h1, h2⟩ | ⟨a, b, rfl, h2, h3⟩
      · have := indexByte_ge t 46
        have h4 : indexByte t 46 = -1 := by omega
        exact .inl ⟨by simp [indexByte, hb, h4], by simp [h2]; exact fun e => hc e.symm⟩
      · refine .inr ⟨c :: a, b, rfl, by simp [h2]; exact fun e => hc e.symm, ?_⟩
        simp only [indexByte, hb, h3]
        have h5 : ¬ (((a.length : Int) == -1) = true) := by simp
        rw [if_neg (by simp), if_neg h5]
        simp

theorem parent_cases {l : Bs} (hl : okN l) (hr : l ≠ [46]) : labs (parentL l) = (labs l).tail ∧ okN (parentL l) ∧ (parentL l).length < l.length + 1 := by
  have ho : ∀ x ∈ splitF l, x ≠ [] := by rcases hl with h | h; exact absurd h hr; exact h
  rw [labs_of hr]
  rcases @index_split l with ⟨h1, h2⟩ | ⟨a, b, e, h2, h3⟩
  · have : parentL l = [46] := if_pos h1
    rw [this, labs_root, splitF_none l h2]
    refine ⟨rfl, .inl rfl, ?_⟩
    cases l with
    | nil => exact absurd rfl (ho [] (by simp [splitF]))
    | cons => simp
  · have hp : parentL l = b := by
      unfold parentL
      rw [h3, if_neg (by omega), e]
      simp
    have hs : splitF l = a :: splitF b := by rw [e, splitF_dot, splitF_none a h2]; rfl
    have hb : b ≠ [46] := fun q => ho [] (by rw [hs, q]; simp [splitF]) rfl
    rw [hp, labs_of hb, hs]
    exact ⟨rfl, .inr (fun x hx => ho x (by rw [hs]; exact List.mem_cons_of_mem _ hx)), by rw [e]; simp; omega⟩

/-! The order. -/
def lexC {α : Type} (c : α → α → Int) : List α → List α → Int
  | [], [] => 0
  | [], _ :: _ => -1
  | _ :: _, [] => 1
  | a :: x, b :: y => if c a b = 0 then lexC c x y else c a b

structure Good {α : Type} (c : α → α → Int) : Prop where
  rng : ∀ a b, c a b = -1 ∨ c a b = 0 ∨ c a b = 1
  zero : ∀ a b, c a b = 0 ↔ a = b
  anti : ∀ a b, c b a = - c a b
  trans : ∀ a b d, c a b ≤ 0 → c b d ≤ 0 → c a d ≤ 0

theorem Good.lex {α : Type} {c : α → α → Int} (g : Good c) : Good (lexC c) where
  rng := by
    intro x
    induction x with
    | nil => intro y; cases y <;> simp [lexC]
    | cons a x ih =>
      intro y
      cases y with
      | nil => simp [lexC]
      | cons b y =>
        unfold lexC; split
        · exact ih y
        · exact g.rng a b
  zero := by
    intro x
    induction x with
    | nil => intro y; cases y <;> simp [lexC]
    | cons a x ih =>
      intro y
      cases y with
      | nil => simp [lexC]
      | cons b y =>
        unfold lexC; split
        · rename_i h; rw [ih y, (g.zero a b).1 h]; simp
        · rename_i h; simp [h]; exact fun e => absurd ((g.zero a b).2 e) h
  anti := by
    intro x
    induction x with
    | nil => intro y; cases y <;> simp [lexC]
    | cons a x ih =>
      intro y
      cases y with
      | nil => simp [lexC]
      | cons b y =>
        unfold lexC
        rw [g.anti a b]
        split
        · rename_i h; rw [if_pos (by omega)]; exact ih y
        · rename_i h; rw [if_neg (by omega)]
  trans := by
    intro x
    induction x with
    | nil => intro y z; cases y <;> cases z <;> simp [lexC]
    | cons a x ih =>
      intro y z
      cases y with
      | nil => simp [lexC]
      | cons b y =>
        cases z with
        | nil => simp [lexC]
        | cons d z =>
          unfold lexC
          intro h1 h2
          by_cases e1 : c a b = 0
          · rw [if_pos e1] at h1
            have e := (g.zero a b).1 e1
            subst e
            by_cases e2 : c a d = 0
            · rw [if_pos e2] at h2 ⊢; exact ih y z h1 h2
            · rw [if_neg e2] at h2 ⊢; exact h2
          · rw [if_neg e1] at h1
            by_cases e2 : c b d = 0
            · have e := (g.zero b d).1 e2
              subst e
              rw [if_neg e1]; exact h1
            · rw [if_neg e2] at h2
              have h3 := g.trans a b d h1 h2
              by_cases e3 : c a d = 0
              · exfalso
                have e := (g.zero a d).1 e3
                subst e
                have := g.anti a b
                omega
              · rw [if_neg e3]; exact h3

def byteC (a b : UInt8) : Int := if a < b then -1 else if b < a then 1 else 0
theorem byteC_good : Good byteC where
  rng := by
    intro a b; unfold byteC
    split
    · simp
    · split <;> simp
  zero := by
    intro a b; unfold byteC
    simp only [UInt8.lt_iff_toNat_lt, ← UInt8.toNat_inj]
    split
    · simp; omega
    · split <;> simp <;> omega
  anti := by
    intro a b; unfold byteC
    simp only [UInt8.lt_iff_toNat_lt]
    split <;> split <;> simp <;> omega
  trans := by
    intro a b d; unfold byteC
    simp only [UInt8.lt_iff_toNat_lt]
    split <;> split <;> split <;> simp <;> omega

theorem compareBytes_eq : ∀ a b : Bs, compareBytes a b = lexC byteC a b
  | [], [] => rfl
  | [], _ :: _ => rfl
  | _ :: _, [] => rfl
  | a :: x, b :: y => by
    unfold compareBytes lexC
    rw [compareBytes_eq x y]
    unfold byteC
    by_cases h1 : a < b
    · rw [if_pos h1, if_pos h1]; simp
    · by_cases h2 : b < a
      · rw [if_neg h1, if_pos h2, if_neg h1, if_pos h2]; simp
      · rw [if_neg h1, if_neg h2, if_neg h1, if_neg h2]; simp
theorem compareBytes_good : Good compareBytes := by
  have : compareBytes = lexC byteC := by funext a b; exact compareBytes_eq a b
  rw [this]; exact byteC_good.lex

def cmpN (l m : Bs) : Int := lexC compareBytes (labs l).reverse (labs m).reverse
theorem cmpN_good : Good cmpN where
  rng a b := compareBytes_good.lex.rng _ _
  zero a b := by
    unfold cmpN
    rw [compareBytes_good.lex.zero]
    exact ⟨fun h => labs_inj (List.reverse_inj.1 h), fun h => by rw [h]⟩
  anti a b := compareBytes_good.lex.anti _ _
  trans a b d := compareBytes_good.lex.trans _ _ _

theorem lex_prefix {α : Type} {c : α → α → Int} (g : Good c) : ∀ p x : List α, p <+: x → lexC c p x ≤ 0
  | [], x, _ => by cases x <;> simp [lexC]
  | a :: p, x, ⟨r, h⟩ => by
    rw [← h, List.cons_append]
    unfold lexC
    rw [if_pos ((g.zero a a).2 rfl)]
    exact lex_prefix g p _ ⟨r, rfl⟩
theorem lex_between {α : Type} {c : α → α → Int} (g : Good c) : ∀ p x y z : List α, p <+: x → p <+: z → lexC c x y ≤ 0 → lexC c y z ≤ 0 → p <+: y
  | [], x, y, z, _, _, _, _ => List.nil_prefix
  | a :: p, x, y, z, ⟨r, h⟩, ⟨s, h'⟩, h1, h2 => by
    rw [← h, List.cons_append] at h1
    rw [← h', List.cons_append] at h2
    cases y with
    | nil => simp [lexC] at h1
    | cons b y =>
      unfold lexC at h1 h2
      have e : c a b = 0 := by
        by_cases e1 : c a b = 0
        · exact e1
        · rw [if_neg e1] at h1
          have := g.anti a b
          rw [if_neg (by omega)] at h2
          omega
      have e2 := (g.zero a b).1 e
      subst e2
      rw [if_pos e] at h1 h2
      have := lex_between g p _ y _ ⟨r, rfl⟩ ⟨s, rfl⟩ h1 h2
      exact List.cons_prefix_cons.2 ⟨rfl, this⟩

/-! What a label is, and a name. -/
def okc (c : UInt8) : Bool := decide ((97 ≤ c.toNat ∧ c.toNat ≤ 122) ∨ (48 ≤ c.toNat ∧ c.toNat ≤ 57) ∨ c.toNat = 45)
def labelB (l : Bs) (f : Bool) : Bool := (f && l == [42]) || (decide (1 ≤ l.length) && decide (l.length ≤ 12) && !(l[0]? == some 45) && !(l[l.length - 1]? == some 45) && l.all okc)
def labsOK : Bool → List Bs → Bool
  | _, [] => true
  | f, x :: r => labelB x f && labsOK false r
def validB (l : Bs) : Bool := l == [46] || (decide (1 ≤ l.length) && decide (l.length ≤ 60) && labsOK true (splitF l) && decide ((splitF l).length ≤ 8))

theorem labelB_ne {l : Bs} {f : Bool} (h : labelB l f = true) : l ≠ [] := by
  rintro rfl
  cases f <;> simp [labelB] at h
theorem labsOK_ne : ∀ {f : Bool} {r : List Bs}, labsOK f r = true → ∀ x ∈ r, x ≠ []
  | _, [], _, x, hx => absurd hx List.not_mem_nil
  | f, y :: r, h, x, hx => by
    simp only [labsOK, Bool.and_eq_true] at h
    rcases List.mem_cons.1 hx with rfl | hx
    · exact labelB_ne h.1
    · exact labsOK_ne h.2 x hx
theorem valid_ok {l : Bs} (h : validB l = true) : okN l := by
  simp only [validB, Bool.or_eq_true, Bool.and_eq_true, beq_iff_eq] at h
  rcases h with h | h
  · exact .inl h
  · exact .inr (labsOK_ne h.1.2)
theorem valid_len {l : Bs} (h : validB l = true) : (labs l).length ≤ 8 ∧ 1 ≤ l.length ∧ l.length ≤ 60 := by
  simp only [validB, Bool.or_eq_true, Bool.and_eq_true, beq_iff_eq, decide_eq_true_eq] at h
  by_cases hr : l = [46]
  · rw [hr]; simp [labs]
  · rcases h with h | h
    · exact absurd h hr
    · rw [labs_of hr]; omega
end NmP
end Go.Proofs.YtkhckgknldiheaaDoor
