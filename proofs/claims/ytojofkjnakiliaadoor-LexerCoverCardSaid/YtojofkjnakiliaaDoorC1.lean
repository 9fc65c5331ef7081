/- That the texts of tokens stand at their places, and that everything between them is a gap, as plain facts on lists of bytes; no condition beyond those that each theorem names. -/
import Derived.Test.YtojofkjnakiliaaDoorG1
import Derived.Lib.Split
import Derived.Lib.SplitLaws
import Derived.Lib.SlTrimSet
namespace Go.Proofs.YtojofkjnakiliaaDoor
set_option linter.unusedSimpArgs false
set_option linter.unusedVariables false
open Go.RowKit Go.Maps Go.Shelf
open NmP

/-- A text that consists of gaps alone; cm: within a comment. -/
def gapsL : Bool → Bs → Bool
  | _, [] => true
  | cm, c :: t => if cm = true ∧ c.toNat ≠ 10 then gapsL true t else if kindN c.toNat = 1 then gapsL false t else if kindN c.toNat = 2 then gapsL true t else false
theorem gapsL_cons (cm : Bool) (c : UInt8) (t : Bs) : gapsL cm (c :: t) = if cm = true ∧ c.toNat ≠ 10 then gapsL true t else if kindN c.toNat = 1 then gapsL false t else if kindN c.toNat = 2 then gapsL true t else false := rfl
theorem gapsL_take : ∀ (cm : Bool) (l : Bs), gapsL cm (l.take (skipG cm l)) = true
  | _, [] => rfl
  | cm, c :: t => by
    rw [skipG_cons]
    by_cases q1 : cm = true ∧ c.toNat ≠ 10
    · rw [if_pos q1, Nat.add_comm 1, List.take_succ_cons, gapsL_cons, if_pos q1, gapsL_take]
    · rw [if_neg q1]
      by_cases q2 : kindN c.toNat = 1
      · rw [if_pos q2, Nat.add_comm 1, List.take_succ_cons, gapsL_cons, if_neg q1, if_pos q2, gapsL_take]
      · rw [if_neg q2]
        by_cases q3 : kindN c.toNat = 2
        · rw [if_pos q3, Nat.add_comm 1, List.take_succ_cons, gapsL_cons, if_neg q1, if_neg q2, if_pos q3, gapsL_take]
        · rw [if_neg q3]; rfl

/-- The bytes that a token was made of are its text. -/
theorem take_of {c : UInt8} {t : Bs} (h0 : (endP (c :: t)).len ≠ 0) (he : (endP (c :: t)).e = 0) :
    textT (endP (c :: t)).k (endP (c :: t)).x (endP (c :: t)).n = (c :: t).take (endP (c :: t)).len ∧ 1 ≤ (endP (c :: t)).k ∧ (endP (c :: t)).k ≤ 3 := by
  have hrl := runOf_len (c :: t)
  have hin := runOf_mem (c :: t)
  have hhd : 3 ≤ kindN c.toNat ∧ kindN c.toNat ≤ 6 → (runOf (c :: t)).headD 0 = c ∧ runOf (c :: t) ≠ [] := fun hk => by
    unfold runOf
    rw [show runL (c :: t) = 1 + runL t from if_pos hk, Nat.add_comm 1, List.take_succ_cons]
    exact ⟨rfl, by simp⟩
  have hword : (wordP (runOf (c :: t))).e = 0 → textT (wordP (runOf (c :: t))).k (wordP (runOf (c :: t))).x (wordP (runOf (c :: t))).n = (c :: t).take (wordP (runOf (c :: t))).len ∧ 1 ≤ (wordP (runOf (c :: t))).k ∧ (wordP (runOf (c :: t))).k ≤ 3 := fun h => by
    unfold wordP at h ⊢
    by_cases h60 : (runOf (c :: t)).length ≤ 60
    · simp only [if_pos h60] at h ⊢
      rw [hrl]
      exact ⟨rfl, by omega, by omega⟩
    · simp only [if_neg h60] at h
      cases h
  unfold endP at h0 he ⊢
  rw [show (c :: t).headD 0 = c from rfl] at h0 he ⊢
  by_cases k3 : kindN c.toNat = 3
  · unfold endK at h0 he ⊢
    rw [if_pos k3] at h0 he ⊢
    by_cases ha : ((runOf (c :: t)).all fun c => kindN c.toNat = 3) = true
    · rw [if_pos ha] at h0 he ⊢
      have hall : ∀ d ∈ runOf (c :: t), kindN d.toNat = 3 := fun d hd => by simpa using List.all_eq_true.1 ha d hd
      have hpos : 0 < (runOf (c :: t)).length := List.length_pos_iff.2 (hhd (by omega)).2
      unfold numP at he ⊢
      by_cases hz : 1 < (runOf (c :: t)).length ∧ ((runOf (c :: t)).headD 0).toNat = 48
      · rw [if_pos hz] at he; cases he
      · simp only [if_neg hz] at he ⊢
        cases hn : numL (runOf (c :: t)) 0 with
        | none => rw [hn] at he; cases he
        | some n =>
          simp only
          have hdec : textT 2 [] n = runOf (c :: t) := by
            unfold textT
            rw [if_pos rfl]
            refine dec_num ((runOf (c :: t)).length - 1) _ n (by omega) hall ?_ hn
            by_cases q : 1 < (runOf (c :: t)).length
            · exact .inr fun e => hz ⟨q, e⟩
            · exact .inl (by omega)
          rw [hdec, hrl]
          exact ⟨rfl, by omega, by omega⟩
    · rw [if_neg ha] at h0 he ⊢
      exact hword he
  · by_cases k4 : kindN c.toNat = 4 ∨ kindN c.toNat = 6
    · unfold endK at h0 he ⊢
      rw [if_neg k3, if_pos k4] at h0 he ⊢
      exact hword he
    · by_cases k5 : kindN c.toNat = 5
      · unfold endK at h0 he ⊢
        rw [if_neg k3, if_neg k4, if_pos k5] at h0 he ⊢
        by_cases hd : runOf (c :: t) = [46]
        · rw [if_pos hd] at h0 he ⊢
          rw [hd] at hword
          exact hword he
        · rw [if_neg hd] at h0; exact absurd rfl h0
      · by_cases k7 : kindN c.toNat = 7
        · unfold endK at h0 he ⊢
          rw [if_neg k3, if_neg k4, if_neg k5, if_pos k7] at h0 he ⊢
          unfold textP at h0 he ⊢
          cases hq : quoteL ((c :: t).drop 1) 0 with
          | none => rw [hq] at h0; exact absurd rfl h0
          | some q =>
            rw [hq] at h0 he
            simp only at h0 he ⊢
            by_cases q0 : q = 0
            · rw [if_pos q0] at h0; exact absurd rfl h0
            · rw [if_neg q0] at h0 he ⊢
              by_cases q4 : 40 < q
              · rw [if_pos q4] at he; cases he
              · rw [if_neg q4]
                exact ⟨rfl, by show 1 ≤ 1; omega, by show 1 ≤ 3; omega⟩
        · by_cases k8 : kindN c.toNat = 8
          · unfold endK at h0 he ⊢
            rw [if_neg k3, if_neg k4, if_neg k5, if_neg k7, if_pos k8]
            exact ⟨rfl, by show 1 ≤ 3; omega, by show 3 ≤ 3; omega⟩
          · exfalso
            unfold endK at h0
            rw [if_neg k3, if_neg k4, if_neg k5, if_neg k7, if_neg k8] at h0
            exact h0 rfl

/-- The texts of some tokens stand at their places in a text that begins at a place, and gaps between them. -/
def Cov : Bs → Nat → List PTok → Prop
  | l, _, [] => gapsL false l = true
  | l, o, t :: ts => ∃ g r, l = g ++ (textT t.k t.x t.n ++ r) ∧ t.a = o + g.length ∧ gapsL false g = true ∧ textT t.k t.x t.n ≠ [] ∧ 1 ≤ t.k ∧ t.k ≤ 3 ∧ Cov r (t.a + (textT t.k t.x t.n).length) ts
theorem lexO_cov : ∀ (n : Nat) (l : Bs) (o : Nat) (ts : List PTok), lexO n l o = .ok ts → Cov l o ts
  | 0, _, _, _, h => by cases h
  | n + 1, l, o, ts, h => by
    have hgl := skipG_le false l
    unfold lexO at h
    cases hc : l.drop (skipG false l) with
    | nil =>
      rw [hc] at h
      cases h
      have hg : skipG false l = l.length := by
        have := congrArg List.length hc
        rw [List.length_drop] at this
        simp at this; omega
      have := gapsL_take false l
      rw [hg, List.take_length] at this
      exact this
    | cons c t =>
      rw [hc] at h
      simp only at h
      by_cases q0 : (endP (c :: t)).len = 0
      · rw [if_pos q0] at h; cases h
      · rw [if_neg q0] at h
        by_cases q1 : (endP (c :: t)).e ≠ 0
        · rw [if_pos q1] at h; cases h
        · rw [if_neg q1] at h
          cases hr : lexO n ((c :: t).drop (endP (c :: t)).len) (o + skipG false l + (endP (c :: t)).len) with
          | bad pre' z' e' a' => rw [hr] at h; cases h
          | ok us =>
            rw [hr] at h
            cases h
            have hto := take_of q0 (by simpa using q1)
            have hle := endP_len (c := c) (t := t)
            have htl : ((c :: t).take (endP (c :: t)).len).length = (endP (c :: t)).len := by rw [List.length_take]; omega
            refine ⟨l.take (skipG false l), (c :: t).drop (endP (c :: t)).len, ?_, ?_, gapsL_take _ _, ?_, hto.2.1, hto.2.2, ?_⟩
            · show l = _ ++ (textT (endP (c :: t)).k (endP (c :: t)).x (endP (c :: t)).n ++ _)
              rw [hto.1, List.take_append_drop, ← hc, List.take_append_drop]
            · show o + skipG false l = _
              rw [List.length_take, Nat.min_eq_left hgl]
            · show textT (endP (c :: t)).k (endP (c :: t)).x (endP (c :: t)).n ≠ []
              rw [hto.1]
              intro q
              rw [q] at htl
              exact q0 (by simpa using htl.symm)
            · show Cov _ (o + skipG false l + (textT (endP (c :: t)).k (endP (c :: t)).x (endP (c :: t)).n).length) us
              rw [hto.1, htl]
              exact lexO_cov n _ _ us hr

/-- A line that is a gap, as it is looked at: what stands ahead of the first number sign is blank. -/
def lineOk (l : Bs) : Bool := decide (Lib.trimS (Lib.cut l [35]).1 [32, 9] = [])
theorem dropWhile_nil {α : Type} {p : α → Bool} : ∀ {l : List α}, l.dropWhile p = [] ↔ ∀ x ∈ l, p x = true
  | [] => by simp
  | x :: r => by
    rw [List.dropWhile_cons]
    by_cases h : p x = true
    · rw [if_pos h, dropWhile_nil]; simp [h]
    · rw [if_neg h]; simp [h]
theorem trimS_nil (l cs : Bs) : Lib.trimS l cs = [] ↔ ∀ x ∈ l, cs.contains x = true := by
  unfold Lib.trimS Lib.trimLeftS Lib.trimRightS
  rw [dropWhile_nil]
  constructor
  · intro h x hx
    by_cases hr : (l.reverse.dropWhile (cs.contains ·)) = []
    · exact dropWhile_nil.1 hr x (by simpa using hx)
    · exfalso
      have h2 := h ((l.reverse.dropWhile (cs.contains ·)).head hr) (by simp)
      have h3 := List.head_dropWhile_not (cs.contains ·) (l := l.reverse) hr
      rw [h2] at h3
      cases h3
  · intro h x hx
    have := (List.dropWhile_sublist (cs.contains ·) (l := l.reverse)).subset (List.mem_reverse.1 hx)
    exact h x (by simpa using this)
theorem cut_key (l : Bs) : (Lib.cut l [35]).1 = if 0 ≤ Lib.indexByte l 35 then l.take (Lib.indexByte l 35).toNat else l := by
  unfold Lib.cut
  rw [Lib.index_one]
  split <;> rfl
theorem cut_cons (c : UInt8) (l : Bs) : (Lib.cut (c :: l) [35]).1 = if c = 35 then [] else c :: (Lib.cut l [35]).1 := by
  rw [cut_key, cut_key, show Lib.indexByte (c :: l) 35 = if c == 35 then 0 else if Lib.indexByte l 35 == -1 then -1 else Lib.indexByte l 35 + 1 from rfl]
  have hge := Lib.indexByte_ge l 35
  generalize Lib.indexByte l 35 = k at *
  by_cases hc : c = 35
  · rw [if_pos hc, if_pos (show (c == 35) = true by simp [hc]), if_pos (Int.le_refl 0)]; rfl
  · rw [if_neg hc, if_neg (show ¬ (c == 35) = true by simp [hc])]
    by_cases hm : k = -1
    · subst hm; rfl
    · rw [if_neg (show ¬ (k == -1) = true by simpa using hm), if_pos (by omega), if_pos (by omega), show (k + 1).toNat = k.toNat + 1 by omega]
      rfl
theorem kind_1 (c : UInt8) : kindN c.toNat = 1 ↔ c = 32 ∨ c = 9 ∨ c = 10 := by
  have h1 : (c = 32 ↔ c.toNat = 32) := by rw [← UInt8.toNat_inj]; rfl
  have h2 : (c = 9 ↔ c.toNat = 9) := by rw [← UInt8.toNat_inj]; rfl
  have h3 : (c = 10 ↔ c.toNat = 10) := by rw [← UInt8.toNat_inj]; rfl
  rw [h1, h2, h3]
  generalize c.toNat = n
  unfold kindN
  repeat' split
  all_goals omega
theorem kind_2 (c : UInt8) : kindN c.toNat = 2 ↔ c = 35 := by
  have h1 : (c = 35 ↔ c.toNat = 35) := by rw [← UInt8.toNat_inj]; rfl
  rw [h1]
  generalize c.toNat = n
  unfold kindN
  repeat' split
  all_goals omega
theorem ten (c : UInt8) : c.toNat = 10 ↔ c = 10 := by rw [← UInt8.toNat_inj]; rfl
theorem lineOk_nil : lineOk [] = true := by decide
theorem lineOk_cons (c : UInt8) (l : Bs) : lineOk (c :: l) = (decide (c = 35) || ((decide (c = 32) || decide (c = 9)) && lineOk l)) := by
  unfold lineOk
  rw [cut_cons]
  by_cases hc : c = 35
  · rw [if_pos hc]; simp [hc, trimS_nil]
  · rw [if_neg hc]
    rw [Bool.eq_iff_iff]
    simp only [decide_eq_true_eq, trimS_nil, Bool.or_eq_true, Bool.and_eq_true, hc, false_or]
    constructor
    · intro h
      refine ⟨?_, fun x hx => h x (by simp [hx])⟩
      have := h c (by simp)
      simpa using this
    · intro h x hx
      rcases List.mem_cons.1 hx with rfl | hx
      · simpa using h.1
      · exact h.2 x hx
/-- A line within a comment is a gap. -/
theorem gapsL_comment : ∀ (a b : Bs), (∀ x ∈ a, x ≠ 10) → gapsL true (a ++ 10 :: b) = gapsL false b ∧ gapsL true a = true
  | [], b, _ => ⟨by rw [List.nil_append, gapsL_cons, if_neg (by simp), if_pos (by decide)], rfl⟩
  | c :: a, b, h => by
    have hc : c.toNat ≠ 10 := fun q => h c (by simp) ((ten c).1 q)
    have ih := gapsL_comment a b fun x hx => h x (by simp [hx])
    rw [List.cons_append, gapsL_cons, if_pos ⟨rfl, hc⟩, gapsL_cons, if_pos ⟨rfl, hc⟩]
    exact ih
theorem gapsL_false (c : UInt8) (t : Bs) : gapsL false (c :: t) = if kindN c.toNat = 1 then gapsL false t else if kindN c.toNat = 2 then gapsL true t else false := by
  rw [gapsL_cons, if_neg (by simp)]
theorem gapsL_line : ∀ (a b : Bs), (∀ x ∈ a, x ≠ 10) → gapsL false (a ++ 10 :: b) = (lineOk a && gapsL false b) ∧ gapsL false a = lineOk a
  | [], b, _ => ⟨by rw [List.nil_append, gapsL_cons, if_neg (by simp), if_pos (by decide), lineOk_nil]; rfl, by rw [lineOk_nil]; rfl⟩
  | c :: a, b, h => by
    have hc : c ≠ 10 := h c (by simp)
    have ih := gapsL_line a b fun x hx => h x (by simp [hx])
    have ih2 := gapsL_comment a b fun x hx => h x (by simp [hx])
    rw [List.cons_append, gapsL_false, gapsL_false, lineOk_cons]
    by_cases h1 : kindN c.toNat = 1
    · rw [if_pos h1, if_pos h1, ih.1, ih.2]
      have := (kind_1 c).1 h1
      rcases this with rfl | rfl | rfl
      · simp
      · simp
      · exact absurd rfl hc
    · rw [if_neg h1, if_neg h1]
      have h1' : c ≠ 32 ∧ c ≠ 9 := ⟨fun q => h1 ((kind_1 c).2 (.inl q)), fun q => h1 ((kind_1 c).2 (.inr (.inl q)))⟩
      by_cases h2 : kindN c.toNat = 2
      · rw [if_pos h2, if_pos h2, ih2.1, ih2.2]
        obtain rfl := (kind_2 c).1 h2
        simp
      · rw [if_neg h2, if_neg h2]
        have h2' : c ≠ 35 := fun q => h2 ((kind_2 c).2 q)
        simp [h1', h2']

/-- All lines of a text, as it is split, are gaps exactly if it is one. -/
theorem lines_gaps : ∀ (k : Nat) (s : Bs), Lib.count s [10] = k → (Lib.splitK [10] 0 k s).all lineOk = gapsL false s
  | 0, s, h => by
    have hn : ∀ x ∈ s, x ≠ 10 := by
      intro x hx q
      subst q
      rw [Lib.count_one] at h
      have := List.count_pos_iff.2 hx
      omega
    show (lineOk s && true) = _
    rw [(gapsL_line s [] hn).2, Bool.and_true]
  | k + 1, s, h => by
    rw [Lib.count_one] at h
    have hmem : (10 : UInt8) ∈ s := List.count_pos_iff.1 (by omega)
    have hne : Lib.indexByte s 10 ≠ -1 := fun q => by
      obtain ⟨j, hj⟩ := List.mem_iff_getElem?.1 hmem
      exact Lib.indexByte_none q j hj
    have hge := Lib.indexByte_ge s 10
    obtain ⟨i, hi⟩ : ∃ i : Nat, Lib.indexByte s 10 = i := ⟨(Lib.indexByte s 10).toNat, by omega⟩
    obtain ⟨h1, h2⟩ := Lib.indexByte_some hi
    obtain ⟨hlt, hge2⟩ := List.getElem?_eq_some_iff.1 h1
    have hs : s = s.take i ++ 10 :: s.drop (i + 1) := by
      rw [← hge2, ← List.drop_eq_getElem_cons hlt, List.take_append_drop]
    have hn : ∀ x ∈ s.take i, x ≠ 10 := by
      intro x hx q
      subst q
      obtain ⟨j, hj⟩ := List.mem_iff_getElem?.1 hx
      have hjl := (List.getElem?_eq_some_iff.1 hj).1
      rw [List.length_take] at hjl
      rw [List.getElem?_take_of_lt (by omega)] at hj
      exact h2 j (by omega) hj
    have hc0 : (s.take i).count 10 = 0 := List.count_eq_zero.2 fun q => hn _ q rfl
    have hcnt : Lib.count (s.drop (i + 1)) [10] = k := by
      rw [Lib.count_one]
      rw [hs, List.count_append, hc0, List.count_cons_self] at h
      omega
    have hg := (gapsL_line (s.take i) (s.drop (i + 1)) hn).1
    rw [← hs] at hg
    have hix : Lib.index s [10] = i := by rw [Lib.index_one]; exact hi
    unfold Lib.splitK
    rw [hix, if_neg (by rw [beq_iff_eq]; omega), List.all_cons]
    simp only [Int.toNat_natCast, Nat.add_zero, List.length_cons, List.length_nil, Nat.zero_add]
    rw [lines_gaps k _ hcnt, hg]
end Go.Proofs.YtojofkjnakiliaaDoor
