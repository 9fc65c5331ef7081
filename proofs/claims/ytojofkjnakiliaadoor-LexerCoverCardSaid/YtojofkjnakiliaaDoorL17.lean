/- Tokens of a text behind which a line feed and another text stand, as plain facts on lists of bytes; no condition beyond those that each theorem names. -/
import Derived.Test.YtojofkjnakiliaaDoorL16
namespace Go.Proofs.YtojofkjnakiliaaDoor
set_option linter.unusedSimpArgs false
set_option linter.unusedVariables false
open Go.RowKit Go.Maps Go.Shelf
open NmP

theorem skipG_cons (cm : Bool) (c : UInt8) (t : Bs) : skipG cm (c :: t) = if cm = true ∧ c.toNat ≠ 10 then 1 + skipG true t else if kindN c.toNat = 1 then 1 + skipG false t else if kindN c.toNat = 2 then 1 + skipG true t else 0 := rfl
theorem skipG_app : ∀ (cm : Bool) (a x : Bs), skipG cm a < a.length → skipG cm (a ++ x) = skipG cm a
  | _, [], _, h => by simp [skipG] at h
  | cm, c :: t, x, h => by
    rw [List.cons_append]
    rw [skipG_cons] at h ⊢
    rw [skipG_cons cm c t]
    rw [List.length_cons] at h
    split
    · rename_i q
      rw [if_pos q] at h
      rw [skipG_app true t x (by omega)]
    · rename_i q
      rw [if_neg q] at h
      split
      · rename_i q2
        rw [if_pos q2] at h
        rw [skipG_app false t x (by omega)]
      · rename_i q2
        rw [if_neg q2] at h
        split
        · rename_i q3
          rw [if_pos q3] at h
          rw [skipG_app true t x (by omega)]
        · rfl
theorem skipG_all : ∀ (cm : Bool) (a b : Bs), skipG cm a = a.length → skipG cm (a ++ 10 :: b) = a.length + 1 + skipG false b
  | cm, [], b, _ => by
    show skipG cm (10 :: b) = _
    rw [skipG_cons, if_neg (by simp), if_pos (by decide)]
    simp
  | cm, c :: t, b, h => by
    rw [List.cons_append]
    rw [skipG_cons] at h ⊢
    rw [List.length_cons] at h ⊢
    split
    · rename_i q
      rw [if_pos q] at h
      rw [skipG_all true t b (by omega)]
      omega
    · rename_i q
      rw [if_neg q] at h
      split
      · rename_i q2
        rw [if_pos q2] at h
        rw [skipG_all false t b (by omega)]
        omega
      · rename_i q2
        rw [if_neg q2] at h
        split
        · rename_i q3
          rw [if_pos q3] at h
          rw [skipG_all true t b (by omega)]
          omega
        · rename_i q3
          rw [if_neg q3] at h
          omega
theorem runL_app : ∀ (a b : Bs), runL (a ++ 10 :: b) = runL a
  | [], b => by
    show runL (10 :: b) = 0
    unfold runL
    rw [if_neg (by decide)]
  | c :: t, b => by
    rw [List.cons_append]
    unfold runL
    rw [runL_app t b]
theorem runOf_app (a b : Bs) : runOf (a ++ 10 :: b) = runOf a := by
  unfold runOf
  rw [runL_app, List.take_append_of_le_length (runL_le a)]
theorem quoteL_app : ∀ (a b : Bs) (i : Nat), quoteL (a ++ 10 :: b) i = quoteL a i
  | [], b, i => by
    show quoteL (10 :: b) i = none
    unfold quoteL
    rw [if_pos (by decide)]
  | c :: t, b, i => by
    rw [List.cons_append]
    unfold quoteL
    rw [quoteL_app t b (i + 1)]
theorem quoteL_in : ∀ (l : Bs) (j q : Nat), quoteL l j = some q → j ≤ q ∧ q < j + l.length
  | [], _, _, h => by cases h
  | c :: t, j, q, h => by
    unfold quoteL at h
    repeat' split at h
    · cases h
    · cases h; simp
    · have := quoteL_in t (j + 1) q h
      simp; omega
theorem endP_app {l : Bs} (h : l ≠ []) (b : Bs) : endP (l ++ 10 :: b) = endP l := by
  obtain ⟨c, t, rfl⟩ := List.exists_cons_of_ne_nil h
  have hh : ((c :: t) ++ 10 :: b).headD 0 = (c :: t).headD 0 := rfl
  have ht : textP ((c :: t) ++ 10 :: b) = textP (c :: t) := by
    unfold textP
    rw [show ((c :: t) ++ 10 :: b).drop 1 = t ++ 10 :: b from rfl, show (c :: t).drop 1 = t from rfl, quoteL_app]
    cases hq : quoteL t 0 with
    | none => rfl
    | some q =>
      have := (quoteL_in t 0 q hq).2
      simp only
      rw [List.take_append_of_le_length (by simp; omega)]
  unfold endP endK
  rw [hh, runOf_app, ht]
  rfl
theorem endP_len {c : UInt8} {t : Bs} : (endP (c :: t)).len ≤ (c :: t).length := by
  have hr := runL_le (c :: t)
  have hw : ∀ r : Bs, (wordP r).len = r.length := fun r => by unfold wordP; split <;> rfl
  have hn : ∀ r : Bs, (numP r).len = r.length := fun r => by
    unfold numP
    split
    · rfl
    · cases numL r 0 <;> rfl
  unfold endP endK
  repeat' split
  · rw [hn, runOf_len]; exact hr
  · rw [hw, runOf_len]; exact hr
  · rw [hw, runOf_len]; exact hr
  · rw [hw]; simp
  · exact Nat.zero_le _
  · unfold textP
    cases hq : quoteL ((c :: t).drop 1) 0 with
    | none => exact Nat.zero_le _
    | some q =>
      have := (quoteL_in _ 0 q hq).2
      simp only [List.drop_succ_cons, List.drop_zero] at this
      simp only
      repeat' split
      · exact Nat.zero_le _
      · simp; omega
      · simp; omega
  · simp
  · exact Nat.zero_le _

def Out.pre (ts : List PTok) : Out → Out
  | .ok us => .ok (ts ++ us)
  | .bad pre z e a => .bad (ts ++ pre) z e a
theorem Out.pre_cons (t : PTok) (ts : List PTok) (O : Out) : (O.pre ts).cons t = O.pre (t :: ts) := by cases O <;> rfl
theorem Out.pre_nil (O : Out) : O.pre [] = O := by cases O <;> rfl
def Out.then (O : Out) (R : Out) : Out :=
  match O with
  | .ok ts => R.pre ts
  | b => b
theorem Out.then_cons (t : PTok) (O R : Out) : (O.cons t).then R = (O.then R).cons t := by
  cases O with
  | ok ts => exact (Out.pre_cons t ts R).symm
  | bad pre z e a => rfl

/-- More steps than bytes change nothing. -/
theorem lexO_fuel : ∀ (n m : Nat) (l : Bs) (o : Nat), l.length < n → l.length < m → lexO n l o = lexO m l o
  | 0, _, _, _, h, _ => by omega
  | _, 0, _, _, _, h => by omega
  | n + 1, m + 1, l, o, h1, h2 => by
    unfold lexO
    have hd := List.length_drop (i := skipG false l) (l := l)
    cases hc : l.drop (skipG false l) with
    | nil => rfl
    | cons c t =>
      rw [hc] at hd
      simp only
      by_cases q0 : (endP (c :: t)).len = 0
      · rw [if_pos q0, if_pos q0]
      · rw [if_neg q0, if_neg q0]
        by_cases q1 : (endP (c :: t)).e ≠ 0
        · rw [if_pos q1, if_pos q1]
        · rw [if_neg q1, if_neg q1, lexO_fuel n m _ _ (by rw [List.length_drop]; simp only [List.length_cons] at *; omega) (by rw [List.length_drop]; simp only [List.length_cons] at *; omega)]

/-- All tokens of a text. -/
def lexA (l : Bs) (o : Nat) : Out := lexO (l.length + 1) l o
theorem lexA_of {n : Nat} {l : Bs} {o : Nat} (h : l.length < n) : lexO n l o = lexA l o := lexO_fuel _ _ _ _ h (Nat.lt_succ_self _)

theorem lexO_join : ∀ (n : Nat) (a b : Bs) (o m : Nat), a.length < n → (a ++ 10 :: b).length < m → lexO m (a ++ 10 :: b) o = (lexO n a o).then (lexA b (o + a.length + 1))
  | 0, _, _, _, _, h, _ => by omega
  | _, _, _, _, 0, _, h => by omega
  | n + 1, a, b, o, m + 1, h1, h2 => by
    have hlen : (a ++ 10 :: b).length = a.length + 1 + b.length := by simp; omega
    by_cases hg : skipG false a < a.length
    · have hd : a.drop (skipG false a) ≠ [] := fun q => by
        have := congrArg List.length q
        rw [List.length_drop] at this
        simp at this; omega
      obtain ⟨c, t, hc⟩ := List.exists_cons_of_ne_nil hd
      have e1 : (a ++ 10 :: b).drop (skipG false a) = (c :: t) ++ 10 :: b := by rw [List.drop_append_of_le_length (Nat.le_of_lt hg), hc]
      have hlc : (c :: t).length ≤ a.length := by rw [← hc, List.length_drop]; omega
      have hle := endP_len (c := c) (t := t)
      unfold lexO
      rw [skipG_app _ _ _ hg, e1, hc]
      show (if _ then _ else _) = _
      rw [show c :: List.append t (10 :: b) = (c :: t) ++ 10 :: b from rfl, endP_app (by simp)]
      by_cases q0 : (endP (c :: t)).len = 0
      · rw [if_pos q0]; simp only [if_pos q0]; rfl
      · rw [if_neg q0]; simp only [if_neg q0]
        by_cases q1 : (endP (c :: t)).e ≠ 0
        · rw [if_pos q1]; simp only [if_pos q1]; rfl
        · rw [if_neg q1]; simp only [if_neg q1]
          have hdl : ((c :: t).drop (endP (c :: t)).len).length = (c :: t).length - (endP (c :: t)).len := List.length_drop
          have hal : (c :: t).length + skipG false a = a.length := by rw [← hc, List.length_drop]; omega
          rw [Out.then_cons, List.drop_append_of_le_length hle, lexO_join n _ b _ m (by rw [hdl]; omega) (by simp only [List.length_append, hdl, List.length_cons] at *; omega)]
          rw [hdl, show o + skipG false a + (endP (c :: t)).len + ((c :: t).length - (endP (c :: t)).len) + 1 = o + a.length + 1 by omega]
    · have hga : skipG false a = a.length := by have := skipG_le false a; omega
      have e2 : lexO (n + 1) a o = .ok [] := by
        unfold lexO
        rw [hga, List.drop_length]
      rw [e2]
      show _ = Out.pre [] _
      rw [Out.pre_nil]
      unfold lexA
      rw [lexO_fuel (b.length + 1) (m + 1) b _ (by omega) (by omega)]
      unfold lexO
      rw [skipG_all _ _ _ hga]
      have e3 : (a ++ 10 :: b).drop (a.length + 1 + skipG false b) = b.drop (skipG false b) := by
        rw [List.drop_append, List.drop_eq_nil_of_le (by omega), List.nil_append, show a.length + 1 + skipG false b - a.length = skipG false b + 1 by omega]
        rfl
      rw [e3]
      have e4 : o + (a.length + 1 + skipG false b) = o + a.length + 1 + skipG false b := by omega
      rw [e4]
theorem lexA_join (a b : Bs) (o : Nat) : lexA (a ++ 10 :: b) o = (lexA a o).then (lexA b (o + a.length + 1)) := lexO_join (a.length + 1) a b o _ (by omega) (by omega)

def PTok.up (d : Nat) (t : PTok) : PTok := ⟨t.k, t.x, t.n, t.a + d⟩
def Out.up (d : Nat) : Out → Out
  | .ok ts => .ok (ts.map (PTok.up d))
  | .bad pre z e a => .bad (pre.map (PTok.up d)) z e (a + d)
theorem Out.up_cons (d : Nat) (t : PTok) (O : Out) : (O.cons t).up d = (O.up d).cons (t.up d) := by cases O <;> rfl
theorem lexO_up (d : Nat) : ∀ (n : Nat) (l : Bs) (o : Nat), lexO n l (o + d) = (lexO n l o).up d
  | 0, _, _ => rfl
  | n + 1, l, o => by
    unfold lexO
    cases hc : l.drop (skipG false l) with
    | nil => rfl
    | cons c t =>
      simp only
      by_cases q0 : (endP (c :: t)).len = 0
      · rw [if_pos q0, if_pos q0]
        show Out.bad [] true 10 _ = Out.bad [] true 10 _
        rw [show o + d + skipG false l = o + skipG false l + d by omega]
      · rw [if_neg q0, if_neg q0]
        by_cases q1 : (endP (c :: t)).e ≠ 0
        · rw [if_pos q1, if_pos q1]
          show Out.bad [] false _ _ = Out.bad [] false _ _
          rw [show o + d + skipG false l = o + skipG false l + d by omega]
        · rw [if_neg q1, if_neg q1, Out.up_cons, ← lexO_up d n, show o + d + skipG false l + (endP (c :: t)).len = o + skipG false l + (endP (c :: t)).len + d by omega, show o + d + skipG false l = o + skipG false l + d by omega]
          rfl
theorem lexA_up (l : Bs) (o d : Nat) : lexA l (o + d) = (lexA l o).up d := lexO_up d _ l o

/-- Errors are not nought, and stand inside. -/
theorem lexO_bad : ∀ (n : Nat) (l : Bs) (o : Nat) (pre : List PTok) (z : Bool) (e a : Nat), l.length < n → lexO n l o = .bad pre z e a → e ≠ 0 ∧ o ≤ a ∧ a < o + l.length ∧ pre.length + o ≤ a
  | 0, _, _, _, _, _, _, h, _ => by omega
  | n + 1, l, o, pre, z, e, a, hn, h => by
    unfold lexO at h
    cases hc : l.drop (skipG false l) with
    | nil => rw [hc] at h; cases h
    | cons c t =>
      have hd : (c :: t).length = l.length - skipG false l := by rw [← hc, List.length_drop]
      simp only [List.length_cons] at hd
      rw [hc] at h
      simp only at h
      by_cases q0 : (endP (c :: t)).len = 0
      · rw [if_pos q0] at h
        cases h
        exact ⟨by omega, by omega, by omega, by simp⟩
      · rw [if_neg q0] at h
        by_cases q1 : (endP (c :: t)).e ≠ 0
        · rw [if_pos q1] at h
          cases h
          exact ⟨q1, by omega, by omega, by simp⟩
        · rw [if_neg q1] at h
          cases hr : lexO n ((c :: t).drop (endP (c :: t)).len) (o + skipG false l + (endP (c :: t)).len) with
          | ok ts => rw [hr] at h; cases h
          | bad pre' z' e' a' =>
            rw [hr] at h
            cases h
            have hle := endP_len (c := c) (t := t)
            have := lexO_bad n _ _ pre' z e a (by rw [List.length_drop]; simp only [List.length_cons] at *; omega) hr
            rw [List.length_drop] at this
            simp only [List.length_cons] at *
            omega
/-- The places of tokens, and their numbers. -/
theorem lexO_ok : ∀ (n : Nat) (l : Bs) (o : Nat) (ts : List PTok), l.length < n → lexO n l o = .ok ts → ts.length ≤ l.length ∧ ∀ t ∈ ts, o ≤ t.a ∧ t.a < o + l.length
  | 0, _, _, _, h, _ => by omega
  | n + 1, l, o, ts, hn, h => by
    unfold lexO at h
    cases hc : l.drop (skipG false l) with
    | nil => rw [hc] at h; cases h; exact ⟨Nat.zero_le _, fun t ht => by cases ht⟩
    | cons c t =>
      have hd : (c :: t).length = l.length - skipG false l := by rw [← hc, List.length_drop]
      simp only [List.length_cons] at hd
      rw [hc] at h
      simp only at h
      by_cases q0 : (endP (c :: t)).len = 0
      · rw [if_pos q0] at h; cases h
      · rw [if_neg q0] at h
        by_cases q1 : (endP (c :: t)).e ≠ 0
        · rw [if_pos q1] at h; cases h
        · rw [if_neg q1] at h
          cases hr : lexO n ((c :: t).drop (endP (c :: t)).len) (o + skipG false l + (endP (c :: t)).len) with
          | bad pre' z' e' a' => rw [hr] at h; cases h
          | ok us =>
            rw [hr] at h
            cases h
            have hle := endP_len (c := c) (t := t)
            have ih := lexO_ok n _ _ us (by rw [List.length_drop]; simp only [List.length_cons] at *; omega) hr
            rw [List.length_drop] at ih
            simp only [List.length_cons] at *
            refine ⟨by omega, fun t' ht' => ?_⟩
            rcases List.mem_cons.1 ht' with rfl | ht'
            · exact ⟨by show o ≤ o + skipG false l; omega, by show o + skipG false l < _; omega⟩
            · have := ih.2 t' ht'
              omega

theorem lexR_ok {l : Bs} (h : (lexR l).2.1 = 0) : ∃ ts, l.length ≤ 8000 ∧ lexA l 0 = .ok ts ∧ ts.length ≤ 2000 ∧ lexR l = (ts.map PTok.tok, 0, 0) := by
  unfold lexR at h ⊢
  by_cases h8 : 8000 < l.length
  · rw [if_pos h8] at h; simp at h
  · rw [if_neg h8] at h ⊢
    cases hO : lexO (l.length + 1) l 0 with
    | bad pre z e a =>
      have := (lexO_bad _ _ _ _ _ _ _ (Nat.lt_succ_self _) hO).1
      rw [hO] at h
      simp only [res] at h
      repeat' split at h
      all_goals first | (simp at h; done) | exact absurd h this
    | ok ts =>
      rw [hO] at h
      unfold res at h
      simp only [List.length_nil, Nat.zero_add] at h
      by_cases q : ts.length ≤ 2000
      · refine ⟨ts, by omega, hO, q, ?_⟩
        unfold res
        simp only [List.length_nil, Nat.zero_add, if_pos q, List.nil_append]
      · rw [if_neg q] at h; simp at h
theorem lexR_of {l : Bs} {ts : List PTok} (h8 : l.length ≤ 8000) (h : lexA l 0 = .ok ts) (hl : ts.length ≤ 2000) : lexR l = (ts.map PTok.tok, 0, 0) := by
  unfold lexR
  rw [if_neg (by omega), show lexO (l.length + 1) l 0 = .ok ts from h]
  unfold res
  simp only [List.length_nil, Nat.zero_add, if_pos hl, List.nil_append]
def Tok.up (d : Nat) (t : Tok) : Tok := ⟨t.k, t.x, t.n, t.a + d⟩
theorem same_up (d : Nat) : ∀ l : List Tok, sameT l (l.map (Tok.up d)) d = true
  | [] => rfl
  | t :: r => by
    show (same1 t (t.up d) d && sameT r (r.map (Tok.up d)) d) = true
    rw [same_up d r]
    simp [same1, Tok.up]
theorem tok_up (d : Nat) (ts : List PTok) : (ts.map (PTok.up d)).map PTok.tok = (ts.map PTok.tok).map (Tok.up d) := by
  simp only [List.map_map]
  rfl
/-- Two sources without an error, joined by a line feed. -/
theorem lexR_join {a b : Bs} {ts us : List PTok} (ha : lexA a 0 = .ok ts) (hb : lexA b 0 = .ok us) (h8 : a.length + b.length + 1 ≤ 8000) (hl : ts.length + us.length ≤ 2000) :
    lexR (a ++ 10 :: b) = (ts.map PTok.tok ++ (us.map PTok.tok).map (Tok.up (a.length + 1)), 0, 0) := by
  have := lexA_join a b 0
  rw [ha, show 0 + a.length + 1 = 0 + (a.length + 1) by omega, lexA_up, hb] at this
  have h2 : lexA (a ++ 10 :: b) 0 = .ok (ts ++ us.map (PTok.up (a.length + 1))) := this
  rw [lexR_of (by simp; omega) h2 (by simp; omega), List.map_append, tok_up]
theorem small_of {l : Bs} {ts : List PTok} (h : lexA l 0 = .ok ts) (h8 : l.length ≤ 8000) : Small (ts.map PTok.tok) := by
  have := lexO_ok _ _ _ _ (Nat.lt_succ_self _) h
  refine ⟨by simp; omega, fun t ht => ?_⟩
  obtain ⟨u, hu, rfl⟩ := List.mem_map.1 ht
  have := this.2 u hu
  show u.a ≤ 1000000
  omega
end Go.Proofs.YtojofkjnakiliaaDoor
