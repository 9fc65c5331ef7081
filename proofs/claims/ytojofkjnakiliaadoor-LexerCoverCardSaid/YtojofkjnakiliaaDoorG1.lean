/- A gap that is inserted ahead of a token or at the end of a text, as plain facts on lists of bytes; no condition beyond those that each theorem names. -/
import Derived.Test.YtojofkjnakiliaaDoorL19
namespace Go.Proofs.YtojofkjnakiliaaDoor
set_option linter.unusedSimpArgs false
set_option linter.unusedVariables false
open Go.RowKit Go.Maps Go.Shelf
open NmP

/-- A text that begins with no byte of a run. -/
def Stop (m : Bs) : Prop := ∀ c m', m = c :: m' → ¬ (3 ≤ kindN c.toNat ∧ kindN c.toNat ≤ 6)
theorem runL_stop {r m : Bs} (h : ∀ c ∈ r, 3 ≤ kindN c.toNat ∧ kindN c.toNat ≤ 6) (hm : Stop m) : runL (r ++ m) = r.length := by
  induction r with
  | nil =>
    cases m with
    | nil => rfl
    | cons c m' =>
      show runL (c :: m') = 0
      unfold runL
      rw [if_neg (hm c m' rfl)]
  | cons c t ih =>
    rw [List.cons_append]
    unfold runL
    rw [if_pos (h c (by simp)), ih fun d hd => h d (by simp [hd])]
    simp; omega
theorem runOf_stop {r m : Bs} (h : ∀ c ∈ r, 3 ≤ kindN c.toNat ∧ kindN c.toNat ≤ 6) (hm : Stop m) : runOf (r ++ m) = r := by
  unfold runOf
  rw [runL_stop h hm, List.take_left]
theorem stop_run : ∀ l : Bs, Stop (l.drop (runL l))
  | [] => fun c m' h => by simp [runL] at h
  | d :: t => fun c m' h => by
    unfold runL at h
    by_cases hd : 3 ≤ kindN d.toNat ∧ kindN d.toNat ≤ 6
    · rw [if_pos hd, Nat.add_comm 1, List.drop_succ_cons] at h
      exact stop_run t c m' h
    · rw [if_neg hd] at h
      cases h
      exact hd
theorem word_len (r : Bs) : (wordP r).len = r.length := by unfold wordP; split <;> rfl
theorem num_len (r : Bs) : (numP r).len = r.length := by
  unfold numP
  split
  · rfl
  · cases numL r 0 <;> rfl

/-- A token does not hang on what stands behind it, but that a run must stop. -/
theorem end_local {c : UInt8} {t m : Bs} (h0 : (endP (c :: t)).len ≠ 0) (hm : 3 ≤ kindN c.toNat ∧ kindN c.toNat ≤ 6 → Stop m) :
    endP ((c :: t).take (endP (c :: t)).len ++ m) = endP (c :: t) ∧ (3 ≤ kindN c.toNat ∧ kindN c.toNat ≤ 6 → (endP (c :: t)).len = runL (c :: t)) := by
  have h9 := kind_le c.toNat
  have hin := runOf_mem (c :: t)
  have hh : (c :: t).headD 0 = c := rfl
  have hrun : 3 ≤ kindN c.toNat ∧ kindN c.toNat ≤ 6 → runOf (c :: t) = c :: t.take (runL t) := fun hk => by
    unfold runOf
    rw [show runL (c :: t) = 1 + runL t from if_pos hk, Nat.add_comm 1, List.take_succ_cons]
  have hgo : 3 ≤ kindN c.toNat ∧ kindN c.toNat ≤ 6 → (endP (c :: t)).len = runL (c :: t) → endP ((c :: t).take (endP (c :: t)).len ++ m) = endP (c :: t) := fun hk hl => by
    rw [hl]
    show endP (runOf (c :: t) ++ m) = _
    have hr : runOf (runOf (c :: t) ++ m) = runOf (c :: t) := runOf_stop hin (hm hk)
    have hd : (runOf (c :: t) ++ m).headD 0 = c := by rw [hrun hk]; rfl
    unfold endP endK
    rw [hd, hr, hh, if_neg (show ¬ kindN c.toNat = 7 by omega), if_neg (show ¬ kindN c.toNat = 8 by omega), if_neg (show ¬ kindN c.toNat = 7 by omega), if_neg (show ¬ kindN c.toNat = 8 by omega)]
  by_cases hk : 3 ≤ kindN c.toNat ∧ kindN c.toNat ≤ 6
  · have hl : (endP (c :: t)).len = runL (c :: t) := by
      unfold endP endK at h0 ⊢
      rw [hh] at h0 ⊢
      by_cases k3 : kindN c.toNat = 3
      · rw [if_pos k3]
        split
        · rw [num_len, runOf_len]
        · rw [word_len, runOf_len]
      · rw [if_neg k3] at h0 ⊢
        by_cases k4 : kindN c.toNat = 4 ∨ kindN c.toNat = 6
        · rw [if_pos k4, word_len, runOf_len]
        · rw [if_neg k4, if_pos (show kindN c.toNat = 5 by omega)] at h0 ⊢
          by_cases hd : runOf (c :: t) = [46]
          · rw [if_pos hd, word_len, ← runOf_len, hd]
          · rw [if_neg hd] at h0; exact absurd rfl h0
    exact ⟨hgo hk hl, fun _ => hl⟩
  · refine ⟨?_, fun q => absurd q hk⟩
    by_cases k7 : kindN c.toNat = 7
    · have hp : endP (c :: t) = textP (c :: t) := by
        show endK (kindN c.toNat) (c :: t) = _
        rw [k7]; rfl
      rw [hp] at h0 ⊢
      have ht : textP ((c :: t).take (textP (c :: t)).len ++ m) = textP (c :: t) := by
        unfold textP at h0 ⊢
        rw [show (c :: t).drop 1 = t from rfl] at h0 ⊢
        cases hq : quoteL t 0 with
        | none => rw [hq] at h0; exact absurd rfl h0
        | some q =>
          rw [hq] at h0
          simp only at h0 ⊢
          by_cases q0 : q = 0
          · rw [if_pos q0] at h0; exact absurd rfl h0
          · simp only [if_neg q0]
            have hlt := (quoteL_in _ _ _ hq).2
            have hq2 := quoteL_after t m 0 q hq
            rw [Nat.sub_zero] at hq2
            have hl2 : (if 40 < q then (⟨0, [], 0, q + 2, 3⟩ : PT) else ⟨1, (c :: t).take (q + 2), 0, q + 2, 0⟩).len = q + 2 := by split <;> rfl
            rw [hl2, List.take_succ_cons, List.cons_append, show (c :: (t.take (q + 1) ++ m)).drop 1 = t.take (q + 1) ++ m from rfl, hq2]
            simp only [if_neg q0]
            rw [List.take_succ_cons, List.take_append_of_le_length (by rw [List.length_take]; omega), List.take_take, Nat.min_self]
      have hd : ((c :: t).take (textP (c :: t)).len ++ m).headD 0 = c := by
        obtain ⟨x, hx⟩ : ∃ x, (textP (c :: t)).len = x + 1 := ⟨_, (Nat.succ_pred_eq_of_ne_zero h0).symm⟩
        rw [hx, List.take_succ_cons]; rfl
      show endK (kindN (((c :: t).take (textP (c :: t)).len ++ m).headD 0).toNat) _ = _
      rw [hd, k7]
      exact ht
    · by_cases k8 : kindN c.toNat = 8
      · have hp : endP (c :: t) = ⟨3, [c], 0, 1, 0⟩ := by
          show endK (kindN c.toNat) (c :: t) = _
          rw [k8]; rfl
        rw [hp]
        show endK (kindN c.toNat) (c :: m) = _
        rw [k8]; rfl
      · exfalso
        apply h0
        show (endK (kindN c.toNat) (c :: t)).len = 0
        unfold endK
        rw [if_neg (show ¬ kindN c.toNat = 3 by omega), if_neg (show ¬ (kindN c.toNat = 4 ∨ kindN c.toNat = 6) by omega), if_neg (show ¬ kindN c.toNat = 5 by omega), if_neg k7, if_neg k8]
        rfl

theorem take3 (A B R : Bs) (j : Nat) : (A ++ (B ++ R)).take (A.length + B.length + j) = A ++ (B ++ R.take j) := by
  rw [Nat.add_assoc, List.take_length_add_append, List.take_length_add_append]
/-- Gaps ahead of a token, and behind them whatever. -/
theorem skip_front : ∀ (cm : Bool) (l y : Bs), skipG cm l < l.length → skipG cm (l.take (skipG cm l) ++ y) = skipG cm l + skipG false y
  | _, [], _, h => by simp [skipG] at h
  | cm, c :: t, y, h => by
    rw [skipG_cons] at h ⊢
    rw [List.length_cons] at h
    by_cases q1 : cm = true ∧ c.toNat ≠ 10
    · rw [if_pos q1] at h ⊢
      rw [Nat.add_comm 1, List.take_succ_cons, List.cons_append, skipG_cons, if_pos q1, skip_front true t y (by omega)]
      omega
    · rw [if_neg q1] at h ⊢
      by_cases q2 : kindN c.toNat = 1
      · rw [if_pos q2] at h ⊢
        rw [Nat.add_comm 1, List.take_succ_cons, List.cons_append, skipG_cons, if_neg q1, if_pos q2, skip_front false t y (by omega)]
        omega
      · rw [if_neg q2] at h ⊢
        by_cases q3 : kindN c.toNat = 2
        · rw [if_pos q3] at h ⊢
          rw [Nat.add_comm 1, List.take_succ_cons, List.cons_append, skipG_cons, if_neg q1, if_neg q2, if_pos q3, skip_front true t y (by omega)]
          omega
        · rw [if_neg q3]
          have hcm : cm = false := by
            cases cm
            · rfl
            · exfalso
              have hc : c.toNat = 10 := by
                false_or_by_contra
                rename_i q; exact q1 ⟨rfl, q⟩
              rw [hc] at q2
              exact q2 rfl
          rw [hcm, List.take_zero, List.nil_append, Nat.zero_add]
theorem skip_done {l : Bs} (h : skipG false l < l.length) : skipG false (l.drop (skipG false l)) = 0 := by
  have := skip_front false l (l.drop (skipG false l)) h
  rw [List.take_append_drop] at this
  omega
/-- The state in which a gap ends. -/
def endsIn : Bool → Bs → Bool
  | cm, [] => cm
  | cm, c :: t => if cm = true ∧ c.toNat ≠ 10 then endsIn true t else if kindN c.toNat = 1 then endsIn false t else if kindN c.toNat = 2 then endsIn true t else cm
theorem skip_whole : ∀ (cm : Bool) (l y : Bs), skipG cm l = l.length → skipG cm (l ++ y) = l.length + skipG (endsIn cm l) y
  | cm, [], y, _ => by simp [endsIn]
  | cm, c :: t, y, h => by
    rw [List.cons_append]
    rw [skipG_cons] at h ⊢
    rw [List.length_cons] at h ⊢
    unfold endsIn
    by_cases q1 : cm = true ∧ c.toNat ≠ 10
    · rw [if_pos q1] at h ⊢
      rw [if_pos q1, skip_whole true t y (by omega)]; omega
    · rw [if_neg q1] at h ⊢
      rw [if_neg q1]
      by_cases q2 : kindN c.toNat = 1
      · rw [if_pos q2] at h ⊢
        rw [if_pos q2, skip_whole false t y (by omega)]; omega
      · rw [if_neg q2] at h ⊢
        rw [if_neg q2]
        by_cases q3 : kindN c.toNat = 2
        · rw [if_pos q3] at h ⊢
          rw [if_pos q3, skip_whole true t y (by omega)]; omega
        · rw [if_neg q3] at h
          omega

/-- What may be inserted. -/
structure Gap (G : Bs) : Prop where
  mid : ∀ y, skipG false (G ++ y) = G.length + skipG false y
  fin : ∀ cm, skipG cm G = G.length
  ne : G ≠ []
  stop : Stop G

/-- Where the token of a number begins; behind the last one: the end. -/
def placeOf (ts : List PTok) (k o n : Nat) : Nat := match ts[k]? with | some t => t.a - o | none => n

theorem lexO_ins {G : Bs} (hG : Gap G) : ∀ (n : Nat) (l : Bs) (o : Nat) (ts : List PTok) (k m : Nat), lexO n l o = .ok ts → l.length < n → k ≤ ts.length → l.length + G.length < m →
    placeOf ts k o l.length ≤ l.length ∧ lexO m (l.take (placeOf ts k o l.length) ++ (G ++ l.drop (placeOf ts k o l.length))) o = .ok (ts.take k ++ (ts.drop k).map (PTok.up G.length))
  | 0, _, _, _, _, _, _, h, _, _ => by omega
  | _, _, _, _, _, 0, _, _, _, h => by omega
  | n + 1, l, o, ts, k, m + 1, h, hl, hk, hm => by
    have hgl := skipG_le false l
    unfold lexO at h
    cases hc : l.drop (skipG false l) with
    | nil =>
      rw [hc] at h
      cases h
      obtain rfl : k = 0 := by simpa using hk
      have hg : skipG false l = l.length := by
        have := congrArg List.length hc
        rw [List.length_drop] at this
        simp at this; omega
      have hp : placeOf [] 0 o l.length = l.length := rfl
      rw [hp, List.take_length, List.drop_length, List.append_nil]
      refine ⟨Nat.le_refl _, ?_⟩
      unfold lexO
      rw [skip_whole _ _ _ hg, hG.fin, List.drop_eq_nil_of_le (by simp)]
      rfl
    | cons c t =>
      have hd : (c :: t).length = l.length - skipG false l := by rw [← hc, List.length_drop]
      have hlt : skipG false l < l.length := by simp only [List.length_cons] at hd; omega
      have hle := endP_len (c := c) (t := t)
      have hsd := skip_done hlt
      rw [hc] at h hsd
      simp only at h
      by_cases q0 : (endP (c :: t)).len = 0
      · rw [if_pos q0] at h; cases h
      · rw [if_neg q0] at h
        by_cases q1 : (endP (c :: t)).e ≠ 0
        · rw [if_pos q1] at h; cases h
        · rw [if_neg q1] at h
          cases hr : lexO n ((c :: t).drop (endP (c :: t)).len) (o + skipG false l + (endP (c :: t)).len) with
          | bad pre' z' e' a' => rw [hr] at h; cases h
          | ok us =>
            rw [hr] at h
            cases h
            have hrl : ((c :: t).drop (endP (c :: t)).len).length = (c :: t).length - (endP (c :: t)).len := List.length_drop
            cases k with
            | zero =>
              have hp : placeOf (⟨(endP (c :: t)).k, (endP (c :: t)).x, (endP (c :: t)).n, o + skipG false l⟩ :: us) 0 o l.length = skipG false l := by
                show o + skipG false l - o = _; omega
              rw [hp]
              refine ⟨hgl, ?_⟩
              have hs : skipG false (l.take (skipG false l) ++ (G ++ (c :: t))) = skipG false l + G.length := by
                rw [skip_front _ _ _ hlt, hG.mid, hsd]; omega
              have hdr : (l.take (skipG false l) ++ (G ++ (c :: t))).drop (skipG false l + G.length) = c :: t := by
                rw [← List.append_assoc, List.drop_append, List.drop_eq_nil_of_le (by rw [List.length_append, List.length_take]; omega), List.nil_append]
                rw [show skipG false l + G.length - (l.take (skipG false l) ++ G).length = 0 by rw [List.length_append, List.length_take]; omega]
                rfl
              rw [hc]
              unfold lexO
              rw [hs, hdr]
              simp only [if_neg q0, if_neg q1]
              rw [show o + (skipG false l + G.length) + (endP (c :: t)).len = o + skipG false l + (endP (c :: t)).len + G.length by omega, lexO_up, lexO_fuel m n _ _ (by rw [hrl]; simp only [List.length_cons] at *; omega) (by rw [hrl]; simp only [List.length_cons] at *; omega), hr]
              show Out.ok _ = Out.ok _
              rw [show o + (skipG false l + G.length) = o + skipG false l + G.length by omega]
              rfl
            | succ k =>
              have hk' : k ≤ us.length := by simpa using hk
              have hplaces := lexO_ok _ _ _ _ (by rw [hrl]; simp only [List.length_cons] at *; omega) hr
              obtain ⟨hple, ih⟩ := lexO_ins hG n ((c :: t).drop (endP (c :: t)).len) (o + skipG false l + (endP (c :: t)).len) us k m hr (by rw [hrl]; simp only [List.length_cons] at *; omega) hk' (by rw [hrl]; simp only [List.length_cons] at *; omega)
              generalize hrest : (c :: t).drop (endP (c :: t)).len = rest at *
              have hct : c :: t = (c :: t).take (endP (c :: t)).len ++ rest := by rw [← hrest, List.take_append_drop]
              have hp : placeOf (⟨(endP (c :: t)).k, (endP (c :: t)).x, (endP (c :: t)).n, o + skipG false l⟩ :: us) (k + 1) o l.length = skipG false l + (endP (c :: t)).len + placeOf us k (o + skipG false l + (endP (c :: t)).len) rest.length := by
                unfold placeOf
                rw [List.getElem?_cons_succ]
                cases hu : us[k]? with
                | none => show l.length = _ + rest.length; rw [hrl]; simp only [List.length_cons] at *; omega
                | some u =>
                  have := (hplaces.2 u (List.mem_of_getElem? hu)).1
                  show u.a - o = _ + (u.a - _)
                  omega
              rw [hp]
              generalize placeOf us k (o + skipG false l + (endP (c :: t)).len) rest.length = j at *
              have htl : ((c :: t).take (endP (c :: t)).len).length = (endP (c :: t)).len := by rw [List.length_take]; omega
              -- the text in four pieces
              have hl4 : l = l.take (skipG false l) ++ ((c :: t).take (endP (c :: t)).len ++ rest) := by rw [← hct, ← hc, List.take_append_drop]
              have htk : l.take (skipG false l + (endP (c :: t)).len + j) = l.take (skipG false l) ++ ((c :: t).take (endP (c :: t)).len ++ rest.take j) := by
                have h3 := take3 (l.take (skipG false l)) ((c :: t).take (endP (c :: t)).len) rest j
                rw [← hl4, htl, List.length_take, Nat.min_eq_left hgl] at h3
                exact h3
              have hdk : l.drop (skipG false l + (endP (c :: t)).len + j) = rest.drop j := by
                rw [Nat.add_assoc, ← List.drop_drop, hc, ← List.drop_drop, hrest]
              rw [htk, hdk]
              refine ⟨by rw [hrl] at hple; simp only [List.length_cons] at *; omega, ?_⟩
              have hassoc : l.take (skipG false l) ++ ((c :: t).take (endP (c :: t)).len ++ rest.take j) ++ (G ++ rest.drop j) = l.take (skipG false l) ++ ((c :: t).take (endP (c :: t)).len ++ (rest.take j ++ (G ++ rest.drop j))) := by
                simp only [List.append_assoc]
              rw [hassoc]
              have hstop : 3 ≤ kindN c.toNat ∧ kindN c.toNat ≤ 6 → Stop (rest.take j ++ (G ++ rest.drop j)) := fun hkk => by
                have hlr := (end_local q0 (m := []) (fun _ c m' h => by cases h)).2 hkk
                have hsr : Stop rest := by rw [← hrest, hlr]; exact stop_run _
                intro d m' hdm
                cases j with
                | zero =>
                  rw [List.take_zero, List.nil_append] at hdm
                  obtain ⟨g0, G', hg⟩ := List.exists_cons_of_ne_nil hG.ne
                  rw [hg] at hdm
                  cases hdm
                  exact hG.stop _ _ hg
                | succ j =>
                  cases hrr : rest with
                  | nil => rw [hrr] at hple; simp at hple
                  | cons x y =>
                    rw [hrr, List.take_succ_cons] at hdm
                    cases hdm
                    exact hsr _ _ hrr
              have hloc := (end_local q0 hstop).1
              obtain ⟨p, hpl⟩ : ∃ p, (endP (c :: t)).len = p + 1 := ⟨_, (Nat.succ_pred_eq_of_ne_zero q0).symm⟩
              have hcons : (c :: t).take (endP (c :: t)).len ++ (rest.take j ++ (G ++ rest.drop j)) = c :: (t.take p ++ (rest.take j ++ (G ++ rest.drop j))) := by
                rw [hpl, List.take_succ_cons]; rfl
              have hs0 : skipG false (c :: (t.take p ++ (rest.take j ++ (G ++ rest.drop j)))) = 0 := by
                rw [skipG_cons] at hsd ⊢
                by_cases z1 : kindN c.toNat = 1
                · rw [if_neg (by simp), if_pos z1] at hsd; omega
                · by_cases z2 : kindN c.toNat = 2
                  · rw [if_neg (by simp), if_neg z1, if_pos z2] at hsd; omega
                  · rw [if_neg (by simp), if_neg z1, if_neg z2]
              have hs : skipG false (l.take (skipG false l) ++ ((c :: t).take (endP (c :: t)).len ++ (rest.take j ++ (G ++ rest.drop j)))) = skipG false l := by
                rw [skip_front _ _ _ hlt, hcons, hs0]; rfl
              unfold lexO
              rw [hs, List.drop_append_of_le_length (by rw [List.length_take]; omega), List.drop_eq_nil_of_le (by rw [List.length_take]; omega), List.nil_append, hcons]
              show (if _ then _ else _) = _
              rw [← hcons, hloc, if_neg q0, if_neg q1, List.drop_append_of_le_length (by omega), List.drop_eq_nil_of_le (by omega), List.nil_append, ih]
              rfl
end Go.Proofs.YtojofkjnakiliaaDoor
