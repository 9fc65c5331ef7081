/- Tokens and their texts, as plain facts on lists of bytes: a token's text is split into the token again; no condition beyond those that each theorem names. -/
import Derived.Test.YtojofkjnakiliaaDoorL18
namespace Go.Proofs.YtojofkjnakiliaaDoor
set_option linter.unusedSimpArgs false
set_option linter.unusedVariables false
open Go.RowKit Go.Maps Go.Shelf
open NmP

/-- A number, written. -/
def decL (n : Nat) : Bs := if n < 10 then [UInt8.ofNat (48 + n)] else decL (n / 10) ++ [UInt8.ofNat (48 + n % 10)]
termination_by n
decreasing_by omega
theorem decL_small {n : Nat} (h : n < 10) : decL n = [UInt8.ofNat (48 + n)] := by rw [decL, if_pos h]
theorem decL_big {n : Nat} (h : ¬ n < 10) : decL n = decL (n / 10) ++ [UInt8.ofNat (48 + n % 10)] := by rw [decL, if_neg h]

theorem numL_snoc : ∀ (r : Bs) (d : UInt8) (n : Nat), numL (r ++ [d]) n = (numL r n).bind fun m => if 1000000000 < m * 10 + (d.toNat - 48) then none else some (m * 10 + (d.toNat - 48))
  | [], d, n => by
    show numL [d] n = _
    unfold numL
    split
    · rename_i h; simp [h]
    · rename_i h; simp [h, numL]
  | c :: t, d, n => by
    rw [List.cons_append]
    unfold numL
    split
    · rfl
    · exact numL_snoc t d _
theorem of_byte {d : UInt8} (h1 : 48 ≤ d.toNat) : UInt8.ofNat (48 + (d.toNat - 48)) = d := by
  rw [show 48 + (d.toNat - 48) = d.toNat by omega, UInt8.ofNat_toNat]
theorem dec_num : ∀ (k : Nat) (r : Bs) (n : Nat), r.length = k + 1 → (∀ c ∈ r, kindN c.toNat = 3) → (k = 0 ∨ (r.headD 0).toNat ≠ 48) → numL r 0 = some n → decL n = r
  | 0, r, n, hl, hd, _, hn => by
    obtain ⟨d, rfl⟩ := List.length_eq_one_iff.1 hl
    have hk := kind3 (hd d (by simp))
    unfold numL at hn
    split at hn
    · cases hn
    · cases hn
      rw [decL_small (by omega), Nat.zero_mul, Nat.zero_add, of_byte hk.1]
  | k + 1, r, n, hl, hd, h0, hn => by
    have hne : r ≠ [] := fun q => by rw [q] at hl; simp at hl
    obtain ⟨q, d, rfl⟩ : ∃ q d, r = q ++ [d] := ⟨r.dropLast, r.getLast hne, (List.dropLast_concat_getLast hne).symm⟩
    have hql : q.length = k + 1 := by simp at hl; omega
    have hk := kind3 (hd d (by simp))
    have hqh : (q ++ [d]).headD 0 = q.headD 0 := by
      cases q with
      | nil => simp at hql
      | cons x y => rfl
    rw [numL_snoc] at hn
    cases hm : numL q 0 with
    | none => rw [hm] at hn; cases hn
    | some m =>
      rw [hm] at hn
      simp only [Option.bind_some] at hn
      split at hn
      · cases hn
      · cases hn
        have hh : (q.headD 0).toNat ≠ 48 := by
          rcases h0 with h0 | h0
          · omega
          · rwa [hqh] at h0
        have ih := dec_num k q m hql (fun c hc => hd c (by simp [hc])) (.inr hh) hm
        have hm1 : 1 ≤ m := by
          false_or_by_contra
          have : m = 0 := by omega
          subst this
          rw [decL_small (by omega)] at ih
          rw [← ih] at hh
          exact hh rfl
        have e1 : (m * 10 + (d.toNat - 48)) / 10 = m := by omega
        have e2 : (m * 10 + (d.toNat - 48)) % 10 = d.toNat - 48 := by omega
        rw [decL_big (by omega), e1, e2, ih, of_byte hk.1]

/-- What a token's text is. -/
def textT (k : Nat) (x : Bs) (n : Nat) : Bs := if k = 2 then decL n else x
/-- What may stand behind a token's text. -/
def After (m : Bs) : Prop := m = [] ∨ ∃ m', m = 32 :: m'
/-- A token that its text is split into, whatever stands behind a blank. -/
def Src (k : Nat) (x : Bs) (n : Nat) : Prop :=
  3 ≤ kindN ((textT k x n).headD 0).toNat ∧ textT k x n ≠ [] ∧ ∀ m, After m → endP (textT k x n ++ m) = ⟨k, x, n, (textT k x n).length, 0⟩

theorem runL_after {r m : Bs} (h : ∀ c ∈ r, 3 ≤ kindN c.toNat ∧ kindN c.toNat ≤ 6) (hm : After m) : runL (r ++ m) = r.length := by
  induction r with
  | nil =>
    rcases hm with rfl | ⟨m', rfl⟩
    · rfl
    · show runL (32 :: m') = 0
      unfold runL
      rw [if_neg (by decide)]
  | cons c t ih =>
    rw [List.cons_append]
    unfold runL
    rw [if_pos (h c (by simp)), ih fun d hd => h d (by simp [hd])]
    simp; omega
theorem runOf_after {r m : Bs} (h : ∀ c ∈ r, 3 ≤ kindN c.toNat ∧ kindN c.toNat ≤ 6) (hm : After m) : runOf (r ++ m) = r := by
  unfold runOf
  rw [runL_after h hm, List.take_left]
theorem runOf_mem : ∀ (l : Bs), ∀ c ∈ runOf l, 3 ≤ kindN c.toNat ∧ kindN c.toNat ≤ 6
  | [], c, h => by simp [runOf] at h
  | d :: t, c, h => by
    unfold runOf runL at h
    by_cases hd : 3 ≤ kindN d.toNat ∧ kindN d.toNat ≤ 6
    · rw [if_pos hd, Nat.add_comm 1, List.take_succ_cons] at h
      rcases List.mem_cons.1 h with rfl | h
      · exact hd
      · exact runOf_mem t c h
    · rw [if_neg hd] at h
      simp at h
theorem quoteL_after : ∀ (l m : Bs) (i q : Nat), quoteL l i = some q → quoteL (l.take (q - i + 1) ++ m) i = some q
  | [], _, _, _, h => by cases h
  | c :: t, m, i, q, h => by
    have hge := (quoteL_in _ _ _ h).1
    unfold quoteL at h
    by_cases h1 : c.toNat = 10
    · rw [if_pos h1] at h; cases h
    · rw [if_neg h1] at h
      rw [List.take_succ_cons, List.cons_append]
      unfold quoteL
      rw [if_neg h1]
      by_cases h2 : c.toNat = 34
      · rw [if_pos h2] at h ⊢
        exact h
      · rw [if_neg h2] at h ⊢
        have hge2 := (quoteL_in _ _ _ h).1
        rw [show q - i = q - (i + 1) + 1 by omega]
        exact quoteL_after t m (i + 1) q h

theorem src_of {l : Bs} (h : l ≠ []) (h0 : (endP l).len ≠ 0) (he : (endP l).e = 0) : Src (endP l).k (endP l).x (endP l).n := by
  obtain ⟨c, t, rfl⟩ := List.exists_cons_of_ne_nil h
  have hrun : 3 ≤ kindN c.toNat ∧ kindN c.toNat ≤ 6 → runOf (c :: t) = c :: t.take (runL t) := fun hk => by
    unfold runOf
    rw [show runL (c :: t) = 1 + runL t from if_pos hk, Nat.add_comm 1, List.take_succ_cons]
  have h9 := kind_le c.toNat
  have hin := runOf_mem (c :: t)
  -- a word made of the run
  have hword : 3 ≤ kindN c.toNat ∧ kindN c.toNat ≤ 6 → (∀ m, After m → endP (runOf (c :: t) ++ m) = wordP (runOf (c :: t))) → endP (c :: t) = wordP (runOf (c :: t)) → Src (endP (c :: t)).k (endP (c :: t)).x (endP (c :: t)).n := by
    intro hk hm hp
    rw [hp] at he ⊢
    unfold wordP at he hm ⊢
    by_cases h60 : (runOf (c :: t)).length ≤ 60
    · simp only [if_pos h60] at hm ⊢
      refine ⟨?_, ?_, fun m hma => hm m hma⟩
      · show 3 ≤ kindN ((runOf (c :: t)).headD 0).toNat
        rw [hrun hk]; exact hk.1
      · show runOf (c :: t) ≠ []
        rw [hrun hk]; simp
    · rw [if_neg h60] at he; cases he
  unfold endP at h0 he hword ⊢
  rw [show (c :: t).headD 0 = c from rfl] at h0 he hword ⊢
  by_cases k3 : kindN c.toNat = 3
  · have hh : ∀ m : Bs, (runOf (c :: t) ++ m).headD 0 = c := fun m => by rw [hrun (by omega)]; rfl
    by_cases ha : ((runOf (c :: t)).all fun c => kindN c.toNat = 3) = true
    · have hp : endK (kindN c.toNat) (c :: t) = numP (runOf (c :: t)) := by unfold endK; rw [if_pos k3, if_pos ha]
      have hm : ∀ m, After m → endK (kindN ((runOf (c :: t) ++ m).headD 0).toNat) (runOf (c :: t) ++ m) = numP (runOf (c :: t)) := fun m hma => by
        rw [hh]; unfold endK
        rw [if_pos k3, runOf_after hin hma, if_pos ha]
      rw [hp] at he ⊢
      have hne : runOf (c :: t) ≠ [] := by rw [hrun (by omega)]; simp
      have hhd : (runOf (c :: t)).headD 0 = c := by rw [hrun (by omega)]; rfl
      have hall : ∀ d ∈ runOf (c :: t), kindN d.toNat = 3 := fun d hd => by simpa using List.all_eq_true.1 ha d hd
      generalize runOf (c :: t) = r at *
      unfold numP at he hm ⊢
      by_cases hz : 1 < r.length ∧ (r.headD 0).toNat = 48
      · rw [if_pos hz] at he; cases he
      · simp only [if_neg hz] at he hm ⊢
        cases hn : numL r 0 with
        | none => rw [hn] at he; cases he
        | some n =>
          simp only [hn] at hm ⊢
          have hpos : 0 < r.length := List.length_pos_iff.2 hne
          have hdec : textT 2 [] n = r := by
            unfold textT
            rw [if_pos rfl]
            refine dec_num (r.length - 1) r n (by omega) hall ?_ hn
            by_cases q : 1 < r.length
            · exact .inr fun e => hz ⟨q, e⟩
            · exact .inl (by omega)
          unfold Src
          rw [hdec, hhd]
          exact ⟨by omega, hne, hm⟩
    · refine hword (by omega) (fun m hma => ?_) ?_
      · show endK (kindN ((runOf (c :: t) ++ m).headD 0).toNat) _ = _
        rw [hh]; unfold endK
        rw [if_pos k3, runOf_after hin hma, if_neg ha]
      · unfold endK; rw [if_pos k3, if_neg ha]
  · by_cases k4 : kindN c.toNat = 4 ∨ kindN c.toNat = 6
    · have hh : ∀ m : Bs, (runOf (c :: t) ++ m).headD 0 = c := fun m => by rw [hrun (by omega)]; rfl
      refine hword (by omega) (fun m hma => ?_) ?_
      · show endK (kindN ((runOf (c :: t) ++ m).headD 0).toNat) _ = _
        rw [hh]; unfold endK
        rw [if_neg k3, if_pos k4, runOf_after hin hma]
      · unfold endK; rw [if_neg k3, if_pos k4]
    · by_cases k5 : kindN c.toNat = 5
      · by_cases hd : runOf (c :: t) = [46]
        · have hp : endK (kindN c.toNat) (c :: t) = wordP [46] := by unfold endK; rw [if_neg k3, if_neg k4, if_pos k5, if_pos hd]
          rw [hp]
          refine ⟨by decide, by decide, fun m hma => ?_⟩
          show endP ([46] ++ m) = wordP [46]
          have hr : runOf ([46] ++ m) = [46] := runOf_after (fun d hd => by simp at hd; subst hd; decide) hma
          unfold endP endK
          rw [hr]
          rfl
        · exfalso
          unfold endK at h0
          rw [if_neg k3, if_neg k4, if_pos k5, if_neg hd] at h0
          exact h0 rfl
      · by_cases k7 : kindN c.toNat = 7
        · have hp : endK (kindN c.toNat) (c :: t) = textP (c :: t) := by unfold endK; rw [if_neg k3, if_neg k4, if_neg k5, if_pos k7]
          rw [hp] at h0 he ⊢
          unfold textP at h0 he ⊢
          rw [show (c :: t).drop 1 = t from rfl] at h0 he ⊢
          cases hq : quoteL t 0 with
          | none => rw [hq] at h0; exact absurd rfl h0
          | some q =>
            rw [hq] at h0 he
            simp only at h0 he ⊢
            by_cases q0 : q = 0
            · rw [if_pos q0] at h0; exact absurd rfl h0
            · rw [if_neg q0] at h0 he ⊢
              by_cases q4 : 40 < q
              · rw [if_pos q4] at he; cases he
              · rw [if_neg q4]
                have hlt := (quoteL_in _ _ _ hq).2
                have hl : ((c :: t).take (q + 2)).length = q + 2 := by rw [List.length_take]; simp; omega
                refine ⟨?_, ?_, fun m _ => ?_⟩
                · show 3 ≤ kindN (((c :: t).take (q + 2)).headD 0).toNat
                  rw [List.take_succ_cons]; show 3 ≤ kindN c.toNat; omega
                · show (c :: t).take (q + 2) ≠ []
                  rw [List.take_succ_cons]; simp
                · show endP ((c :: t).take (q + 2) ++ m) = ⟨1, (c :: t).take (q + 2), 0, ((c :: t).take (q + 2)).length, 0⟩
                  have ht : textP ((c :: t).take (q + 2) ++ m) = ⟨1, (c :: t).take (q + 2), 0, q + 2, 0⟩ := by
                    unfold textP
                    have hq2 := quoteL_after t m 0 q hq
                    rw [Nat.sub_zero] at hq2
                    rw [List.take_succ_cons, List.cons_append, show (c :: (t.take (q + 1) ++ m)).drop 1 = t.take (q + 1) ++ m from rfl, hq2]
                    simp only [if_neg q0, if_neg q4]
                    rw [List.take_succ_cons, List.take_append_of_le_length (by rw [List.length_take]; omega), List.take_take, Nat.min_self]
                  rw [hl]
                  unfold endP endK
                  rw [show ((c :: t).take (q + 2) ++ m).headD 0 = c by rw [List.take_succ_cons]; rfl, if_neg k3, if_neg k4, if_neg k5, if_pos k7, ht]
        · by_cases k8 : kindN c.toNat = 8
          · have hp : endK (kindN c.toNat) (c :: t) = ⟨3, [c], 0, 1, 0⟩ := by unfold endK; rw [if_neg k3, if_neg k4, if_neg k5, if_neg k7, if_pos k8]; rfl
            rw [hp]
            refine ⟨by show 3 ≤ kindN c.toNat; omega, by simp [textT], fun m _ => ?_⟩
            show endP (c :: m) = _
            unfold endP endK
            rw [show (c :: m).headD 0 = c from rfl, if_neg k3, if_neg k4, if_neg k5, if_neg k7, if_pos k8]
            rfl
          · exfalso
            unfold endK at h0
            rw [if_neg k3, if_neg k4, if_neg k5, if_neg k7, if_neg k8] at h0
            exact h0 rfl

/-- Each token of a text is one that its text is split into. -/
theorem lexO_src : ∀ (n : Nat) (l : Bs) (o : Nat) (ts : List PTok), lexO n l o = .ok ts → ∀ t ∈ ts, Src t.k t.x t.n
  | 0, _, _, _, h => by cases h
  | n + 1, l, o, ts, h => by
    unfold lexO at h
    cases hc : l.drop (skipG false l) with
    | nil => rw [hc] at h; cases h; intro t ht; cases ht
    | cons c t =>
      rw [hc] at h
      simp only at h
      by_cases q0 : (endP (c :: t)).len = 0
      · rw [if_pos q0] at h; cases h
      · rw [if_neg q0] at h
        by_cases q1 : (endP (c :: t)).e ≠ 0
        · rw [if_pos q1] at h; cases h
        · rw [if_neg q1] at h
          cases hr : lexO n ((c :: t).drop (endP (c :: t)).len) (o + skipG false l + (endP (c :: t)).len) with
          | bad pre' z' e' a' => rw [hr] at h; cases h
          | ok us =>
            rw [hr] at h
            cases h
            intro t' ht'
            rcases List.mem_cons.1 ht' with rfl | ht'
            · exact src_of (by simp) q0 (by simpa using q1)
            · exact lexO_src n _ _ us hr t' ht'

/-- Texts, separated by blanks. -/
def joinB : List Bs → Bs
  | [] => []
  | [r] => r
  | r :: s :: rs => r ++ 32 :: joinB (s :: rs)
def PTok.bare (t : PTok) : Nat × Bs × Nat := (t.k, t.x, t.n)
theorem skip_blank (n : Nat) (J : Bs) (o : Nat) : lexO (n + 1) (32 :: J) o = lexO (n + 1) J (o + 1) := by
  unfold lexO
  have hs : skipG false (32 :: J) = 1 + skipG false J := by rw [skipG_cons, if_neg (by simp), if_pos (by decide)]
  rw [hs, show (32 :: J).drop (1 + skipG false J) = J.drop (skipG false J) by rw [Nat.add_comm]; rfl, show o + (1 + skipG false J) = o + 1 + skipG false J by omega]
theorem lexO_joinB : ∀ (ts : List PTok) (n o : Nat), (∀ t ∈ ts, Src t.k t.x t.n) → (joinB (ts.map fun t => textT t.k t.x t.n)).length < n → ∃ us, lexO n (joinB (ts.map fun t => textT t.k t.x t.n)) o = .ok us ∧ us.map PTok.bare = ts.map PTok.bare
  | _, 0, _, _, hn => by omega
  | [], n + 1, o, _, _ => ⟨[], rfl, rfl⟩
  | t :: rest, n + 1, o, hs, hn => by
    obtain ⟨h3, hne, hm⟩ := hs t (by simp)
    -- the text, and what stands behind it
    obtain ⟨m, hma, hJ, hrest⟩ : ∃ m, After m ∧ joinB ((t :: rest).map fun t => textT t.k t.x t.n) = textT t.k t.x t.n ++ m ∧ ∀ n o, m.length < n → ∃ us, lexO n m o = .ok us ∧ us.map PTok.bare = rest.map PTok.bare := by
      cases rest with
      | nil =>
        refine ⟨[], .inl rfl, by simp [joinB], fun n o hn => ?_⟩
        obtain ⟨n, rfl⟩ : ∃ k, n = k + 1 := ⟨n - 1, by simp at hn; omega⟩
        exact ⟨[], rfl, rfl⟩
      | cons s rs =>
        refine ⟨32 :: joinB ((s :: rs).map fun t => textT t.k t.x t.n), .inr ⟨_, rfl⟩, rfl, fun n o hn => ?_⟩
        obtain ⟨n, rfl⟩ : ∃ k, n = k + 1 := ⟨n - 1, by simp at hn; omega⟩
        rw [skip_blank]
        exact lexO_joinB (s :: rs) (n + 1) (o + 1) (fun t ht => hs t (by simp [ht])) (by simp only [List.length_cons] at hn; omega)
    rw [hJ] at hn ⊢
    have hE := hm m hma
    generalize textT t.k t.x t.n = r at *
    obtain ⟨c, q, rfl⟩ := List.exists_cons_of_ne_nil hne
    have hsk : skipG false ((c :: q) ++ m) = 0 := by
      rw [List.cons_append, skipG_cons, if_neg (by simp), if_neg (by simp at h3; omega), if_neg (by simp at h3; omega)]
    obtain ⟨us, hu1, hu2⟩ := hrest n (o + 0 + (c :: q).length) (by simp at hn; omega)
    refine ⟨⟨t.k, t.x, t.n, o + 0⟩ :: us, ?_, by simp [hu2, PTok.bare]⟩
    unfold lexO
    rw [hsk, List.drop_zero]
    show (if _ then _ else _) = _
    rw [show c :: List.append q m = (c :: q) ++ m from rfl, hE, if_neg (by simp), if_neg (by simp)]
    simp only
    rw [List.drop_left, hu1]
    rfl
end Go.Proofs.YtojofkjnakiliaaDoor
