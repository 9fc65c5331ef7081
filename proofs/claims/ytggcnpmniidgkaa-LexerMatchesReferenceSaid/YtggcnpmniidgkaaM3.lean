/- The contract of Token of the reference of package lexer; no condition beyond those that each theorem names. -/
import Derived.Test.YtggcnpmniidgkaaM2
namespace Go.Proofs.Ytggcnpmniidgkaa
open Go.RowKit Go.Maps Go.Shelf
open NmP

/-- What the reference makes of a token's text. -/
def tokP (r : Bs) : PT :=
  if kindN (r.headD 0).toNat = 8 then ⟨3, r, 0, r.length, 0⟩
  else if (r.headD 0).toNat = 34 then (if 42 < r.length then ⟨0, [], 0, r.length, 3⟩ else ⟨1, r, 0, r.length, 0⟩)
  else if r.all (fun c => kindN c.toNat = 3) then numP r else wordP r
theorem tok_of {l : Bs} (h : l ≠ []) (h0 : (endP l).len ≠ 0) : tokP (l.take (endP l).len) = endP l := by
  obtain ⟨c, t, rfl⟩ := List.exists_cons_of_ne_nil h
  have hh : (c :: t).headD 0 = c := rfl
  have hw : ∀ r : Bs, (wordP r).len = r.length := fun r => by unfold wordP; split <;> rfl
  have hn : ∀ r : Bs, (numP r).len = r.length := fun r => by
    unfold numP
    split
    · rfl
    · cases numL r 0 <;> rfl
  have h9 := kind_le c.toNat
  have hrun : 3 ≤ kindN c.toNat ∧ kindN c.toNat ≤ 6 → runOf (c :: t) = c :: t.take (runL t) := fun hk => by
    unfold runOf
    rw [show runL (c :: t) = 1 + runL t from if_pos hk, Nat.add_comm 1, List.take_succ_cons]
  unfold endP endK at h0 ⊢
  rw [hh] at h0 ⊢
  by_cases k3 : kindN c.toNat = 3
  · rw [if_pos k3] at h0 ⊢
    have hr := hrun (by omega)
    have h34 : ¬ c.toNat = 34 := fun e => by rw [e] at k3; revert k3; decide
    by_cases ha : ((runOf (c :: t)).all fun c => kindN c.toNat = 3) = true
    · rw [if_pos ha, hn, runOf_len]
      show tokP (runOf (c :: t)) = _
      unfold tokP
      rw [if_pos ha, hr, show (c :: t.take (runL t)).headD 0 = c from rfl, if_neg (by omega), if_neg h34]
    · rw [if_neg ha, hw, runOf_len]
      show tokP (runOf (c :: t)) = _
      unfold tokP
      rw [if_neg ha, hr, show (c :: t.take (runL t)).headD 0 = c from rfl, if_neg (by omega), if_neg h34]
  · rw [if_neg k3] at h0 ⊢
    by_cases k4 : kindN c.toNat = 4 ∨ kindN c.toNat = 6
    · rw [if_pos k4] at h0 ⊢
      have hr := hrun (by omega)
      have h34 : ¬ c.toNat = 34 := fun e => by rw [e] at k4; revert k4; decide
      rw [hw, runOf_len]
      show tokP (runOf (c :: t)) = _
      unfold tokP
      rw [hr, show (c :: t.take (runL t)).headD 0 = c from rfl, if_neg (by omega), if_neg h34, if_neg (by simp [k3])]
    · rw [if_neg k4] at h0 ⊢
      by_cases k5 : kindN c.toNat = 5
      · rw [if_pos k5] at h0 ⊢
        by_cases hd : runOf (c :: t) = [46]
        · rw [if_pos hd, hw]
          have hc : c = 46 := by
            rw [hrun (by omega)] at hd
            exact (List.cons.inj hd).1
          subst hc
          rfl
        · rw [if_neg hd] at h0
          exact absurd rfl h0
      · rw [if_neg k5] at h0 ⊢
        by_cases k7 : kindN c.toNat = 7
        · rw [if_pos k7] at h0 ⊢
          have h34 := (kind_7 _).1 k7
          unfold textP at h0 ⊢
          rw [show (c :: t).drop 1 = t from rfl] at h0 ⊢
          cases hq : quoteL t 0 with
          | none => rw [hq] at h0; exact absurd rfl h0
          | some q =>
            rw [hq] at h0
            have hin := (quoteL_in _ _ _ hq).2
            simp only at h0 ⊢
            by_cases q0 : q = 0
            · rw [if_pos q0] at h0; exact absurd rfl h0
            · rw [if_neg q0]
              have hl : ((c :: t).take (q + 2)).length = q + 2 := by rw [List.length_take]; simp; omega
              have hc : ((c :: t).take (q + 2)).headD 0 = c := rfl
              by_cases q4 : 40 < q
              · rw [if_pos q4]
                show tokP ((c :: t).take (q + 2)) = _
                unfold tokP
                rw [hc, hl, if_neg (by omega), if_pos h34, if_pos (by omega)]
              · rw [if_neg q4]
                show tokP ((c :: t).take (q + 2)) = _
                unfold tokP
                rw [hc, hl, if_neg (by omega), if_pos h34, if_neg (by omega)]
        · rw [if_neg k7] at h0 ⊢
          by_cases k8 : kindN c.toNat = 8
          · rw [if_pos k8]
            show tokP [c] = ⟨3, [c], 0, 1, 0⟩
            unfold tokP
            rw [show ([c] : Bs).headD 0 = c from rfl, if_pos k8]
            rfl
          · rw [if_neg k8] at h0
            exact absurd rfl h0

/-- The token as the reference returns it, with its place if there is no error. -/
def PT.ref (p : PT) (a : Nat) : Value := .tuple #[.agg #[.int .i64 (p.k : Int), .string (ofL p.x), .int .i64 (p.n : Int), .int .i64 ((if p.e = 0 then a else 0 : Nat) : Int)], .int .i64 (p.e : Int)]

theorem numL_le : ∀ (l : Bs) (n m : Nat), n ≤ 1000000000 → numL l n = some m → m ≤ 1000000000
  | [], n, m, h, e => by cases e; exact h
  | c :: t, n, m, h, e => by
    unfold numL at e
    split at e
    · cases e
    · exact numL_le t _ m (by omega) e

set_option maxHeartbeats 2000000 in
set_option maxRecDepth 100000 in
theorem token_any (x : ByteArray) (a : Nat) (w : World) (hx : x.size ≤ 100000) (h0 : 0 < x.size) :
    Calls Try.prog 49 #[.string x, .int .i64 a] w fun e w' => e = .returned ((tokP x.toList).ref a) ∧ Below w.heap.size w w' := by
  have hh : (x.toList.headD 0).toNat = x[0].toNat := by
    have := drop_cons h0
    rw [List.drop_zero] at this
    rw [this]; rfl
  have hlen : x.toList.length = x.size := tl_len x
  have hox : ofL x.toList = x := (eq_ofL rfl).symm
  have hT : tokP x.toList = if kindN x[0].toNat = 8 then ⟨3, x.toList, 0, x.size, 0⟩ else if x[0].toNat = 34 then (if 42 < x.size then ⟨0, [], 0, x.size, 3⟩ else ⟨1, x.toList, 0, x.size, 0⟩) else if x.toList.all (fun c => kindN c.toNat = 3) then numP x.toList else wordP x.toList := by
    unfold tokP; rw [hh, hlen]
  have hB : Below w.heap.size w (w.alloc (.cells tokZ 31)) := (Below.refl _ w).alloc (Nat.le_refl _) _
  have HT := TC_new w 31
  unfold tokZ at hB HT
  obtain ⟨⟨c0, f0⟩, ⟨c1, f1⟩, ⟨c2, f2⟩, ⟨c3, f3⟩⟩ := HT
  by_cases k8 : kindN x[0].toNat = 8
  · have hP : (tokP x.toList).ref a = .tuple #[.agg #[.int .i64 3, .string x, .int .i64 0, .int .i64 a], .int .i64 0] := by
      rw [hT, if_pos k8]; simp [PT.ref, hox]
    rw [hP]
    have HS := Lib.hid (fun W => sign1_true _ k8 W)
    clear hT k8 hP hh hlen hox
    go_enter Try.func49, Try.ntmps49
    go_wp2_with (go_at_call 82; refine (HS.out _).mono ?_; rintro e w1 ⟨rfl, rfl⟩)
    refine bodyPost_ret (v := .tuple #[.agg #[.int .i64 3, .string x, .int .i64 0, .int .i64 a], .int .i64 0]) (by simp [results, Try.f49, go_sem, c0, c1, c2, c3]) rfl ⟨rfl, ?_⟩
    first | exact below_1 w _ | exact hB | exact below_tok hB
  · rw [if_neg k8] at hT
    have HS := Lib.hid (fun W => sign1_false _ k8 W)
    by_cases k7 : x[0].toNat = 34
    · rw [if_pos k7] at hT
      have hq : ((x[0].toNat : Int) == 34) = true := by rw [beq_iff_eq]; omega
      by_cases hl : 42 < x.size
      · have hP : (tokP x.toList).ref a = .tuple #[.agg #[.int .i64 0, .string ⟨#[]⟩, .int .i64 0, .int .i64 0], .int .i64 3] := by
          rw [hT, if_pos hl]; simp [PT.ref, ofL]
        rw [hP]
        clear hT k8 k7 hP hh hlen hox
        go_enter Try.func49, Try.ntmps49
        go_wp2_with (go_at_call 82; refine (HS.out _).mono ?_; rintro e w1 ⟨rfl, rfl⟩)
        refine bodyPost_ret (v := .tuple #[.agg #[.int .i64 0, .string ⟨#[]⟩, .int .i64 0, .int .i64 0], .int .i64 3]) (by simp [results, Try.f49, go_sem, c0, c1, c2, c3]) rfl ⟨rfl, ?_⟩
        first | exact below_1 w _ | exact hB | exact below_tok hB
      · have hP : (tokP x.toList).ref a = .tuple #[.agg #[.int .i64 1, .string x, .int .i64 0, .int .i64 a], .int .i64 0] := by
          rw [hT, if_neg hl]; simp [PT.ref, hox]
        rw [hP]
        clear hT k8 k7 hP hh hlen hox
        go_enter Try.func49, Try.ntmps49
        go_wp2_with (go_at_call 82; refine (HS.out _).mono ?_; rintro e w1 ⟨rfl, rfl⟩)
        refine bodyPost_ret (v := .tuple #[.agg #[.int .i64 1, .string x, .int .i64 0, .int .i64 a], .int .i64 0]) (by simp [results, Try.f49, go_sem, c0, c1, c2, c3]) rfl ⟨rfl, ?_⟩
        first | exact below_1 w _ | exact hB | exact below_tok hB
    · rw [if_neg k7] at hT
      have hq : ((x[0].toNat : Int) == 34) = false := beq_eq_false_iff_ne.2 (by omega)
      obtain ⟨R, hR, hD⟩ := digits_any x (w.alloc (.cells #[.int .i64 0, .string ⟨#[]⟩, .int .i64 0, .int .i64 0] 31)) (by unfold maxLen; omega) h0
      have hall : (x.toList.all (fun c => kindN c.toNat = 3)) = R := by
        rw [Bool.eq_iff_iff, hR, List.all_eq_true]
        constructor
        · intro q j hj
          have h2 := tl_get _ j hj
          simpa using q _ (List.mem_of_getElem? h2)
        · intro q c hc
          obtain ⟨j, hj, rfl⟩ := List.mem_iff_getElem.1 hc
          rw [tl_len] at hj
          have h2 := tl_get _ j hj
          rw [List.getElem?_eq_getElem (by rw [tl_len]; exact hj)] at h2
          rw [Option.some.inj h2]
          simpa using q j hj
      rw [hall] at hT
      have HD := Lib.hid hD
      clear hD hall
      cases R
      · rw [if_neg (by simp)] at hT
        unfold wordP at hT
        rw [hlen] at hT
        by_cases hl : x.size ≤ 60
        · have hP : (tokP x.toList).ref a = .tuple #[.agg #[.int .i64 1, .string x, .int .i64 0, .int .i64 a], .int .i64 0] := by
            rw [hT, if_pos hl]; simp [PT.ref, hox]
          rw [hP]
          clear hT k8 k7 hP hh hlen hox hR
          go_enter Try.func49, Try.ntmps49
          go_wp2_with (first | (go_at_call 82; refine (HS.out _).mono ?_; rintro e w1 ⟨rfl, rfl⟩) | (go_at_call 84; refine HD.out.mono ?_; rintro e w1 ⟨rfl, rfl⟩))
          refine bodyPost_ret (v := .tuple #[.agg #[.int .i64 1, .string x, .int .i64 0, .int .i64 a], .int .i64 0]) (by simp [results, Try.f49, go_sem, c0, c1, c2, c3]) rfl ⟨rfl, ?_⟩
          first | exact below_1 w _ | exact hB | exact below_tok hB
        · have hP : (tokP x.toList).ref a = .tuple #[.agg #[.int .i64 0, .string ⟨#[]⟩, .int .i64 0, .int .i64 0], .int .i64 3] := by
            rw [hT, if_neg hl]; simp [PT.ref, ofL]
          rw [hP]
          clear hT k8 k7 hP hh hlen hox hR
          go_enter Try.func49, Try.ntmps49
          go_wp2_with (first | (go_at_call 82; refine (HS.out _).mono ?_; rintro e w1 ⟨rfl, rfl⟩) | (go_at_call 84; refine HD.out.mono ?_; rintro e w1 ⟨rfl, rfl⟩))
          refine bodyPost_ret (v := .tuple #[.agg #[.int .i64 0, .string ⟨#[]⟩, .int .i64 0, .int .i64 0], .int .i64 3]) (by simp [results, Try.f49, go_sem, c0, c1, c2, c3]) rfl ⟨rfl, ?_⟩
          first | exact below_1 w _ | exact hB | exact below_tok hB
      · rw [if_pos rfl] at hT
        have hd := hR.1 rfl
        unfold numP at hT
        rw [hlen, hh] at hT
        by_cases hz : 1 < x.size ∧ x[0].toNat = 48
        · have hz1 : (1 : Int) < (x.size : Int) := by omega
          have hz2 : ((x[0].toNat : Int) == 48) = true := by rw [beq_iff_eq]; omega
          have hP : (tokP x.toList).ref a = .tuple #[.agg #[.int .i64 0, .string ⟨#[]⟩, .int .i64 0, .int .i64 0], .int .i64 10] := by
            rw [hT, if_pos hz]; simp [PT.ref, ofL]
          rw [hP]
          clear hT k8 k7 hP hh hlen hox hR hd hz
          go_enter Try.func49, Try.ntmps49
          go_wp2_with (first | (go_at_call 82; refine (HS.out _).mono ?_; rintro e w1 ⟨rfl, rfl⟩) | (go_at_call 84; refine HD.out.mono ?_; rintro e w1 ⟨rfl, rfl⟩))
          refine bodyPost_ret (v := .tuple #[.agg #[.int .i64 0, .string ⟨#[]⟩, .int .i64 0, .int .i64 0], .int .i64 10]) (by simp [results, Try.f49, go_sem, c0, c1, c2, c3]) rfl ⟨rfl, ?_⟩
          first | exact below_1 w _ | exact hB | exact below_tok hB
        · rw [if_neg hz] at hT
          have hN0 : x.toList.drop 0 = x.toList := rfl
          rw [← hN0] at hT
          have HM : Hid ((tokP x.toList).ref a = match numL (x.toList.drop 0) 0 with | none => .tuple #[.agg #[.int .i64 0, .string ⟨#[]⟩, .int .i64 0, .int .i64 0], .int .i64 3] | some n => .tuple #[.agg #[.int .i64 2, .string ⟨#[]⟩, .int .i64 (n : Int), .int .i64 (a : Int)], .int .i64 0]) := Lib.hid (by
            simp only [List.drop_zero] at hT ⊢
            rw [hT]
            cases numL x.toList 0 <;> simp [PT.ref, ofL])
          generalize (tokP x.toList).ref a = V at *
          have HDD := Lib.hid hd
          clear hT hd hR hh hlen hox k8 k7 hN0
          by_cases hq1 : 1 < x.size
          · have hq1i : (1 : Int) < (x.size : Int) := by omega
            have hq2 : ((x[0].toNat : Int) == 48) = false := beq_eq_false_iff_ne.2 (fun e => hz ⟨hq1, by omega⟩)
            clear hz
            go_enter Try.func49, Try.ntmps49
            go_wp2_with (first | (go_at_call 82; refine (HS.out _).mono ?_; rintro e w1 ⟨rfl, rfl⟩) | (go_at_call 84; refine HD.out.mono ?_; rintro e w1 ⟨rfl, rfl⟩))
            go_loop [6, 7] (fun s6 s7 => ∃ n j : Nat, n ≤ 1000000000 ∧ j ≤ x.size ∧ s6 = .int .i64 n ∧ s7 = .int .i64 j ∧ Hid (numL (x.toList.drop j) n = numL (x.toList.drop 0) 0)) (fun s6 s7 => x.size - (intOf s7).toNat)
            case atStart => exact ⟨0, 0, by omega, by omega, rfl, rfl, Lib.hid rfl⟩
            case round =>
              obtain ⟨n, j, hn, hj, rfl, rfl, HA⟩ := hrel
              by_cases h1 : j < x.size
              · obtain ⟨d1, d2⟩ := kind3 (HDD.out j h1)
                have HO := Lib.hid (fun h => numL_over (x := x) (i := j) (n := n) h1 h)
                have HN := Lib.hid (fun h => numL_next (x := x) (i := j) (n := n) h1 h)
                have hs1 : IntKind.u8.wrap ((x[j].toNat : Int) - 48) = (x[j].toNat : Int) - 48 := IntWalk.u8_in _ (by omega)
                by_cases h2 : 1000000000 < n * 10 + (x[j].toNat - 48)
                · have hq : (1000000000 : Int) < 10 * (n : Int) + ((x[j].toNat : Int) - 48) := by omega
                  have H3 := Lib.hid ((HO.out h2).symm.trans HA.out)
                  go_wp2
                  refine bodyPost_ret (v := .tuple #[.agg #[.int .i64 0, .string ⟨#[]⟩, .int .i64 0, .int .i64 0], .int .i64 3]) (by simp [results, Try.f49, go_sem, c0, c1, c2, c3]) rfl ⟨by rw [HM.out, ← H3.out], ?_⟩
                  first | exact below_1 w _ | exact hB | exact below_tok hB
                · have hq : ¬ (1000000000 : Int) < 10 * (n : Int) + ((x[j].toNat : Int) - 48) := by omega
                  have H3 := Lib.hid ((HN.out h2).symm.trans HA.out)
                  go_wp2
                  go_round
                  case rel => exact ⟨n * 10 + (x[j].toNat - 48), j + 1, by omega, by omega, by go_num, by go_num, H3⟩
                  case measure => simp [intOf]; omega
              · obtain rfl : j = x.size := by omega
                have H3 := Lib.hid ((numL_end x n).symm.trans HA.out)
                go_wp2
                refine bodyPost_ret (v := .tuple #[.agg #[.int .i64 2, .string ⟨#[]⟩, .int .i64 n, .int .i64 a], .int .i64 0]) (by simp [results, Try.f49, go_sem, c0, c1, c2, c3]) rfl ⟨by rw [HM.out, ← H3.out], ?_⟩
                first | exact below_1 w _ | exact hB | exact below_tok hB
          · have hq1i : ¬ (1 : Int) < (x.size : Int) := by omega
            clear hz
            go_enter Try.func49, Try.ntmps49
            go_wp2_with (first | (go_at_call 82; refine (HS.out _).mono ?_; rintro e w1 ⟨rfl, rfl⟩) | (go_at_call 84; refine HD.out.mono ?_; rintro e w1 ⟨rfl, rfl⟩))
            go_loop [6, 7] (fun s6 s7 => ∃ n j : Nat, n ≤ 1000000000 ∧ j ≤ x.size ∧ s6 = .int .i64 n ∧ s7 = .int .i64 j ∧ Hid (numL (x.toList.drop j) n = numL (x.toList.drop 0) 0)) (fun s6 s7 => x.size - (intOf s7).toNat)
            case atStart => exact ⟨0, 0, by omega, by omega, rfl, rfl, Lib.hid rfl⟩
            case round =>
              obtain ⟨n, j, hn, hj, rfl, rfl, HA⟩ := hrel
              by_cases h1 : j < x.size
              · obtain ⟨d1, d2⟩ := kind3 (HDD.out j h1)
                have HO := Lib.hid (fun h => numL_over (x := x) (i := j) (n := n) h1 h)
                have HN := Lib.hid (fun h => numL_next (x := x) (i := j) (n := n) h1 h)
                have hs1 : IntKind.u8.wrap ((x[j].toNat : Int) - 48) = (x[j].toNat : Int) - 48 := IntWalk.u8_in _ (by omega)
                by_cases h2 : 1000000000 < n * 10 + (x[j].toNat - 48)
                · have hq : (1000000000 : Int) < 10 * (n : Int) + ((x[j].toNat : Int) - 48) := by omega
                  have H3 := Lib.hid ((HO.out h2).symm.trans HA.out)
                  go_wp2
                  refine bodyPost_ret (v := .tuple #[.agg #[.int .i64 0, .string ⟨#[]⟩, .int .i64 0, .int .i64 0], .int .i64 3]) (by simp [results, Try.f49, go_sem, c0, c1, c2, c3]) rfl ⟨by rw [HM.out, ← H3.out], ?_⟩
                  first | exact below_1 w _ | exact hB | exact below_tok hB
                · have hq : ¬ (1000000000 : Int) < 10 * (n : Int) + ((x[j].toNat : Int) - 48) := by omega
                  have H3 := Lib.hid ((HN.out h2).symm.trans HA.out)
                  go_wp2
                  go_round
                  case rel => exact ⟨n * 10 + (x[j].toNat - 48), j + 1, by omega, by omega, by go_num, by go_num, H3⟩
                  case measure => simp [intOf]; omega
              · obtain rfl : j = x.size := by omega
                have H3 := Lib.hid ((numL_end x n).symm.trans HA.out)
                go_wp2
                refine bodyPost_ret (v := .tuple #[.agg #[.int .i64 2, .string ⟨#[]⟩, .int .i64 n, .int .i64 a], .int .i64 0]) (by simp [results, Try.f49, go_sem, c0, c1, c2, c3]) rfl ⟨by rw [HM.out, ← H3.out], ?_⟩
                first | exact below_1 w _ | exact hB | exact below_tok hB
end Go.Proofs.Ytggcnpmniidgkaa
