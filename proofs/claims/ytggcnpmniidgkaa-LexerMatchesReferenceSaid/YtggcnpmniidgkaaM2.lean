/- The contracts of Digits and End of the reference of package lexer; no condition beyond those that each theorem names. -/
import Derived.Test.YtggcnpmniidgkaaM1
namespace Go.Proofs.Ytggcnpmniidgkaa
open Go.RowKit Go.Maps Go.Shelf
open NmP

theorem digit1_true (n : Nat) (h : kindN n = 3) (w : World) : Calls Try.prog 98 #[.int .u8 (n : Int)] w fun e w' => e = .returned (.bool true) ∧ w = w' := by
  have := digit1_any n w; rwa [decide_eq_true h] at this
theorem digit1_false (n : Nat) (h : kindN n ≠ 3) (w : World) : Calls Try.prog 98 #[.int .u8 (n : Int)] w fun e w' => e = .returned (.bool false) ∧ w = w' := by
  have := digit1_any n w; rwa [decide_eq_false h] at this
theorem sign1_true (n : Nat) (h : kindN n = 8) (w : World) : Calls Try.prog 82 #[.int .u8 (n : Int)] w fun e w' => e = .returned (.bool true) ∧ w = w' := by
  have := sign1_any n w; rwa [decide_eq_true h] at this
theorem sign1_false (n : Nat) (h : kindN n ≠ 8) (w : World) : Calls Try.prog 82 #[.int .u8 (n : Int)] w fun e w' => e = .returned (.bool false) ∧ w = w' := by
  have := sign1_any n w; rwa [decide_eq_false h] at this
theorem run1_true (n : Nat) (h : 3 ≤ kindN n ∧ kindN n ≤ 6) (w : World) : Calls Try.prog 83 #[.int .u8 (n : Int)] w fun e w' => e = .returned (.bool true) ∧ w = w' := by
  have := run1_any n w; rwa [decide_eq_true h] at this
theorem run1_false (n : Nat) (h : ¬ (3 ≤ kindN n ∧ kindN n ≤ 6)) (w : World) : Calls Try.prog 83 #[.int .u8 (n : Int)] w fun e w' => e = .returned (.bool false) ∧ w = w' := by
  have := run1_any n w; rwa [decide_eq_false h] at this

set_option maxHeartbeats 1000000 in
theorem digits_any (x : ByteArray) (w : World) (hx : x.size ≤ maxLen) (h0 : 0 < x.size) :
    ∃ R : Bool, (R = true ↔ ∀ j, (h : j < x.size) → kindN x[j].toNat = 3) ∧ Calls Try.prog 84 #[.string x] w fun e w' => e = .returned (.bool R) ∧ w = w' := by
  unfold maxLen at hx
  by_cases hall : ∀ j, (h : j < x.size) → kindN x[j].toNat = 3
  · refine ⟨true, by simpa using hall, ?_⟩
    have HA := Lib.hid hall
    clear hall
    go_enter Try.func84, Try.ntmps84
    go_wp2
    go_loop [3] (fun s3 => ∃ i : Nat, i ≤ x.size ∧ s3 = .int .i64 i) (fun s3 => x.size - (intOf s3).toNat)
    case atStart => exact ⟨0, by omega, rfl⟩
    case round =>
      obtain ⟨i, hi, rfl⟩ := hrel
      by_cases h1 : i < x.size
      · have HD := Lib.hid (fun W => digit1_true _ (HA.out i h1) W)
        go_wp2_with (go_at_call 98; refine (HD.out _).mono ?_; rintro e w1 ⟨rfl, rfl⟩)
        go_round
        case rel => exact ⟨i + 1, by omega, by go_num⟩
        case measure => simp [intOf]; omega
      · go_wp2
        go_ret
        exact ⟨ret_bool (by simp <;> omega), rfl⟩
  · refine ⟨false, by simpa using hall, ?_⟩
    obtain ⟨m, hm, hk⟩ : ∃ m, ∃ h : m < x.size, kindN x[m].toNat ≠ 3 := by
      false_or_by_contra
      rename_i q
      exact hall fun j h => by
        false_or_by_contra
        rename_i q2
        exact q ⟨j, h, q2⟩
    have HM := Lib.hid hk
    clear hall hk
    go_enter Try.func84, Try.ntmps84
    go_wp2
    go_loop [3] (fun s3 => ∃ i : Nat, i ≤ m ∧ s3 = .int .i64 i) (fun s3 => x.size - (intOf s3).toNat)
    case atStart => exact ⟨0, by omega, rfl⟩
    case round =>
      obtain ⟨i, hi, rfl⟩ := hrel
      have h1 : i < x.size := by omega
      by_cases hd : kindN x[i].toNat = 3
      · have HD := Lib.hid (fun W => digit1_true _ hd W)
        have hne : i ≠ m := fun e => by subst e; exact HM.out hd
        go_wp2_with (go_at_call 98; refine (HD.out _).mono ?_; rintro e w1 ⟨rfl, rfl⟩)
        go_round
        case rel => exact ⟨i + 1, by omega, by go_num⟩
        case measure => simp [intOf]; omega
      · have HD := Lib.hid (fun W => digit1_false _ hd W)
        go_wp2_with (go_at_call 98; refine (HD.out _).mono ?_; rintro e w1 ⟨rfl, rfl⟩)
        go_ret
        exact ⟨rfl, rfl⟩

theorem runOf_dot {t : Bs} : runOf (46 :: t) = [46] ↔ runL (46 :: t) = 1 := by
  constructor
  · intro h
    rw [← runOf_len, h]
    rfl
  · intro h
    unfold runOf
    rw [h]
    rfl
/-- How long the token is that begins at a place. -/
theorem len_sign {s : ByteArray} {i : Nat} (h : i < s.size) (hk : kindN s[i].toNat = 8) : (endP (s.toList.drop i)).len = 1 := by
  unfold endP endK
  rw [drop_cons h, show (s[i] :: s.toList.drop (i + 1)).headD 0 = s[i] from rfl, hk]
  rfl
theorem len_text {s : ByteArray} {i : Nat} (h : i < s.size) (hk : kindN s[i].toNat = 7) : i + (endP (s.toList.drop i)).len = match quoteL (s.toList.drop (i + 1)) (i + 1) with | none => i | some q => if q = i + 1 then i else q + 1 := by
  unfold endP endK
  rw [drop_cons h, show (s[i] :: s.toList.drop (i + 1)).headD 0 = s[i] from rfl, hk]
  show i + (textP (s[i] :: s.toList.drop (i + 1))).len = _
  unfold textP
  rw [show (s[i] :: s.toList.drop (i + 1)).drop 1 = s.toList.drop (i + 1) from rfl, quote_shift (s.toList.drop (i + 1)) (i + 1)]
  cases quoteL (s.toList.drop (i + 1)) 0 with
  | none => rfl
  | some q =>
    simp only [Option.map_some]
    by_cases q0 : q = 0
    · rw [if_pos q0, if_pos (show q + (i + 1) = i + 1 by omega)]; rfl
    · rw [if_neg q0, if_neg (show ¬ q + (i + 1) = i + 1 by omega)]
      split
      · show i + (q + 2) = q + (i + 1) + 1
        omega
      · show i + (q + 2) = q + (i + 1) + 1
        omega
theorem len_run {s : ByteArray} {i : Nat} (h : i < s.size) (h8 : kindN s[i].toNat ≠ 8) (h7 : kindN s[i].toNat ≠ 7) : i + (endP (s.toList.drop i)).len = if s[i].toNat = 45 ∨ (s[i].toNat = 46 ∧ i + 1 < runAt s i) then i else runAt s i := by
  have hra : runAt s i = i + runL (s.toList.drop i) := rfl
  rw [hra]
  have hd := drop_cons h
  unfold endP endK
  rw [hd, show (s[i] :: s.toList.drop (i + 1)).headD 0 = s[i] from rfl]
  have h9 := kind_le s[i].toNat
  have hw : ∀ r : Bs, (wordP r).len = r.length := fun r => by unfold wordP; split <;> rfl
  have hn : ∀ r : Bs, (numP r).len = r.length := fun r => by
    unfold numP
    split
    · rfl
    · cases numL r 0 <;> rfl
  have e45 : s[i].toNat = 45 → kindN s[i].toNat = 5 := fun e => by rw [e]; rfl
  have e46 : s[i].toNat = 46 → kindN s[i].toNat = 5 := fun e => by rw [e]; rfl
  have hneg : kindN s[i].toNat ≠ 5 → ∀ n, ¬ (s[i].toNat = 45 ∨ s[i].toNat = 46 ∧ i + 1 < n) := fun h5 n => by omega
  by_cases k5 : kindN s[i].toNat = 5
  · rw [if_neg (show ¬ kindN s[i].toNat = 3 by omega), if_neg (show ¬ (kindN s[i].toNat = 4 ∨ kindN s[i].toNat = 6) by omega), if_pos k5]
    have hc : s[i].toNat = 45 ∨ s[i].toNat = 46 := by
      unfold kindN at k5
      repeat' split at k5
      all_goals omega
    clear hneg e45 e46 h8 h7 h9 k5
    rcases hc with hc | hc
    · have hs : s[i] = 45 := UInt8.toNat_inj.1 hc
      have hne : runOf (45 :: s.toList.drop (i + 1)) ≠ [46] := by
        unfold runOf runL
        rw [if_pos (by decide), Nat.add_comm 1, List.take_succ_cons]
        intro q
        have := (List.cons.inj q).1
        revert this; decide
      rw [hs, if_neg hne, if_pos (show (45 : UInt8).toNat = 45 ∨ (45 : UInt8).toNat = 46 ∧ i + 1 < i + runL (45 :: s.toList.drop (i + 1)) from Or.inl rfl)]
      rfl
    · have hs : s[i] = 46 := UInt8.toNat_inj.1 hc
      rw [hs]
      have hpos : runL (46 :: s.toList.drop (i + 1)) ≠ 0 := by
        unfold runL
        rw [if_pos (by decide)]
        omega
      by_cases q : runL (46 :: s.toList.drop (i + 1)) = 1
      · rw [if_pos (runOf_dot.2 q), q, if_neg (show ¬ ((46 : UInt8).toNat = 45 ∨ (46 : UInt8).toNat = 46 ∧ i + 1 < i + 1) by rintro (h | h); revert h; decide; omega)]
        rfl
      · rw [if_neg (fun e => q (runOf_dot.1 e)), if_pos (Or.inr ⟨rfl, by omega⟩)]
        rfl
  · rw [if_neg (hneg k5 _)]
    by_cases k3 : kindN s[i].toNat = 3
    · rw [if_pos k3]
      split
      · rw [hn, runOf_len]
      · rw [hw, runOf_len]
    · rw [if_neg k3]
      by_cases k4 : kindN s[i].toNat = 4 ∨ kindN s[i].toNat = 6
      · rw [if_pos k4, hw, runOf_len]
      · rw [if_neg k4, if_neg k5, if_neg h7, if_neg h8]
        have h0 : runL (s[i] :: s.toList.drop (i + 1)) = 0 := by
          unfold runL
          rw [if_neg (by omega)]
        rw [h0]
        rfl

/-- Where the token ends that begins at a place. -/
def endAt (s : ByteArray) (i : Nat) : Nat := i + (endP (s.toList.drop i)).len

set_option maxHeartbeats 2000000 in
theorem end_ref (s : ByteArray) (i : Nat) (w : World) (hs : s.size ≤ 100000) (h : i < s.size) :
    Calls Try.prog 48 #[.string s, .int .i64 i] w fun e w' => e = .returned (.int .i64 (endAt s i : Int)) ∧ Below w.heap.size w w' := by
  by_cases k8 : kindN s[i].toNat = 8
  · have hR : endAt s i = i + 1 := by unfold endAt; rw [len_sign h k8]
    rw [hR]
    have HS := Lib.hid (fun W => sign1_true _ k8 W)
    clear k8 hR
    go_enter Try.func48, Try.ntmps48
    go_wp2_with (go_at_call 82; refine (HS.out _).mono ?_; rintro e w1 ⟨rfl, rfl⟩)
    go_ret
    exact ⟨rfl, Below.refl _ _⟩
  · have HS := Lib.hid (fun W => sign1_false _ k8 W)
    by_cases k7 : kindN s[i].toNat = 7
    · have hc := (kind_7 _).1 k7
      have hq : ((s[i].toNat : Int) == 34) = true := by rw [beq_iff_eq]; omega
      have hR : endAt s i = _ := len_text h k7
      generalize endAt s i = R at *
      generalize hQ : quoteL (s.toList.drop (i + 1)) (i + 1) = Q at *
      have HQ := Lib.hid hQ
      have HR := Lib.hid hR
      clear k7 k8 hR hQ hc
      go_enter Try.func48, Try.ntmps48
      go_wp2_with (go_at_call 82; refine (HS.out _).mono ?_; rintro e w1 ⟨rfl, rfl⟩)
      go_loopw [6] (fun s6 wr => ∃ j : Nat, i + 1 ≤ j ∧ j ≤ s.size ∧ s6 = .int .i64 j ∧ Hid (quoteL (s.toList.drop j) j = Q) ∧ Hid (Below w.heap.size w wr)) (fun s6 _ => s.size - (intOf s6).toNat)
      case atStart => exact ⟨i + 1, by omega, by omega, by go_num, HQ, Lib.hid (Below.refl _ _)⟩
      case round =>
        obtain ⟨j, hj1, hj2, rfl, HA, HB⟩ := hrel
        by_cases h1 : j < s.size
        · by_cases h2 : s[j].toNat = 10
          · have z : ((s[j].toNat : Int) != 10) = false := by rw [bne_eq_false_iff_eq]; omega
            have H3 := Lib.hid ((quoteL_line h1 h2).symm.trans HA.out)
            have HF : Hid (R = i) := Lib.hid (by rw [HR.out, ← H3.out])
            go_wp2
            go_ret
            exact ⟨by rw [HF.out]; rfl, HB.out⟩
          · have z : ((s[j].toNat : Int) != 10) = true := by rw [bne_iff_ne]; omega
            by_cases h3 : s[j].toNat = 34
            · have z3 : ((s[j].toNat : Int) == 34) = true := by rw [beq_iff_eq]; omega
              have H3 := Lib.hid ((quoteL_here h1 h3).symm.trans HA.out)
              by_cases h4 : j = i + 1
              · have HF : Hid (R = i) := Lib.hid (by rw [HR.out, ← H3.out]; exact if_pos h4)
                subst h4
                go_wp2
                go_ret
                exact ⟨by rw [HF.out]; rfl, HB.out⟩
              · have HF : Hid (R = j + 1) := Lib.hid (by rw [HR.out, ← H3.out]; exact if_neg h4)
                have z4 : (i : Int) + 1 < (j : Int) := by omega
                go_wp2
                go_ret
                exact ⟨by rw [HF.out]; rfl, HB.out⟩
            · have z3 : ((s[j].toNat : Int) == 34) = false := beq_eq_false_iff_ne.2 (by omega)
              have H3 := Lib.hid ((quoteL_next h1 h2 h3).symm.trans HA.out)
              go_wp2
              go_roundw
              case rel => exact ⟨j + 1, by omega, by omega, by go_num, H3, HB⟩
              case measure => simp [intOf]; omega
        · obtain rfl : j = s.size := by omega
          have H3 := Lib.hid ((quoteL_end s).symm.trans HA.out)
          have HF : Hid (R = i) := Lib.hid (by rw [HR.out, ← H3.out])
          go_wp2
          go_ret
          exact ⟨by rw [HF.out]; rfl, HB.out⟩
    · have hq : ((s[i].toNat : Int) == 34) = false := beq_eq_false_iff_ne.2 (fun e => k7 ((kind_7 _).2 (by omega)))
      have hR : endAt s i = _ := len_run h k8 k7
      have hge := runAt_ge s i
      have hle := runAt_le (s := s) (i := i) (by omega)
      generalize endAt s i = R at *
      generalize hQ : runAt s i = Q at *
      have HQ := Lib.hid hQ
      have HR := Lib.hid hR
      clear k7 k8 hR hQ
      go_enter Try.func48, Try.ntmps48
      go_wp2_with (go_at_call 82; refine (HS.out _).mono ?_; rintro e w1 ⟨rfl, rfl⟩)
      go_loopw [7] (fun s7 wr => ∃ j : Nat, i ≤ j ∧ j ≤ s.size ∧ s7 = .int .i64 j ∧ Hid (runAt s j = Q) ∧ Hid (Below w.heap.size w wr)) (fun s7 _ => s.size - (intOf s7).toNat)
      case atStart => exact ⟨i, by omega, by omega, rfl, HQ, Lib.hid (Below.refl _ _)⟩
      case round =>
        obtain ⟨j, hj1, hj2, rfl, HA, HB⟩ := hrel
        by_cases hrun : ∃ h1 : j < s.size, 3 ≤ kindN s[j].toNat ∧ kindN s[j].toNat ≤ 6
        · obtain ⟨h1, h2⟩ := hrun
          have HD := Lib.hid (fun W => run1_true _ h2 W)
          have H3 := Lib.hid ((runAt_in h1 h2).symm.trans HA.out)
          go_wp2_with (go_at_call 83; refine (HD.out _).mono ?_; rintro e w2 ⟨rfl, rfl⟩)
          go_roundw
          case rel => exact ⟨j + 1, by omega, by omega, by go_num, H3, HB⟩
          case measure => simp [intOf]; omega
        · have hj : j = Q := by
            rw [← HA.out]
            by_cases h1 : j < s.size
            · exact (runAt_out h1 (fun q => hrun ⟨h1, q⟩)).symm
            · obtain rfl : j = s.size := by omega
              exact (runAt_end s).symm
          subst hj
          have HF := HR.out
          by_cases c45 : s[i].toNat = 45
          · have z5 : ((s[i].toNat : Int) == 45) = true := by rw [beq_iff_eq]; omega
            have HFF : Hid (R = i) := Lib.hid (by rw [HF]; exact if_pos (.inl c45))
            clear HF
            by_cases h1 : j < s.size
            · have HD := Lib.hid (fun W => run1_false _ (fun q => hrun ⟨h1, q⟩) W)
              clear hrun
              go_wp2_with (go_at_call 83; refine (HD.out _).mono ?_; rintro e w2 ⟨rfl, rfl⟩)
              go_ret
              exact ⟨by rw [HFF.out]; rfl, HB.out⟩
            · clear hrun
              go_wp2
              go_ret
              exact ⟨by rw [HFF.out]; rfl, HB.out⟩
          · have z5 : ((s[i].toNat : Int) == 45) = false := beq_eq_false_iff_ne.2 (by omega)
            by_cases c46 : s[i].toNat = 46
            · have z6 : ((s[i].toNat : Int) == 46) = true := by rw [beq_iff_eq]; omega
              by_cases hlt : i + 1 < j
              · have z7 : (i : Int) + 1 < (j : Int) := by omega
                have HFF : Hid (R = i) := Lib.hid (by rw [HF]; exact if_pos (.inr ⟨c46, hlt⟩))
                clear HF
                by_cases h1 : j < s.size
                · have HD := Lib.hid (fun W => run1_false _ (fun q => hrun ⟨h1, q⟩) W)
                  clear hrun
                  go_wp2_with (go_at_call 83; refine (HD.out _).mono ?_; rintro e w2 ⟨rfl, rfl⟩)
                  go_ret
                  exact ⟨by rw [HFF.out]; rfl, HB.out⟩
                · clear hrun
                  go_wp2
                  go_ret
                  exact ⟨by rw [HFF.out]; rfl, HB.out⟩
              · have z7 : ¬ (i : Int) + 1 < (j : Int) := by omega
                have HFF : Hid (R = j) := Lib.hid (by rw [HF]; exact if_neg (by omega))
                clear HF
                by_cases h1 : j < s.size
                · have HD := Lib.hid (fun W => run1_false _ (fun q => hrun ⟨h1, q⟩) W)
                  clear hrun
                  go_wp2_with (go_at_call 83; refine (HD.out _).mono ?_; rintro e w2 ⟨rfl, rfl⟩)
                  go_ret
                  exact ⟨by rw [HFF.out]; rfl, HB.out⟩
                · clear hrun
                  go_wp2
                  go_ret
                  exact ⟨by rw [HFF.out]; rfl, HB.out⟩
            · have z6 : ((s[i].toNat : Int) == 46) = false := beq_eq_false_iff_ne.2 (by omega)
              have HFF : Hid (R = j) := Lib.hid (by rw [HF]; exact if_neg (by omega))
              clear HF
              by_cases h1 : j < s.size
              · have HD := Lib.hid (fun W => run1_false _ (fun q => hrun ⟨h1, q⟩) W)
                clear hrun
                go_wp2_with (go_at_call 83; refine (HD.out _).mono ?_; rintro e w2 ⟨rfl, rfl⟩)
                go_ret
                exact ⟨by rw [HFF.out]; rfl, HB.out⟩
              · clear hrun
                go_wp2
                go_ret
                exact ⟨by rw [HFF.out]; rfl, HB.out⟩
end Go.Proofs.Ytggcnpmniidgkaa
