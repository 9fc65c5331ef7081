/- The contracts of the reference of package lexer: bytes, gaps, ends of tokens; no condition beyond those that each theorem names. -/
import Derived.Test.YtggcnpmniidgkaaL17
namespace Go.Proofs.Ytggcnpmniidgkaa
open Go.RowKit Go.Maps Go.Shelf
open NmP

theorem kind_4 (n : Nat) : kindN n = 4 ↔ 97 ≤ n ∧ n ≤ 122 := by
  unfold kindN
  repeat' split
  all_goals omega
theorem kind_3 (n : Nat) : kindN n = 3 ↔ 48 ≤ n ∧ n ≤ 57 := by
  unfold kindN
  repeat' split
  all_goals omega
theorem kind_8 (n : Nat) : kindN n = 8 ↔ n = 123 ∨ n = 125 ∨ n = 59 ∨ n = 44 ∨ n = 61 ∨ n = 64 := by
  unfold kindN
  (repeat' split) <;> omega
theorem kind_7 (n : Nat) : kindN n = 7 ↔ n = 34 := by
  unfold kindN
  (repeat' split) <;> omega
theorem kind_run (n : Nat) : (3 ≤ kindN n ∧ kindN n ≤ 6) ↔ (97 ≤ n ∧ n ≤ 122) ∨ (48 ≤ n ∧ n ≤ 57) ∨ n = 45 ∨ n = 42 ∨ n = 46 := by
  unfold kindN
  (repeat' split) <;> omega
theorem kind_1 (n : Nat) : kindN n = 1 ↔ n = 32 ∨ n = 9 ∨ n = 10 := by
  unfold kindN
  (repeat' split) <;> omega
theorem kind_2 (n : Nat) : kindN n = 2 ↔ n = 35 := by
  unfold kindN
  (repeat' split) <;> omega

theorem letter_any (n : Nat) (w : World) : Calls Try.prog 97 #[.int .u8 (n : Int)] w fun e w' => e = .returned (.bool (decide (kindN n = 4))) ∧ w = w' := by
  have hR : ∃ R, R = decide (kindN n = 4) := ⟨_, rfl⟩
  obtain ⟨R, hR⟩ := hR
  rw [← hR]
  have HR : Hid (R = true ↔ 97 ≤ n ∧ n ≤ 122) := Lib.hid (by rw [hR, decide_eq_true_iff, kind_4])
  clear hR
  go_enter Try.func97, Try.ntmps97
  go_wp2
  all_goals go_ret
  all_goals refine ⟨ret_bool ?_, rfl⟩
  all_goals rw [Bool.eq_iff_iff, HR.out]
  all_goals simp
  all_goals omega
theorem digit1_any (n : Nat) (w : World) : Calls Try.prog 98 #[.int .u8 (n : Int)] w fun e w' => e = .returned (.bool (decide (kindN n = 3))) ∧ w = w' := by
  have hR : ∃ R, R = decide (kindN n = 3) := ⟨_, rfl⟩
  obtain ⟨R, hR⟩ := hR
  rw [← hR]
  have HR : Hid (R = true ↔ 48 ≤ n ∧ n ≤ 57) := Lib.hid (by rw [hR, decide_eq_true_iff, kind_3])
  clear hR
  go_enter Try.func98, Try.ntmps98
  go_wp2
  all_goals go_ret
  all_goals refine ⟨ret_bool ?_, rfl⟩
  all_goals rw [Bool.eq_iff_iff, HR.out]
  all_goals simp
  all_goals omega
theorem sign1_any (n : Nat) (w : World) : Calls Try.prog 82 #[.int .u8 (n : Int)] w fun e w' => e = .returned (.bool (decide (kindN n = 8))) ∧ w = w' := by
  have hR : ∃ R, R = decide (kindN n = 8) := ⟨_, rfl⟩
  obtain ⟨R, hR⟩ := hR
  rw [← hR]
  have HR : Hid (R = true ↔ n = 123 ∨ n = 125 ∨ n = 59 ∨ n = 44 ∨ n = 61 ∨ n = 64) := Lib.hid (by rw [hR, decide_eq_true_iff, kind_8])
  clear hR
  go_enter Try.func82, Try.ntmps82
  go_wp2
  all_goals go_ret
  all_goals refine ⟨ret_bool ?_, rfl⟩
  all_goals rw [Bool.eq_iff_iff, HR.out]
  all_goals simp
  all_goals omega
theorem run1_any (n : Nat) (w : World) : Calls Try.prog 83 #[.int .u8 (n : Int)] w fun e w' => e = .returned (.bool (decide (3 ≤ kindN n ∧ kindN n ≤ 6))) ∧ w = w' := by
  have hR : ∃ R, R = decide (3 ≤ kindN n ∧ kindN n ≤ 6) := ⟨_, rfl⟩
  obtain ⟨R, hR⟩ := hR
  rw [← hR]
  have HR : Hid (R = true ↔ (97 ≤ n ∧ n ≤ 122) ∨ (48 ≤ n ∧ n ≤ 57) ∨ n = 45 ∨ n = 42 ∨ n = 46) := Lib.hid (by rw [hR, decide_eq_true_iff, kind_run])
  have h1 := letter_any n
  have h2 := digit1_any n
  simp only [kind_4] at h1
  simp only [kind_3] at h2
  by_cases q1 : 97 ≤ n ∧ n ≤ 122
  · rw [decide_eq_true q1] at h1
    have H1 := Lib.hid h1
    have H2 := Lib.hid h2
    clear hR h1 h2
    go_enter Try.func83, Try.ntmps83
    go_wp2_with (first | (go_at_call 97; refine (H1.out _).mono ?_; rintro e w1 ⟨rfl, rfl⟩) | (go_at_call 98; refine (H2.out _).mono ?_; rintro e w1 ⟨rfl, rfl⟩))
    go_ret
    exact ⟨ret_bool (HR.out.2 (by omega)).symm, rfl⟩
  · rw [decide_eq_false q1] at h1
    by_cases q2 : 48 ≤ n ∧ n ≤ 57
    · rw [decide_eq_true q2] at h2
      have H1 := Lib.hid h1
      have H2 := Lib.hid h2
      clear hR h1 h2
      go_enter Try.func83, Try.ntmps83
      go_wp2_with (first | (go_at_call 97; refine (H1.out _).mono ?_; rintro e w1 ⟨rfl, rfl⟩) | (go_at_call 98; refine (H2.out _).mono ?_; rintro e w1 ⟨rfl, rfl⟩))
      go_ret
      exact ⟨ret_bool (HR.out.2 (by omega)).symm, rfl⟩
    · rw [decide_eq_false q2] at h2
      have H1 := Lib.hid h1
      have H2 := Lib.hid h2
      clear hR h1 h2
      go_enter Try.func83, Try.ntmps83
      go_wp2_with (first | (go_at_call 97; refine (H1.out _).mono ?_; rintro e w1 ⟨rfl, rfl⟩) | (go_at_call 98; refine (H2.out _).mono ?_; rintro e w1 ⟨rfl, rfl⟩))
      all_goals go_ret
      all_goals refine ⟨ret_bool ?_, rfl⟩
      all_goals rw [Bool.eq_iff_iff, HR.out]
      all_goals simp
      all_goals omega

set_option maxHeartbeats 1000000 in
theorem gap_any (s : ByteArray) (at_ : Nat) (w : World) (hs : s.size ≤ maxLen) (ha : at_ ≤ s.size) :
    Calls Try.prog 47 #[.string s, .int .i64 at_] w fun e w' => e = .returned (.int .i64 (gapAt s false at_ : Int)) ∧ w = w' := by
  unfold maxLen at hs
  generalize hR : gapAt s false at_ = R
  have HR := Lib.hid hR
  clear hR
  go_enter Try.func47, Try.ntmps47
  go_wp2
  go_loop [1] (fun s1 => ∃ i : Nat, i ≤ s.size ∧ s1 = .int .i64 i ∧ Hid (gapAt s false i = R)) (fun s1 => s.size - (intOf s1).toNat)
  case atStart => exact ⟨at_, ha, rfl, HR⟩
  case round =>
    obtain ⟨i, hi, rfl, HA⟩ := hrel
    clear HR
    by_cases h1 : i < s.size
    · have HG1 := Lib.hid (fun h => gapAt_1 (s := s) (i := i) h1 ((kind_1 _).2 h))
      have HG2 := Lib.hid (fun h => gapAt_2 (s := s) (i := i) h1 ((kind_2 _).2 h))
      have HG0 := Lib.hid (fun (h : ¬ (s[i].toNat = 32 ∨ s[i].toNat = 9 ∨ s[i].toNat = 10)) (h' : ¬ s[i].toNat = 35) => gapAt_0 (s := s) (i := i) h1 (fun q => h ((kind_1 _).1 q)) (fun q => h' ((kind_2 _).1 q)))
      by_cases k2 : s[i].toNat = 35
      · have z2 : ((s[i].toNat : Int) == 35) = true := by rw [beq_iff_eq]; omega
        have H3 := Lib.hid ((HG2.out k2).symm.trans HA.out)
        have hq2 : s[i].toNat ≠ 10 := by omega
        clear HG0 HG1 HG2
        go_wp2
        go_loop [1] (fun s1 => ∃ j : Nat, i ≤ j ∧ j ≤ s.size ∧ (j = i ∨ i < j) ∧ s1 = .int .i64 j ∧ Hid (gapAt s true j = R)) (fun s1 => s.size - (intOf s1).toNat)
        case atStart => exact ⟨i, by omega, by omega, by omega, rfl, H3⟩
        case round =>
          obtain ⟨j, hij, hj, hjj, rfl, HJ⟩ := hrel
          by_cases h2 : j < s.size
          · by_cases h3 : s[j].toNat = 10
            · have hne : i < j := by
                rcases hjj with rfl | h
                · exact absurd h3 hq2
                · exact h
              have hq4 : ((s[j].toNat : Int) != 10) = false := by rw [bne_eq_false_iff_eq]; omega
              have H5 := Lib.hid ((gapAt_line h2 h3).symm.trans HJ.out)
              go_wp2
              go_round
              case rel => exact ⟨j, by omega, by go_num, H5⟩
              case measure => simp [intOf]; omega
            · have hq4 : ((s[j].toNat : Int) != 10) = true := by rw [bne_iff_ne]; omega
              have H5 := Lib.hid ((gapAt_in h2 h3).symm.trans HJ.out)
              go_wp2
              go_round
              case rel => exact ⟨j + 1, by omega, by omega, by omega, by go_num, H5⟩
              case measure => simp [intOf]; omega
          · obtain rfl : j = s.size := by omega
            have H5 := Lib.hid ((gapAt_end s true).symm.trans HJ.out)
            have H6 := Lib.hid ((gapAt_end s false).trans H5.out)
            go_wp2
            go_round
            case rel => exact ⟨s.size, by omega, by go_num, H6⟩
            case measure => simp [intOf]; omega
      · have z2 : ((s[i].toNat : Int) == 35) = false := beq_eq_false_iff_ne.2 (by omega)
        by_cases k1 : s[i].toNat = 32 ∨ s[i].toNat = 9 ∨ s[i].toNat = 10
        · have H3 := Lib.hid ((HG1.out k1).symm.trans HA.out)
          clear HG0 HG1 HG2
          rcases k1 with k1 | k1 | k1
          · have y1 : ((s[i].toNat : Int) == 32) = true := by rw [beq_iff_eq]; omega
            go_wp2
            go_round
            case rel => exact ⟨i + 1, by omega, by go_num, H3⟩
            case measure => simp [intOf]; omega
          · have y1 : ((s[i].toNat : Int) == 32) = false := beq_eq_false_iff_ne.2 (by omega)
            have y2 : ((s[i].toNat : Int) == 9) = true := by rw [beq_iff_eq]; omega
            go_wp2
            go_round
            case rel => exact ⟨i + 1, by omega, by go_num, H3⟩
            case measure => simp [intOf]; omega
          · have y1 : ((s[i].toNat : Int) == 32) = false := beq_eq_false_iff_ne.2 (by omega)
            have y2 : ((s[i].toNat : Int) == 9) = false := beq_eq_false_iff_ne.2 (by omega)
            have y3 : ((s[i].toNat : Int) == 10) = true := by rw [beq_iff_eq]; omega
            go_wp2
            go_round
            case rel => exact ⟨i + 1, by omega, by go_num, H3⟩
            case measure => simp [intOf]; omega
        · have H3 := Lib.hid ((HG0.out k1 k2).symm.trans HA.out)
          have y1 : ((s[i].toNat : Int) == 32) = false := beq_eq_false_iff_ne.2 (by omega)
          have y2 : ((s[i].toNat : Int) == 9) = false := beq_eq_false_iff_ne.2 (by omega)
          have y3 : ((s[i].toNat : Int) == 10) = false := beq_eq_false_iff_ne.2 (by omega)
          clear HG0 HG1 HG2
          go_wp2
          go_ret
          exact ⟨by rw [← H3.out]; rfl, rfl⟩
    · obtain rfl : i = s.size := by omega
      have H3 := Lib.hid ((gapAt_end s false).symm.trans HA.out)
      go_wp2
      go_ret
      exact ⟨by rw [← H3.out]; rfl, rfl⟩
end Go.Proofs.Ytggcnpmniidgkaa
