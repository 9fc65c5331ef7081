/- The contract of skip of package lexer; no condition beyond those that each theorem names. -/
import Derived.Test.YtojofkjnakiliaaDoorL1
namespace Go.Proofs.YtojofkjnakiliaaDoor
open Go.RowKit
open NmP

set_option maxHeartbeats 1000000 in
theorem skip_any (s : ByteArray) (at_ : Nat) (w : World) (hs : s.size ≤ maxLen) (ha : at_ ≤ s.size) :
    Calls Tryd.prog 15 #[.string s, .int .i64 at_, .agg kindsA] w fun e w' => e = .returned (.int .i64 (gapAt s false at_ : Int)) ∧ Below w.heap.size w w' := by
  unfold maxLen at hs
  have hK := Lib.hid (KC_alloc w 35)
  have hB : Below w.heap.size w (w.alloc (.cells kindsA 35)) := (Below.refl _ w).alloc (Nat.le_refl _) _
  generalize hR : gapAt s false at_ = R
  have HR := Lib.hid hR
  clear hR
  go_enter Tryd.func15, Tryd.ntmps15
  go_wp2
  generalize w.alloc (.cells kindsA 35) = W at *
  go_loop [1] (fun s1 => ∃ i : Nat, i ≤ s.size ∧ s1 = .int .i64 i ∧ Hid (gapAt s false i = R)) (fun s1 => s.size - (intOf s1).toNat)
  case atStart => exact ⟨at_, ha, rfl, HR⟩
  case round =>
    obtain ⟨i, hi, rfl, HA⟩ := hrel
    clear HR
    by_cases h1 : i < s.size
    · have hb : (s[i]).toNat < 256 := s[i].toNat_lt
      have hcell := hK.out (s[i]).toNat hb
      have HG1 := Lib.hid (fun h => gapAt_1 (s := s) (i := i) h1 h)
      have HG2 := Lib.hid (fun h => gapAt_2 (s := s) (i := i) h1 h)
      have HG0 := Lib.hid (fun h h' => gapAt_0 (s := s) (i := i) h1 h h')
      have H10 : Hid (kindN (s[i]).toNat = 2 → (s[i]).toNat ≠ 10) := Lib.hid (fun h e => by rw [e] at h; revert h; decide)
      generalize hk : kindN (s[i]).toNat = k at *
      clear hk
      by_cases k1 : k = 1
      · subst k1
        go_wp2
        go_round
        case rel => exact ⟨i + 1, by omega, by go_num, Lib.hid ((HG1.out rfl).symm.trans HA.out)⟩
        case measure => simp [intOf]; omega
      · have hq1 : ((k : Int) == 1) = false := beq_eq_false_iff_ne.2 (by omega)
        by_cases k2 : k = 2
        · subst k2
          have H3 := Lib.hid ((HG2.out rfl).symm.trans HA.out)
          have hq2 : s[i].toNat ≠ 10 := H10.out rfl
          clear HG0 HG1 HG2 k1
          go_wp2
          clear hcell hK
          go_loop [1] (fun s1 => ∃ j : Nat, i ≤ j ∧ j ≤ s.size ∧ (j = i ∨ i < j) ∧ s1 = .int .i64 j ∧ Hid (gapAt s true j = R)) (fun s1 => s.size - (intOf s1).toNat)
          case atStart => exact ⟨i, by omega, by omega, by omega, rfl, H3⟩
          case round =>
            obtain ⟨j, hij, hj, hjj, rfl, HJ⟩ := hrel
            by_cases h2 : j < s.size
            · by_cases h3 : s[j].toNat = 10
              · have hne : i < j := by
                  rcases hjj with rfl | h
                  · exact absurd h3 hq2
                  · exact h
                have hq4 : ((s[j].toNat : Int) != 10) = false := by rw [bne_eq_false_iff_eq]; omega
                have H5 := Lib.hid ((gapAt_line h2 h3).symm.trans HJ.out)
                go_wp2
                go_round
                case rel => exact ⟨j, by omega, by go_num, H5⟩
                case measure => simp [intOf]; omega
              · have hq4 : ((s[j].toNat : Int) != 10) = true := by rw [bne_iff_ne]; omega
                have H5 := Lib.hid ((gapAt_in h2 h3).symm.trans HJ.out)
                go_wp2
                go_round
                case rel => exact ⟨j + 1, by omega, by omega, by omega, by go_num, H5⟩
                case measure => simp [intOf]; omega
            · obtain rfl : j = s.size := by omega
              have H5 := Lib.hid ((gapAt_end s true).symm.trans HJ.out)
              have H6 := Lib.hid ((gapAt_end s false).trans H5.out)
              go_wp2
              go_round
              case rel => exact ⟨s.size, by omega, by go_num, H6⟩
              case measure => simp [intOf]; omega
        · have hq2 : ((k : Int) == 2) = false := beq_eq_false_iff_ne.2 (by omega)
          have H3 := Lib.hid ((HG0.out k1 k2).symm.trans HA.out)
          go_wp2
          go_ret
          exact ⟨by rw [← H3.out]; rfl, hB⟩
    · obtain rfl : i = s.size := by omega
      have H3 := Lib.hid ((gapAt_end s false).symm.trans HA.out)
      go_wp2
      go_ret
      exact ⟨by rw [← H3.out]; rfl, hB⟩
end Go.Proofs.YtojofkjnakiliaaDoor
