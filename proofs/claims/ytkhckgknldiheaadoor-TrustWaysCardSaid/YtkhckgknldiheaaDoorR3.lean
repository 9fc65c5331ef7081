/- The contract of plain of package record; no condition beyond those that each theorem names. -/
import Derived.Test.YtkhckgknldiheaaDoorR2
namespace Go.Proofs.YtkhckgknldiheaaDoor
set_option linter.unusedSimpArgs false
set_option linter.unusedVariables false
open Go.RowKit
open NmP

theorem plain_eq (x : ByteArray) (h1 : 1 ≤ x.size) : plainB x.toList = (decide (x.size ≤ 40) && !(decide ((x[0]'(by omega)).toNat = 32)) && !(decide ((x[x.size - 1]'(by omega)).toNat = 32)) && x.toList.all okP) := by
  unfold plainB
  rw [tl_len, tl_get x 0 (by omega), tl_get x (x.size - 1) (by omega), some_c, some_c]
  simp [h1]
theorem allP_of (x : ByteArray) (h : ∀ j, (hj : j < x.size) → okP x[j] = true) : x.toList.all okP = true := by
  rw [List.all_eq_true]
  intro c hc
  obtain ⟨j, hj, rfl⟩ := List.mem_iff_getElem.1 hc
  have hj2 : j < x.size := by rw [tl_len] at hj; exact hj
  have := tl_get x j hj2
  rw [List.getElem?_eq_getElem hj] at this
  rw [Option.some.inj this]
  exact h j hj2
theorem allP_not (x : ByteArray) (j : Nat) (hj : j < x.size) (h : okP x[j] = false) : x.toList.all okP = false := by
  rw [List.all_eq_false]
  refine ⟨x[j], ?_, by simp [h]⟩
  have := tl_get x j hj
  exact List.mem_of_getElem? this

set_option maxHeartbeats 1000000 in
theorem plain_any (x : ByteArray) (w : World) (hx : x.size ≤ maxLen) :
    Calls Tryd.prog 83 #[.string x] w fun e w' => e = .returned (.bool (plainB x.toList)) ∧ w = w' := by
  unfold maxLen at hx
  have W0 := Lib.hid (fun W => within_any (x.size : Int) 1 40 W)
  by_cases h0 : 1 ≤ x.size
  · have HL := Lib.hid (plain_eq x h0)
    have hp : 0 < x.size := by omega
    by_cases h40 : x.size ≤ 40
    · rw [show (decide ((1 : Int) ≤ (x.size : Int)) && decide ((x.size : Int) ≤ 40)) = true by simp; omega] at W0
      by_cases h3 : (x[0]'hp).toNat = 32
      · have HR : Hid (plainB x.toList = false) := Lib.hid (by rw [HL.out]; simp [h3])
        have hb0 : (((x[0]'hp).toNat : Int) == 32) = true := by rw [h3]; rfl
        clear h3
        go_enter Tryd.func83, Tryd.ntmps83
        go_wp2_with (go_at_call 64; refine (W0.out _).mono ?_; rintro e w1 ⟨rfl, rfl⟩)
        go_ret
        exact ⟨by rw [HR.out]; rfl, rfl⟩
      · have hb0 : (((x[0]'hp).toNat : Int) == 32) = false := beq_eq_false_iff_ne.2 (by omega)
        by_cases h4 : (x[x.size - 1]'(by omega)).toNat = 32
        · have HR : Hid (plainB x.toList = false) := Lib.hid (by rw [HL.out]; simp [h4])
          have hb1 : (((x[x.size - 1]'(by omega)).toNat : Int) == 32) = true := by rw [h4]; rfl
          clear h4 h3
          go_enter Tryd.func83, Tryd.ntmps83
          go_wp2_with (go_at_call 64; refine (W0.out _).mono ?_; rintro e w1 ⟨rfl, rfl⟩)
          go_ret
          exact ⟨by rw [HR.out]; rfl, rfl⟩
        · have HR : Hid (plainB x.toList = x.toList.all okP) := Lib.hid (by rw [HL.out]; simp [h40, h3, h4])
          have hb1 : (((x[x.size - 1]'(by omega)).toNat : Int) == 32) = false := beq_eq_false_iff_ne.2 (by omega)
          clear h3 h4
          go_enter Tryd.func83, Tryd.ntmps83
          go_wp2_with (go_at_call 64; refine (W0.out _).mono ?_; rintro e w1 ⟨rfl, rfl⟩)
          go_loop [3] (fun s3 => ∃ k : Nat, k ≤ x.size ∧ s3 = .int .i64 k ∧ Hid (∀ j, (hj : j < x.size) → j < k → okP x[j] = true)) (fun s3 => x.size - (intOf s3).toNat)
          case atStart => exact ⟨0, by omega, rfl, Lib.hid (fun j _ h => absurd h (Nat.not_lt_zero _))⟩
          case round =>
            obtain ⟨k, hk, rfl, HA⟩ := hrel
            by_cases hlt : k < x.size
            · have C1 := Lib.hid (fun W => withinb_any (x[k].toNat : Int) 97 122 W)
              have C2 := Lib.hid (fun W => withinb_any (x[k].toNat : Int) 48 57 W)
              have HO := Lib.hid (show okP x[k] = decide ((97 ≤ x[k].toNat ∧ x[k].toNat ≤ 122) ∨ (48 ≤ x[k].toNat ∧ x[k].toNat ≤ 57) ∨ x[k].toNat = 32) from rfl)
              obtain ⟨r1, hr1⟩ : ∃ r, (decide ((97 : Int) ≤ (x[k].toNat : Int)) && decide ((x[k].toNat : Int) ≤ 122)) = r := ⟨_, rfl⟩
              obtain ⟨r2, hr2⟩ : ∃ r, (decide ((48 : Int) ≤ (x[k].toNat : Int)) && decide ((x[k].toNat : Int) ≤ 57)) = r := ⟨_, rfl⟩
              rw [hr1] at C1
              rw [hr2] at C2
              have hk1 : (k : Int) < (x.size : Int) := by omega
              by_cases hok : (97 ≤ x[k].toNat ∧ x[k].toNat ≤ 122) ∨ (48 ≤ x[k].toNat ∧ x[k].toNat ≤ 57) ∨ x[k].toNat = 32
              · have HN : Hid (okP x[k] = true) := Lib.hid (by rw [HO.out]; simpa using hok)
                have hcase : r1 = true ∨ (r1 = false ∧ r2 = true) ∨ (r1 = false ∧ r2 = false ∧ ((x[k].toNat : Int) != 32) = false) := by
                  subst hr1 hr2
                  simp
                  omega
                clear hok hr1 hr2
                rcases hcase with rfl | ⟨rfl, rfl⟩ | ⟨rfl, rfl, h32⟩
                all_goals
                  go_wp2_with (go_at_call 93; first | ((with_reducible refine (C1.out _).mono ?_); rintro e w2 ⟨rfl, rfl⟩) | ((with_reducible refine (C2.out _).mono ?_); rintro e w2 ⟨rfl, rfl⟩))
                  go_round
                  all_goals first
                    | exact ⟨k + 1, by omega, by go_num, Lib.hid (fun j hj hj2 => by
                        rcases Nat.lt_or_ge j k with h | h
                        · exact HA.out j hj h
                        · obtain rfl : j = k := by omega
                          exact HN.out)⟩
                    | (simp [intOf]; omega)
              · have HN : Hid (okP x[k] = false) := Lib.hid (by rw [HO.out]; simpa using hok)
                obtain rfl : r1 = false := by rw [← hr1, Bool.eq_false_iff]; intro q; simp at q; omega
                obtain rfl : r2 = false := by rw [← hr2, Bool.eq_false_iff]; intro q; simp at q; omega
                have q4 : ((x[k].toNat : Int) != 32) = true := by rw [bne_iff_ne]; omega
                clear hok hr1 hr2
                go_wp2_with (go_at_call 93; first | ((with_reducible refine (C1.out _).mono ?_); rintro e w2 ⟨rfl, rfl⟩) | ((with_reducible refine (C2.out _).mono ?_); rintro e w2 ⟨rfl, rfl⟩))
                go_ret
                exact ⟨by rw [HR.out, allP_not x k hlt HN.out]; rfl, rfl⟩
            · obtain rfl : k = x.size := by omega
              go_wp2
              go_ret
              exact ⟨by rw [HR.out, allP_of x (fun j hj => HA.out j hj hj)]; rfl, rfl⟩
    · rw [show (decide ((1 : Int) ≤ (x.size : Int)) && decide ((x.size : Int) ≤ 40)) = false by simp; omega] at W0
      have HR : Hid (plainB x.toList = false) := Lib.hid (by rw [HL.out]; simp [h40])
      go_enter Tryd.func83, Tryd.ntmps83
      go_wp2_with (go_at_call 64; refine (W0.out _).mono ?_; rintro e w1 ⟨rfl, rfl⟩)
      go_ret
      exact ⟨by rw [HR.out]; rfl, rfl⟩
  · rw [show (decide ((1 : Int) ≤ (x.size : Int)) && decide ((x.size : Int) ≤ 40)) = false by simp; omega] at W0
    have HR : Hid (plainB x.toList = false) := Lib.hid (by unfold plainB; rw [tl_len]; simp [h0])
    go_enter Tryd.func83, Tryd.ntmps83
    go_wp2_with (go_at_call 64; refine (W0.out _).mono ?_; rintro e w1 ⟨rfl, rfl⟩)
    go_ret
    exact ⟨by rw [HR.out]; rfl, rfl⟩
end Go.Proofs.YtkhckgknldiheaaDoor
