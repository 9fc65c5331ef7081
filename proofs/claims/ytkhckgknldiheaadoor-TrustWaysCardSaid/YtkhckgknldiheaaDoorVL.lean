/- The contract of Label of the reference implementation of names: it is the label of package name that is no star; no condition beyond those that the theorem names. -/
import Derived.Test.YtkhckgknldiheaaDoorN2
namespace Go.Proofs.YtkhckgknldiheaaDoor
set_option linter.unusedSimpArgs false
set_option linter.unusedVariables false
open Go.RowKit
open NmP

/-- A byte may stand at a place of a label. -/
def InnP (n i c : Nat) : Prop := (97 ≤ c ∧ c ≤ 122) ∨ (48 ≤ c ∧ c ≤ 57) ∨ (c = 45 ∧ 0 < i ∧ i + 1 < n)
theorem lab_false (x : ByteArray) (j : Nat) (hj : j < x.size) (h : ¬ InnP x.size j (x[j]).toNat) : labelB x.toList false = false := by
  rw [label_eq x false (by omega)]
  by_cases ho : okc x[j] = true
  · have h1 : (x[j]).toNat = 45 := by
      have : (97 ≤ x[j].toNat ∧ x[j].toNat ≤ 122) ∨ (48 ≤ x[j].toNat ∧ x[j].toNat ≤ 57) ∨ x[j].toNat = 45 := of_decide_eq_true ho
      unfold InnP at h
      omega
    have h2 : j = 0 ∨ j = x.size - 1 := by
      unfold InnP at h
      omega
    rcases h2 with rfl | h2
    · simp [h1]
    · subst h2
      simp [h1]
  · rw [all_not x j hj (by simpa using ho)]
    simp
theorem lab_true (x : ByteArray) (h : ∀ j, (hj : j < x.size) → InnP x.size j (x[j]).toNat) : labelB x.toList false = (decide (1 ≤ x.size) && decide (x.size ≤ 12)) := by
  by_cases h0 : x.size = 0
  · have hxe : x = ByteArray.empty := by
      apply ByteArray.ext; apply Array.eq_empty_of_size_eq_zero; exact h0
    subst hxe
    simp [labelB]
  · rw [label_eq x false (by omega), all_of x (fun j hj => by
      have := h j hj
      unfold InnP at this
      show decide _ = true
      rw [decide_eq_true_iff]
      omega)]
    have ha := h 0 (by omega)
    have hb := h (x.size - 1) (by omega)
    have ha2 : ¬ (x[0]'(by omega)).toNat = 45 := by unfold InnP at ha; omega
    have hb2 : ¬ (x[x.size - 1]'(by omega)).toNat = 45 := by unfold InnP at hb; omega
    simp [ha2, hb2]
    omega

set_option maxHeartbeats 1000000 in
theorem rlabel_any (x : ByteArray) (w : World) (hx : x.size ≤ maxLen) :
    Calls Tryd.prog 60 #[.string x] w fun e w' => e = .returned (.bool (labelB x.toList false)) ∧ w = w' := by
  unfold maxLen at hx
  go_enter Tryd.func60, Tryd.ntmps60
  go_wp2
  go_loop [3] (fun s3 => ∃ k : Nat, k ≤ x.size ∧ s3 = .int .i64 k ∧ Hid (∀ j, (hj : j < x.size) → j < k → InnP x.size j (x[j]).toNat)) (fun s3 => x.size - (intOf s3).toNat)
  case atStart => exact ⟨0, by omega, rfl, Lib.hid (fun j _ h => absurd h (Nat.not_lt_zero _))⟩
  case round =>
    obtain ⟨k, hk, rfl, HA⟩ := hrel
    by_cases hlt : k < x.size
    · have hw1 : IntKind.i64.wrap ((x.size : Int) - 1) = (x.size : Int) - 1 := IntWalk.i64_in _ (by omega)
      by_cases hA : 97 ≤ x[k].toNat ∧ x[k].toNat ≤ 122
      · have HN : Hid (InnP x.size k x[k].toNat) := Lib.hid (.inl hA)
        have g1 : ((x[k].toNat : Int) == 45) = false := beq_eq_false_iff_ne.2 (by omega)
        obtain ⟨q1, q2⟩ := hA
        go_wp2
        all_goals go_round
        all_goals first
          | exact ⟨k + 1, by omega, by go_num, Lib.hid (fun j hj hj2 => by
              rcases Nat.lt_or_ge j k with h | h
              · exact HA.out j hj h
              · obtain rfl : j = k := by omega
                exact HN.out)⟩
          | (simp [intOf]; omega)
      · by_cases hB : 48 ≤ x[k].toNat ∧ x[k].toNat ≤ 57
        · have HN : Hid (InnP x.size k x[k].toNat) := Lib.hid (.inr (.inl hB))
          have g1 : ((x[k].toNat : Int) == 45) = false := beq_eq_false_iff_ne.2 (by omega)
          obtain ⟨q1, q2⟩ := hB
          have q3 : (x[k].toNat : Int) < 97 := by omega
          go_wp2
          all_goals go_round
          all_goals first
            | exact ⟨k + 1, by omega, by go_num, Lib.hid (fun j hj hj2 => by
                rcases Nat.lt_or_ge j k with h | h
                · exact HA.out j hj h
                · obtain rfl : j = k := by omega
                  exact HN.out)⟩
            | (simp [intOf]; omega)
        · by_cases hC : x[k].toNat = 45
          · have g1 : ((x[k].toNat : Int) == 45) = true := beq_iff_eq.2 (by omega)
            have g2 : (x[k].toNat : Int) = 45 := by omega
            by_cases hD : 0 < k ∧ k + 1 < x.size
            · have HN : Hid (InnP x.size k x[k].toNat) := Lib.hid (.inr (.inr ⟨hC, hD⟩))
              obtain ⟨q1, q2⟩ := hD
              have q3 : (0 : Int) < (k : Int) := by omega
              have q4 : (k : Int) < (x.size : Int) - 1 := by omega
              clear hA hB
              go_wp2
              all_goals go_round
              all_goals first
                | exact ⟨k + 1, by omega, by go_num, Lib.hid (fun j hj hj2 => by
                    rcases Nat.lt_or_ge j k with h | h
                    · exact HA.out j hj h
                    · obtain rfl : j = k := by omega
                      exact HN.out)⟩
                | (simp [intOf]; omega)
            · have HN : Hid (¬ InnP x.size k x[k].toNat) := Lib.hid (by unfold InnP; omega)
              clear hA hB
              by_cases h0 : k = 0
              · subst h0
                go_wp2
                go_ret
                exact ⟨by rw [lab_false x 0 hlt HN.out]; rfl, rfl⟩
              · have q3 : (0 : Int) < (k : Int) := by omega
                have q4 : ¬ ((k : Int) < (x.size : Int) - 1) := by omega
                go_wp2
                go_ret
                exact ⟨by rw [lab_false x k hlt HN.out]; rfl, rfl⟩
          · have HN : Hid (¬ InnP x.size k x[k].toNat) := Lib.hid (by unfold InnP; omega)
            have g1 : ((x[k].toNat : Int) == 45) = false := beq_eq_false_iff_ne.2 (by omega)
            have r1 : (x[k].toNat : Int) < 97 ∨ 122 < (x[k].toNat : Int) := by omega
            have r2 : (x[k].toNat : Int) < 48 ∨ 57 < (x[k].toNat : Int) := by omega
            clear hA hB
            rcases r1 with r1 | r1
            · rcases r2 with r2 | r2
              · go_wp2
                go_ret
                exact ⟨by rw [lab_false x k hlt HN.out]; rfl, rfl⟩
              · have r3 : ¬ (x[k].toNat : Int) < 48 := by omega
                go_wp2
                go_ret
                exact ⟨by rw [lab_false x k hlt HN.out]; rfl, rfl⟩
            · have r3 : ¬ (x[k].toNat : Int) < 48 := by omega
              have r4 : ¬ (x[k].toNat : Int) < 97 := by omega
              have r5 : 57 < (x[k].toNat : Int) := by omega
              go_wp2
              go_ret
              exact ⟨by rw [lab_false x k hlt HN.out]; rfl, rfl⟩
    · obtain rfl : k = x.size := by omega
      have hq := lab_true x (fun j hj => HA.out j hj hj)
      by_cases h1 : 1 ≤ x.size
      · by_cases h2 : x.size ≤ 12
        · have HR : Hid (labelB x.toList false = true) := Lib.hid (by rw [hq]; simp [h1, h2])
          have h3 : (1 : Int) ≤ (x.size : Int) := by omega
          have h4 : (x.size : Int) ≤ 12 := by omega
          clear hq
          go_wp2
          go_ret
          exact ⟨by rw [HR.out]; simp [h3, h4], rfl⟩
        · have HR : Hid (labelB x.toList false = false) := Lib.hid (by rw [hq]; simp [h1, h2])
          have h3 : (1 : Int) ≤ (x.size : Int) := by omega
          have h4 : ¬ (x.size : Int) ≤ 12 := by omega
          clear hq
          go_wp2
          go_ret
          exact ⟨by rw [HR.out]; simp [h3, h4], rfl⟩
      · have HR : Hid (labelB x.toList false = false) := Lib.hid (by rw [hq]; simp [h1])
        have h3 : ¬ (1 : Int) ≤ (x.size : Int) := by omega
        clear hq
        go_wp2
        go_ret
        exact ⟨by rw [HR.out]; simp [h3], rfl⟩
end Go.Proofs.YtkhckgknldiheaaDoor
