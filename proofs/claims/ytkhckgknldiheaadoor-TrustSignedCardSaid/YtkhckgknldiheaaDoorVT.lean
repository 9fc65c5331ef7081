/- The contracts of Wild, within, single, text and Less of the reference implementation of records; no condition beyond those that each theorem names. -/
import Derived.Test.YtkhckgknldiheaaDoorVI
namespace Go.Proofs.YtkhckgknldiheaaDoor
set_option linter.unusedSimpArgs false
set_option linter.unusedVariables false
open Go.RowKit
open NmP

theorem rwithin_any (x a b : Int) (w : World) : Calls Tryd.prog 50 #[.int .i64 x, .int .i64 a, .int .i64 b] w fun e w' => e = .returned (.bool (decide (a ≤ x) && decide (x ≤ b))) ∧ w = w' := by
  by_cases q0 : a ≤ x
  · have d0 : decide (a ≤ x) = true := by simpa using q0
    rw [d0, Bool.true_and]
    go_enter Tryd.func50, Tryd.ntmps50
    go_wp2
    go_ret
    exact ⟨rfl, rfl⟩
  · have d0 : decide (a ≤ x) = false := by simpa using q0
    rw [d0, Bool.false_and]
    go_enter Tryd.func50, Tryd.ntmps50
    go_wp2
    go_ret
    exact ⟨rfl, rfl⟩
theorem rsingle_any (k : Int) (w : World) : Calls Tryd.prog 51 #[.int .i64 k] w fun e w' => e = .returned (.bool (decide (k = 3) || decide (k = 4))) ∧ w = w' := by
  by_cases q0 : k = 3
  · subst q0
    go_enter Tryd.func51, Tryd.ntmps51
    go_wp2
    go_ret
    exact ⟨rfl, rfl⟩
  · by_cases q1 : k = 4
    · subst q1
      go_enter Tryd.func51, Tryd.ntmps51
      go_wp2
      go_ret
      exact ⟨rfl, rfl⟩
    · have f0 : (k == 3) = false := beq_eq_false_iff_ne.2 q0
      have f1 : (k == 4) = false := beq_eq_false_iff_ne.2 q1
      rw [decide_eq_false q0, decide_eq_false q1]
      go_enter Tryd.func51, Tryd.ntmps51
      go_wp2
      go_ret
      exact ⟨rfl, rfl⟩
theorem rwild_any (x : ByteArray) (w : World) (hx : x.size ≤ maxLen) : Calls Tryd.prog 52 #[.string x] w fun e w' => e = .returned (.bool (wildB x.toList)) ∧ w = w' := by
  unfold maxLen at hx
  by_cases h0 : x.size = 0
  · have hxe : x = ByteArray.empty := by
      apply ByteArray.ext; apply Array.eq_empty_of_size_eq_zero; exact h0
    subst hxe
    have HR : Hid (wildB (ByteArray.empty).toList = false) := Lib.hid (by simp [wildB])
    go_enter Tryd.func52, Tryd.ntmps52
    go_wp2
    go_ret
    exact ⟨by rw [HR.out]; rfl, rfl⟩
  · have hp : 0 < x.size := by omega
    have e : wildB x.toList = decide ((x[0]'hp).toNat = 42) := by unfold wildB; rw [tl_get x 0 hp, some_c]; rfl
    by_cases q : (x[0]'hp).toNat = 42
    · have HR : Hid (wildB x.toList = true) := Lib.hid (by rw [e]; simpa using q)
      have hb : (((x[0]'hp).toNat : Int) == 42) = true := by rw [q]; rfl
      clear e q
      go_enter Tryd.func52, Tryd.ntmps52
      go_wp2
      go_ret
      exact ⟨by rw [HR.out]; rfl, rfl⟩
    · have HR : Hid (wildB x.toList = false) := Lib.hid (by rw [e]; simpa using q)
      have hb : (((x[0]'hp).toNat : Int) == 42) = false := beq_eq_false_iff_ne.2 (by omega)
      clear e q
      go_enter Tryd.func52, Tryd.ntmps52
      go_wp2
      go_ret
      exact ⟨by rw [HR.out]; rfl, rfl⟩

set_option maxHeartbeats 1000000 in
theorem rtext_any (x : ByteArray) (w : World) (hx : x.size ≤ maxLen) :
    Calls Tryd.prog 77 #[.string x] w fun e w' => e = .returned (.bool (plainB x.toList)) ∧ w = w' := by
  unfold maxLen at hx
  by_cases h0 : x.size = 0
  · have hxe : x = ByteArray.empty := by
      apply ByteArray.ext; apply Array.eq_empty_of_size_eq_zero; exact h0
    subst hxe
    have HR : Hid (plainB (ByteArray.empty).toList = false) := Lib.hid (by simp [plainB])
    go_enter Tryd.func77, Tryd.ntmps77
    go_wp2
    go_ret
    exact ⟨by rw [HR.out]; rfl, rfl⟩
  have hp : 0 < x.size := by omega
  have HL := Lib.hid (plain_eq x (by omega))
  have n0 : ¬ (x.size : Int) < 1 := by omega
  have n1 : IntKind.i64.wrap ((x.size : Int) - 1) = (x.size : Int) - 1 := IntWalk.i64_in _ (by omega)
  by_cases h40 : x.size ≤ 40
  · have n2 : ¬ (40 : Int) < (x.size : Int) := by omega
    by_cases h3 : (x[0]'hp).toNat = 32
    · have HR : Hid (plainB x.toList = false) := Lib.hid (by rw [HL.out]; simp [h3])
      have hb0 : (((x[0]'hp).toNat : Int) == 32) = true := by rw [h3]; rfl
      clear h3
      go_enter Tryd.func77, Tryd.ntmps77
      go_wp2
      go_ret
      exact ⟨by rw [HR.out]; rfl, rfl⟩
    · have hb0 : (((x[0]'hp).toNat : Int) == 32) = false := beq_eq_false_iff_ne.2 (by omega)
      by_cases h4 : (x[x.size - 1]'(by omega)).toNat = 32
      · have HR : Hid (plainB x.toList = false) := Lib.hid (by rw [HL.out]; simp [h4])
        have hb1 : (((x[x.size - 1]'(by omega)).toNat : Int) == 32) = true := by rw [h4]; rfl
        clear h4 h3
        go_enter Tryd.func77, Tryd.ntmps77
        go_wp2
        go_ret
        exact ⟨by rw [HR.out]; rfl, rfl⟩
      · have HR : Hid (plainB x.toList = x.toList.all okP) := Lib.hid (by rw [HL.out]; simp [h40, h3, h4])
        have hb1 : (((x[x.size - 1]'(by omega)).toNat : Int) == 32) = false := beq_eq_false_iff_ne.2 (by omega)
        clear h3 h4
        go_enter Tryd.func77, Tryd.ntmps77
        go_wp2
        go_loop [4] (fun s4 => ∃ k : Nat, k ≤ x.size ∧ s4 = .int .i64 k ∧ Hid (∀ j, (hj : j < x.size) → j < k → okP x[j] = true)) (fun s4 => x.size - (intOf s4).toNat)
        case atStart => exact ⟨0, by omega, rfl, Lib.hid (fun j _ h => absurd h (Nat.not_lt_zero _))⟩
        case round =>
          obtain ⟨k, hk, rfl, HA⟩ := hrel
          by_cases hlt : k < x.size
          · have HO := Lib.hid (show okP x[k] = decide ((97 ≤ x[k].toNat ∧ x[k].toNat ≤ 122) ∨ (48 ≤ x[k].toNat ∧ x[k].toNat ≤ 57) ∨ x[k].toNat = 32) from rfl)
            have hk1 : (k : Int) < (x.size : Int) := by omega
            have hcase : (97 ≤ x[k].toNat ∧ x[k].toNat ≤ 122) ∨ (¬ (97 ≤ x[k].toNat ∧ x[k].toNat ≤ 122) ∧ 48 ≤ x[k].toNat ∧ x[k].toNat ≤ 57) ∨ x[k].toNat = 32 ∨ (¬ x[k].toNat = 32 ∧ x[k].toNat < 48) ∨ (57 < x[k].toNat ∧ x[k].toNat < 97) ∨ 122 < x[k].toNat := by omega
            have hyes : ((97 ≤ x[k].toNat ∧ x[k].toNat ≤ 122) ∨ (48 ≤ x[k].toNat ∧ x[k].toNat ≤ 57) ∨ x[k].toNat = 32) → Hid (∀ j, (hj : j < x.size) → j < k + 1 → okP x[j] = true) := fun h => Lib.hid (fun j hj hj2 => by
              rcases Nat.lt_or_ge j k with h1 | h1
              · exact HA.out j hj h1
              · obtain rfl : j = k := by omega
                rw [HO.out]
                simpa using h)
            have hno : ¬ ((97 ≤ x[k].toNat ∧ x[k].toNat ≤ 122) ∨ (48 ≤ x[k].toNat ∧ x[k].toNat ≤ 57) ∨ x[k].toNat = 32) → Hid (okP x[k] = false) := fun h => Lib.hid (by rw [HO.out]; simpa using h)
            rcases hcase with hA | hA | hA | hA | hA | hA
            · have H2 := hyes (by omega)
              have q1 : ¬ (x[k].toNat : Int) < 97 := by omega
              have q2 : ¬ 122 < (x[k].toNat : Int) := by omega
              clear hyes hno hA
              go_wp2
              go_round
              · exact ⟨k + 1, by omega, by go_num, H2⟩
              · simp [intOf]
                omega
            · have H2 := hyes (by omega)
              have q1 : (x[k].toNat : Int) < 97 := by omega
              have q2 : ¬ (x[k].toNat : Int) < 48 := by omega
              have q3 : ¬ 57 < (x[k].toNat : Int) := by omega
              clear hyes hno hA
              go_wp2
              go_round
              · exact ⟨k + 1, by omega, by go_num, H2⟩
              · simp [intOf]
                omega
            · have H2 := hyes (by omega)
              have q1 : (x[k].toNat : Int) < 97 := by omega
              have q2 : (x[k].toNat : Int) < 48 := by omega
              have q3 : ((x[k].toNat : Int) != 32) = false := by rw [hA]; rfl
              clear hyes hno hA
              go_wp2
              go_round
              · exact ⟨k + 1, by omega, by go_num, H2⟩
              · simp [intOf]
                omega
            · have H2 := hno (by omega)
              have q1 : (x[k].toNat : Int) < 97 := by omega
              have q2 : (x[k].toNat : Int) < 48 := by omega
              have q3 : ((x[k].toNat : Int) != 32) = true := by rw [bne_iff_ne]; omega
              clear hyes hno hA
              go_wp2
              go_ret
              exact ⟨by rw [HR.out, allP_not x k hlt H2.out]; rfl, rfl⟩
            · have H2 := hno (by omega)
              have q1 : (x[k].toNat : Int) < 97 := by omega
              have q2 : ¬ (x[k].toNat : Int) < 48 := by omega
              have q4 : 57 < (x[k].toNat : Int) := by omega
              have q3 : ((x[k].toNat : Int) != 32) = true := by rw [bne_iff_ne]; omega
              clear hyes hno hA
              go_wp2
              go_ret
              exact ⟨by rw [HR.out, allP_not x k hlt H2.out]; rfl, rfl⟩
            · have H2 := hno (by omega)
              have q1 : ¬ (x[k].toNat : Int) < 97 := by omega
              have q5 : 122 < (x[k].toNat : Int) := by omega
              have q2 : ¬ (x[k].toNat : Int) < 48 := by omega
              have q4 : 57 < (x[k].toNat : Int) := by omega
              have q3 : ((x[k].toNat : Int) != 32) = true := by rw [bne_iff_ne]; omega
              clear hyes hno hA
              go_wp2
              go_ret
              exact ⟨by rw [HR.out, allP_not x k hlt H2.out]; rfl, rfl⟩
          · obtain rfl : k = x.size := by omega
            go_wp2
            go_ret
            exact ⟨by rw [HR.out, allP_of x (fun j hj => HA.out j hj hj)]; rfl, rfl⟩
  · have HR : Hid (plainB x.toList = false) := Lib.hid (by rw [HL.out]; simp [h40])
    have n2 : (40 : Int) < (x.size : Int) := by omega
    go_enter Tryd.func77, Tryd.ntmps77
    go_wp2
    go_ret
    exact ⟨by rw [HR.out]; rfl, rfl⟩

/-- One datum is less than another one: as the program compares. -/
theorem lessI_text {a b : Dt} (h : (a.1.toList == b.1.toList) = false) : decide (lessI a b < 0) = Op.bytesLess a.1.toList b.1.toList := by
  unfold lessI orI cmpS
  rw [h]
  cases Op.bytesLess a.1.toList b.1.toList <;> simp
theorem bytesLess_irrefl : ∀ l : Bs, Op.bytesLess l l = false
  | [] => rfl
  | a :: r => by simp [Op.bytesLess, bytesLess_irrefl r]
theorem lessI_n {a b : Dt} (h : (a.1.toList == b.1.toList) = true) (h2 : a.2.1 ≠ b.2.1) : decide (lessI a b < 0) = decide (a.2.1 < b.2.1) := by
  have e := beq_iff_eq.1 h
  unfold lessI orI cmpS cmpI
  rw [e, bytesLess_irrefl]
  by_cases q : a.2.1 < b.2.1
  · simp [q]
  · have : b.2.1 < a.2.1 := by omega
    simp [q, this]
theorem lessI_m {a b : Dt} (h : (a.1.toList == b.1.toList) = true) (h2 : a.2.1 = b.2.1) : decide (lessI a b < 0) = decide (a.2.2 < b.2.2) := by
  have e := beq_iff_eq.1 h
  unfold lessI orI cmpS cmpI
  rw [e, bytesLess_irrefl, h2]
  by_cases q : a.2.2 < b.2.2
  · simp [q]
  · by_cases q2 : b.2.2 < a.2.2
    · simp [q, q2]
    · simp [q, q2]
theorem rless_any (x y : ByteArray) (n1 m1 n2 m2 : Int) (w : World) :
    Calls Tryd.prog 54 #[.agg #[.string x, .int .i64 n1, .int .i64 m1], .agg #[.string y, .int .i64 n2, .int .i64 m2]] w (ToB (decide (lessI (x, n1, m1) (y, n2, m2) < 0)) w) := by
  have HB := Lib.hid (((Below.refl _ w).alloc (Nat.le_refl _) (.cells #[.string x, .int .i64 n1, .int .i64 m1] 65)).alloc (by simp) (.cells #[.string y, .int .i64 n2, .int .i64 m2] 65))
  cases h : (x.toList == y.toList)
  · have HR := Lib.hid (lessI_text (a := (x, n1, m1)) (b := (y, n2, m2)) h)
    go_enter Tryd.func54, Tryd.ntmps54
    go_wp2
    go_ret
    exact ⟨by rw [HR.out]; rfl, HB.out⟩
  · by_cases h2 : n1 = n2
    · subst h2
      have HR := Lib.hid (lessI_m (a := (x, n1, m1)) (b := (y, n1, m2)) h rfl)
      go_enter Tryd.func54, Tryd.ntmps54
      go_wp2
      go_ret
      exact ⟨by rw [HR.out]; rfl, HB.out⟩
    · have HR := Lib.hid (lessI_n (a := (x, n1, m1)) (b := (y, n2, m2)) h h2)
      have f0 : (n1 != n2) = true := by rw [bne_iff_ne]; exact h2
      go_enter Tryd.func54, Tryd.ntmps54
      go_wp2
      go_ret
      exact ⟨by rw [HR.out]; rfl, HB.out⟩
end Go.Proofs.YtkhckgknldiheaaDoor
