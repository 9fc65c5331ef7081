/- Contracts of label and valid of package name; no condition beyond those that each theorem names. -/
import Derived.Test.YtkhckgknldiheaaDoorRows
import Derived.WalkKit
import Derived.WalkSpells
import Derived.WalkLawsBesides
import Derived.WalkSmall
import Derived.Deep.QuietTactic
import Derived.BigQuiet
import Derived.Deep.LoopGhost
import Derived.Lib.Hide
import Derived.Test.YtkhckgknldiheaaDoorP
namespace Go.Proofs.YtkhckgknldiheaaDoor
set_option linter.unusedSimpArgs false
set_option linter.unusedVariables false
open Go.RowKit

open NmP

theorem ret_bool {a b : Bool} (h : a = b) : Ending.returned (.bool a) = .returned (.bool b) := by rw [h]
theorem tl (s : ByteArray) : s.toList = s.data.toList := Lib.toList_data s
theorem tl_len (s : ByteArray) : s.toList.length = s.size := by rw [tl]; rfl
theorem tl_get (s : ByteArray) (i : Nat) (h : i < s.size) : s.toList[i]? = some s[i] := by
  rw [tl]; simp [h]; rfl
theorem tl_sub (s : ByteArray) (a b : Nat) : (s.extract a b).toList = (s.toList.drop a).take (b - a) := by
  rw [tl, tl, Lib.extract_data]

theorem some_c (c d : UInt8) : (some c == some d) = decide (c.toNat = d.toNat) := by
  rw [Bool.eq_iff_iff]; simp [UInt8.toNat_inj]

/-! label -/
theorem label_eq (x : ByteArray) (f : Bool) (h1 : 1 ≤ x.size) : labelB x.toList f = ((f && x.toList == [42]) || (decide (x.size ≤ 12) && !(decide ((x[0]'(by omega)).toNat = 45)) && !(decide ((x[x.size - 1]'(by omega)).toNat = 45)) && x.toList.all okc)) := by
  unfold labelB
  rw [tl_len, tl_get x 0 (by omega), tl_get x (x.size - 1) (by omega), some_c, some_c]
  simp [h1]
theorem all_of (x : ByteArray) (h : ∀ j, (hj : j < x.size) → okc x[j] = true) : x.toList.all okc = true := by
  rw [List.all_eq_true]
  intro c hc
  obtain ⟨j, hj, rfl⟩ := List.mem_iff_getElem.1 hc
  have hj2 : j < x.size := by rw [tl_len] at hj; exact hj
  have := tl_get x j hj2
  rw [List.getElem?_eq_getElem hj] at this
  rw [Option.some.inj this]
  exact h j hj2
theorem all_not (x : ByteArray) (j : Nat) (hj : j < x.size) (h : okc x[j] = false) : x.toList.all okc = false := by
  rw [List.all_eq_false]
  refine ⟨x[j], ?_, by simp [h]⟩
  have := tl_get x j hj
  exact List.mem_of_getElem? this

set_option maxHeartbeats 1000000 in
theorem label_any (x : ByteArray) (f : Bool) (w : World) (hx : x.size ≤ maxLen) :
    Calls Tryd.prog 88 #[.string x, .bool f] w fun e w' => e = .returned (.bool (labelB x.toList f)) ∧ w = w' := by
  unfold maxLen at hx
  by_cases hs : f = true ∧ x.toList = [42]
  · obtain ⟨rfl, h⟩ := hs
    have h2 : (x.toList == [42]) = true := by simpa using h
    have HR : Hid (labelB x.toList true = true) := Lib.hid (by simp [labelB, h])
    clear h
    go_enter Tryd.func88, Tryd.ntmps88
    go_wp2
    go_ret
    exact ⟨by rw [HR.out]; rfl, rfl⟩
  have hstar : (f && x.toList == [42]) = false := by
    cases f
    · rfl
    · simpa using hs
  have hst : f = false ∨ (x.toList == [42]) = false := by
    cases f
    · exact .inl rfl
    · right; simpa using hs
  clear hs
  by_cases h0 : x.size = 0
  · have hxe : x = ByteArray.empty := by
      apply ByteArray.ext; apply Array.eq_empty_of_size_eq_zero; exact h0
    subst hxe
    have HR : Hid (labelB (ByteArray.empty).toList f = false) := Lib.hid (by cases f <;> simp [labelB])
    clear hstar
    rcases hst with h | h
    · subst h
      go_enter Tryd.func88, Tryd.ntmps88
      go_wp2
      go_ret
      exact ⟨by rw [HR.out]; rfl, rfl⟩
    · cases f
      · go_enter Tryd.func88, Tryd.ntmps88
        go_wp2
        go_ret
        exact ⟨by rw [HR.out]; rfl, rfl⟩
      · go_enter Tryd.func88, Tryd.ntmps88
        go_wp2
        go_ret
        exact ⟨by rw [HR.out]; rfl, rfl⟩
  have HL := Lib.hid (label_eq x f (by omega))
  have HS := Lib.hid hstar
  have hp : 0 < x.size := by omega
  have hne : ¬ x = ByteArray.empty := fun h => by rw [h] at hp; simp at hp
  clear hstar
  have hst2 : f = false ∨ (f = true ∧ (x.toList == [42]) = false) := by
    cases f
    · exact .inl rfl
    · rcases hst with h | h
      · cases h
      · exact .inr ⟨rfl, h⟩
  clear hst
  by_cases h12 : x.size ≤ 12
  · by_cases h3 : (x[0]'hp).toNat = 45
    · have HR : Hid (labelB x.toList f = false) := Lib.hid (by rw [HL.out, HS.out]; simp [h3])
      rcases hst2 with rfl | ⟨rfl, h⟩
      all_goals
        go_enter Tryd.func88, Tryd.ntmps88
        go_wp2
        go_ret
        exact ⟨by rw [HR.out]; rfl, rfl⟩
    · by_cases h4 : (x[x.size - 1]'(by omega)).toNat = 45
      · have HR : Hid (labelB x.toList f = false) := Lib.hid (by rw [HL.out, HS.out]; simp [h4])
        rcases hst2 with rfl | ⟨rfl, h⟩
        all_goals
          go_enter Tryd.func88, Tryd.ntmps88
          go_wp2
          go_ret
          exact ⟨by rw [HR.out]; rfl, rfl⟩
      · have HR : Hid (labelB x.toList f = x.toList.all okc) := Lib.hid (by rw [HL.out, HS.out]; simp [h12, h3, h4])
        have hz0 : ((x.size : Int) == 0) = false := beq_eq_false_iff_ne.2 (by omega)
        have hb0 : (((x[0]'hp).toNat : Int) == 45) = false := beq_eq_false_iff_ne.2 (by omega)
        have hb1 : (((x[x.size - 1]'(by omega)).toNat : Int) == 45) = false := beq_eq_false_iff_ne.2 (by omega)
        rcases hst2 with rfl | ⟨rfl, h⟩
        all_goals
          go_enter Tryd.func88, Tryd.ntmps88
          go_wp2
          go_loop [5] (fun s5 => ∃ k : Nat, k ≤ x.size ∧ s5 = .int .i64 k ∧ Hid (∀ j, (hj : j < x.size) → j < k → okc x[j] = true)) (fun s5 => x.size - (intOf s5).toNat)
          case atStart => exact ⟨0, by omega, rfl, Lib.hid (fun j _ h => absurd h (Nat.not_lt_zero _))⟩
          case round =>
            obtain ⟨k, hk, rfl, HA⟩ := hrel
            by_cases hlt : k < x.size
            · have hokc : okc x[k] = decide ((97 ≤ x[k].toNat ∧ x[k].toNat ≤ 122) ∨ (48 ≤ x[k].toNat ∧ x[k].toNat ≤ 57) ∨ x[k].toNat = 45) := rfl
              have HO := Lib.hid hokc
              clear hokc
              by_cases hok : (97 ≤ x[k].toNat ∧ x[k].toNat ≤ 122) ∨ (48 ≤ x[k].toNat ∧ x[k].toNat ≤ 57) ∨ x[k].toNat = 45
              · have HN : Hid (okc x[k] = true) := Lib.hid (by rw [HO.out]; simpa using hok)
                go_wp2
                all_goals go_round
                all_goals first
                  | exact ⟨k + 1, by omega, by go_num, Lib.hid (fun j hj hj2 => by
                      rcases Nat.lt_or_ge j k with h | h
                      · exact HA.out j hj h
                      · obtain rfl : j = k := by omega
                        exact HN.out)⟩
                  | (simp [intOf]; omega)
              · have HN : Hid (okc x[k] = false) := Lib.hid (by rw [HO.out]; simpa using hok)
                have hok2 : ((x[k].toNat : Int) < 97 ∨ 122 < (x[k].toNat : Int)) ∧ ((x[k].toNat : Int) < 48 ∨ 57 < (x[k].toNat : Int)) ∧ ¬ (x[k].toNat : Int) = 45 := by omega
                clear hok
                obtain ⟨q1, q2, q3⟩ := hok2
                have q4 : ((x[k].toNat : Int) != 45) = true := by rw [bne_iff_ne]; exact q3
                go_wp2
                all_goals (try (exfalso; rename_i h; rcases h with h | h <;> first | omega | (rw [q4] at h; cases h)))
                all_goals go_ret
                all_goals exact ⟨by rw [HR.out, all_not x k hlt HN.out]; rfl, rfl⟩
            · obtain rfl : k = x.size := by omega
              go_wp2
              go_ret
              exact ⟨by rw [HR.out, all_of x (fun j hj => HA.out j hj hj)]; rfl, rfl⟩
  · have HR : Hid (labelB x.toList f = false) := Lib.hid (by rw [HL.out, HS.out]; simp [h12])
    rcases hst2 with rfl | ⟨rfl, h⟩
    all_goals
      go_enter Tryd.func88, Tryd.ntmps88
      go_wp2
      go_ret
      exact ⟨by rw [HR.out]; rfl, rfl⟩
end Go.Proofs.YtkhckgknldiheaaDoor
