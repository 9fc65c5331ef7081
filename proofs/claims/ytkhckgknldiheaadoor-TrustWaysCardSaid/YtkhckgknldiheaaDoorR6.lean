/- The contract of cmp.Compare at strings; no condition beyond those that each theorem names. -/
import Derived.Test.YtkhckgknldiheaaDoorR5
namespace Go.Proofs.YtkhckgknldiheaaDoor
set_option linter.unusedSimpArgs false
set_option linter.unusedVariables false
open Go.RowKit
open NmP

theorem nan_str (x : ByteArray) (w : World) : Calls Tryd.prog 94 #[.string x] w fun e w' => e = .returned (.bool false) ∧ w = w' := by
  go_enter Tryd.func94, Tryd.ntmps94
  go_wp2
  go_ret
  exact ⟨rfl, rfl⟩
/-- How two texts compare, byte by byte. -/
def cmpS (a b : Bs) : Int := if Op.bytesLess a b = true then -1 else if (a == b) = true then 0 else 1
theorem cmp_str (a b : ByteArray) (w : World) : Calls Tryd.prog 85 #[.string a, .string b] w fun e w' => e = .returned (.int .i64 (cmpS a.toList b.toList)) ∧ w = w' := by
  cases q0 : Op.bytesLess a.toList b.toList
  · cases q1 : a.toList == b.toList
    · have q2 : (!a.toList == b.toList) = true := by rw [q1]; rfl
      rw [show cmpS a.toList b.toList = 1 by unfold cmpS; rw [if_neg (by simp [q0]), if_neg (by simp [q1])]]
      go_enter Tryd.func85, Tryd.ntmps85
      go_wp2_with (go_at_call 94; refine (nan_str _ _).mono ?_; rintro e w1 ⟨rfl, rfl⟩)
      all_goals go_ret
      all_goals exact ⟨rfl, rfl⟩
    · have q2 : (!a.toList == b.toList) = false := by rw [q1]; rfl
      rw [show cmpS a.toList b.toList = 0 by unfold cmpS; rw [if_neg (by simp [q0]), if_pos q1]]
      go_enter Tryd.func85, Tryd.ntmps85
      go_wp2_with (go_at_call 94; refine (nan_str _ _).mono ?_; rintro e w1 ⟨rfl, rfl⟩)
      all_goals go_ret
      all_goals exact ⟨rfl, rfl⟩
  · rw [show cmpS a.toList b.toList = -1 from if_pos q0]
    go_enter Tryd.func85, Tryd.ntmps85
    go_wp2_with (go_at_call 94; refine (nan_str _ _).mono ?_; rintro e w1 ⟨rfl, rfl⟩)
    all_goals go_ret
    all_goals exact ⟨rfl, rfl⟩
end Go.Proofs.YtkhckgknldiheaaDoor
