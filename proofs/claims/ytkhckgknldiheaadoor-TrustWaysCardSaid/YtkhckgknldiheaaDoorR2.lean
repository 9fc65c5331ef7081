/- The contracts of cmp.Compare at numbers and of cmp.Or at three numbers; no condition beyond those that each theorem names. -/
import Derived.Test.YtkhckgknldiheaaDoorR1
namespace Go.Proofs.YtkhckgknldiheaaDoor
set_option linter.unusedSimpArgs false
set_option linter.unusedVariables false
open Go.RowKit
open NmP

theorem nan_int (x : Int) (w : World) : Calls Tryd.prog 95 #[.int .i64 x] w fun e w' => e = .returned (.bool false) ∧ w = w' := by
  go_enter Tryd.func95, Tryd.ntmps95
  go_wp2
  go_ret
  exact ⟨by simp, rfl⟩
/-- How two numbers compare. -/
def cmpI (a b : Int) : Int := if a < b then -1 else if b < a then 1 else 0
theorem cmp_int (a b : Int) (w : World) : Calls Tryd.prog 86 #[.int .i64 a, .int .i64 b] w fun e w' => e = .returned (.int .i64 (cmpI a b)) ∧ w = w' := by
  by_cases q0 : a < b
  · rw [show cmpI a b = -1 from if_pos q0]
    go_enter Tryd.func86, Tryd.ntmps86
    go_wp2_with (go_at_call 95; refine (nan_int _ _).mono ?_; rintro e w1 ⟨rfl, rfl⟩)
    go_ret
    exact ⟨rfl, rfl⟩
  · by_cases q1 : b < a
    · rw [show cmpI a b = 1 by unfold cmpI; rw [if_neg q0, if_pos q1]]
      go_enter Tryd.func86, Tryd.ntmps86
      go_wp2_with (go_at_call 95; refine (nan_int _ _).mono ?_; rintro e w1 ⟨rfl, rfl⟩)
      go_ret
      exact ⟨rfl, rfl⟩
    · rw [show cmpI a b = 0 by unfold cmpI; rw [if_neg q0, if_neg q1]]
      go_enter Tryd.func86, Tryd.ntmps86
      go_wp2_with (go_at_call 95; refine (nan_int _ _).mono ?_; rintro e w1 ⟨rfl, rfl⟩)
      go_ret
      exact ⟨rfl, rfl⟩
end Go.Proofs.YtkhckgknldiheaaDoor
