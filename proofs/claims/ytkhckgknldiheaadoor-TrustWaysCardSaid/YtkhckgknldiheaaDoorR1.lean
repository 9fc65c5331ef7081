/- The contracts of within, wildcard and plain of package record; no condition beyond those that each theorem names. -/
import Derived.Test.YtkhckgknldiheaaDoorN2
namespace Go.Proofs.YtkhckgknldiheaaDoor
set_option linter.unusedSimpArgs false
set_option linter.unusedVariables false
open Go.RowKit
open NmP

theorem within_any (x a b : Int) (w : World) : Calls Tryd.prog 64 #[.int .i64 x, .int .i64 a, .int .i64 b] w fun e w' => e = .returned (.bool (decide (a ≤ x) && decide (x ≤ b))) ∧ w = w' := by
  by_cases q0 : a ≤ x
  · have d0 : decide (a ≤ x) = true := by simpa using q0
    rw [d0, Bool.true_and]
    go_enter Tryd.func64, Tryd.ntmps64
    go_wp2
    go_ret
    exact ⟨rfl, rfl⟩
  · have d0 : decide (a ≤ x) = false := by simpa using q0
    rw [d0, Bool.false_and]
    go_enter Tryd.func64, Tryd.ntmps64
    go_wp2
    go_ret
    exact ⟨rfl, rfl⟩
theorem withinb_any (x a b : Int) (w : World) : Calls Tryd.prog 93 #[.int .u8 x, .int .u8 a, .int .u8 b] w fun e w' => e = .returned (.bool (decide (a ≤ x) && decide (x ≤ b))) ∧ w = w' := by
  by_cases q0 : a ≤ x
  · have d0 : decide (a ≤ x) = true := by simpa using q0
    rw [d0, Bool.true_and]
    go_enter Tryd.func93, Tryd.ntmps93
    go_wp2
    go_ret
    exact ⟨rfl, rfl⟩
  · have d0 : decide (a ≤ x) = false := by simpa using q0
    rw [d0, Bool.false_and]
    go_enter Tryd.func93, Tryd.ntmps93
    go_wp2
    go_ret
    exact ⟨rfl, rfl⟩
/-- A byte of a text. -/
def okP (c : UInt8) : Bool := decide ((97 ≤ c.toNat ∧ c.toNat ≤ 122) ∨ (48 ≤ c.toNat ∧ c.toNat ≤ 57) ∨ c.toNat = 32)
def plainB (l : Bs) : Bool := decide (1 ≤ l.length) && decide (l.length ≤ 40) && !(l[0]? == some 32) && !(l[l.length - 1]? == some 32) && l.all okP
end Go.Proofs.YtkhckgknldiheaaDoor
