/- The contract of cmp.Or at three numbers; no condition beyond those that each theorem names. -/
import Derived.Test.YtkhckgknldiheaaDoorR4
namespace Go.Proofs.YtkhckgknldiheaaDoor
set_option linter.unusedSimpArgs false
set_option linter.unusedVariables false
open Go.RowKit
open NmP

def orI (a b c : Int) : Int := if a ≠ 0 then a else if b ≠ 0 then b else c
theorem or_three (a b c : Int) (g : Nat) (w : World) (h0 : w.cell? ⟨g, 0, none⟩ = some (.int .i64 a)) (h1 : w.cell? ⟨g, 1, none⟩ = some (.int .i64 b)) (h2 : w.cell? ⟨g, 2, none⟩ = some (.int .i64 c)) :
    Calls Tryd.prog 84 #[.slice (some ⟨g, 0, none⟩) 3 3] w fun e w' => e = .returned (.int .i64 (orI a b c)) ∧ w = w' := by
  by_cases q0 : a = 0
  case neg =>
    have z0 : (a != 0) = true := by rw [bne_iff_ne]; exact q0
    rw [show orI a b c = a from if_pos q0]
    clear q0
    go_enter Tryd.func84, Tryd.ntmps84
    go_wp2
    refine wp_loop_rounds 1 ?_
    rw [rounds_succ]
    go_wp2
    go_ret
    exact ⟨rfl, rfl⟩
  have z0 : (a != 0) = false := by rw [q0]; rfl
  by_cases q1 : b = 0
  case neg =>
    have z1 : (b != 0) = true := by rw [bne_iff_ne]; exact q1
    rw [show orI a b c = b by unfold orI; rw [if_neg (by simp [q0]), if_pos q1]]
    clear q0 q1
    go_enter Tryd.func84, Tryd.ntmps84
    go_wp2
    refine wp_loop_rounds 2 ?_
    rw [rounds_succ]
    go_wp2
    rw [rounds_succ]
    go_wp2
    go_ret
    exact ⟨rfl, rfl⟩
  have z1 : (b != 0) = false := by rw [q1]; rfl
  rw [show orI a b c = c by unfold orI; rw [if_neg (by simp [q0]), if_neg (by simp [q1])]]
  by_cases q2 : c = 0
  case neg =>
    have z2 : (c != 0) = true := by rw [bne_iff_ne]; exact q2
    clear q0 q1 q2
    go_enter Tryd.func84, Tryd.ntmps84
    go_wp2
    refine wp_loop_rounds 3 ?_
    rw [rounds_succ]
    go_wp2
    rw [rounds_succ]
    go_wp2
    rw [rounds_succ]
    go_wp2
    go_ret
    exact ⟨rfl, rfl⟩
  have z2 : (c != 0) = false := by rw [q2]; rfl
  clear q0 q1
  subst q2
  go_enter Tryd.func84, Tryd.ntmps84
  go_wp2
  refine wp_loop_rounds 4 ?_
  rw [rounds_succ]
  go_wp2
  rw [rounds_succ]
  go_wp2
  rw [rounds_succ]
  go_wp2
  rw [rounds_succ]
  go_wp2
  go_ret
  exact ⟨rfl, rfl⟩
end Go.Proofs.YtkhckgknldiheaaDoor
