/- Times of package resign without a time; no condition beyond those that each theorem names. -/
import Derived.Test.YteojjbfeblbfdaaDoorRB
namespace Go.Proofs.YteojjbfeblbfdaaDoor
set_option linter.unusedSimpArgs false
set_option linter.unusedVariables false
open Go.RowKit
open SpP

set_option maxHeartbeats 2000000 in
set_option maxRecDepth 100000 in
theorem bad_step {b e n d l : Int} (w : World) (g0 : 0 ≤ d) (k0 : d ≤ 1000) (g1 : d ≤ b) (k1 : b ≤ 10000000) (g2 : 0 ≤ e) (k2 : e ≤ 10000000) (g3 : 1 ≤ n) (k3 : n ≤ 10000000) (g4 : 0 ≤ l) (k4 : l ≤ 100000) (q : ¬ e ≤ b) (z : n - max 1 l - 3 * d + 2 < 1) : Calls Tryd.prog 34 #[.int .i64 b, .int .i64 e, .int .i64 n, .int .i64 d, .int .i64 l] w fun e w' => e = .returned (.tuple #[.slice none 0 0, .int .i64 32]) ∧ Below w.heap.size w w' := by
  have f0 : decide (d < 0) = false := by simpa using g0
  have h0 : decide (1000 < d) = false := by simpa using k0
  have f1 : decide (b < d) = false := by simpa using g1
  have h1 : decide (10000000 < b) = false := by simpa using k1
  have f2 : decide (e < 0) = false := by simpa using g2
  have h2 : decide (10000000 < e) = false := by simpa using k2
  have f3 : decide (n < 1) = false := by simpa using g3
  have h3 : decide (10000000 < n) = false := by simpa using k3
  have f4 : decide (l < 0) = false := by simpa using g4
  have h4 : decide (100000 < l) = false := by simpa using k4
  have w1 : IntKind.i64.wrap (n - max 1 l) = n - max 1 l := IntWalk.i64_in _ (by omega)
  have w2 : IntKind.i64.wrap (3 * d) = 3 * d := IntWalk.i64_in _ (by omega)
  have w3 : IntKind.i64.wrap (n - max 1 l - 3 * d) = n - max 1 l - 3 * d := IntWalk.i64_in _ (by omega)
  have w4 : IntKind.i64.wrap (n - max 1 l - 3 * d + 2) = n - max 1 l - 3 * d + 2 := IntWalk.i64_in _ (by omega)
  go_enter Tryd.func34, Tryd.ntmps34
  have i0 := ix0 b e n d l
  have i1 := ix1 b e n d l
  have i2 := ix2 b e n d l
  have i3 := ix3 b e n d l
  have i4 := ix4 b e n d l
  go_wp2
  refine wp_loop_rounds 6 ?_
  rw [rounds_succ]
  go_wp2
  rw [rounds_succ]
  go_wp2
  rw [rounds_succ]
  go_wp2
  rw [rounds_succ]
  go_wp2
  rw [rounds_succ]
  go_wp2
  rw [rounds_succ]
  go_wp2
  all_goals
    refine bodyPost_ret (v := .tuple #[.slice none 0 0, .int .i64 32]) (by simp [results, Tryd.f34, go_sem]) rfl ⟨rfl, ?_⟩
    repeat (refine Below.alloc ?_ (by first | exact Nat.le_refl _ | (simp only [World.size_alloc]; omega)) _)
    exact Below.refl _ _
end Go.Proofs.YteojjbfeblbfdaaDoor
