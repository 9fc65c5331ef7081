/- The exits of Times of package resign; no condition beyond those that each theorem names. -/
import Derived.Test.YteojjbfeblbfdaaDoorRS
namespace Go.Proofs.YteojjbfeblbfdaaDoor
set_option linter.unusedSimpArgs false
set_option linter.unusedVariables false
open Go.RowKit
open SpP

theorem ix0 (b e n d l : Int) (W : World) : (Instr.index 118 (.agg #[.int .i64 d, .int .i64 0, .int .i64 1000, .int .i64 b, .int .i64 d, .int .i64 10000000, .int .i64 e, .int .i64 0, .int .i64 10000000, .int .i64 n, .int .i64 1, .int .i64 10000000, .int .i64 l, .int .i64 0, .int .i64 100000]) (.int .i64 0)).run Tryd.prog W = .ok (.agg #[.int .i64 d, .int .i64 0, .int .i64 1000]) W := by kernel_rfl
theorem ix1 (b e n d l : Int) (W : World) : (Instr.index 118 (.agg #[.int .i64 d, .int .i64 0, .int .i64 1000, .int .i64 b, .int .i64 d, .int .i64 10000000, .int .i64 e, .int .i64 0, .int .i64 10000000, .int .i64 n, .int .i64 1, .int .i64 10000000, .int .i64 l, .int .i64 0, .int .i64 100000]) (.int .i64 1)).run Tryd.prog W = .ok (.agg #[.int .i64 b, .int .i64 d, .int .i64 10000000]) W := by kernel_rfl
theorem ix2 (b e n d l : Int) (W : World) : (Instr.index 118 (.agg #[.int .i64 d, .int .i64 0, .int .i64 1000, .int .i64 b, .int .i64 d, .int .i64 10000000, .int .i64 e, .int .i64 0, .int .i64 10000000, .int .i64 n, .int .i64 1, .int .i64 10000000, .int .i64 l, .int .i64 0, .int .i64 100000]) (.int .i64 2)).run Tryd.prog W = .ok (.agg #[.int .i64 e, .int .i64 0, .int .i64 10000000]) W := by kernel_rfl
theorem ix3 (b e n d l : Int) (W : World) : (Instr.index 118 (.agg #[.int .i64 d, .int .i64 0, .int .i64 1000, .int .i64 b, .int .i64 d, .int .i64 10000000, .int .i64 e, .int .i64 0, .int .i64 10000000, .int .i64 n, .int .i64 1, .int .i64 10000000, .int .i64 l, .int .i64 0, .int .i64 100000]) (.int .i64 3)).run Tryd.prog W = .ok (.agg #[.int .i64 n, .int .i64 1, .int .i64 10000000]) W := by kernel_rfl
theorem ix4 (b e n d l : Int) (W : World) : (Instr.index 118 (.agg #[.int .i64 d, .int .i64 0, .int .i64 1000, .int .i64 b, .int .i64 d, .int .i64 10000000, .int .i64 e, .int .i64 0, .int .i64 10000000, .int .i64 n, .int .i64 1, .int .i64 10000000, .int .i64 l, .int .i64 0, .int .i64 100000]) (.int .i64 4)).run Tryd.prog W = .ok (.agg #[.int .i64 l, .int .i64 0, .int .i64 100000]) W := by kernel_rfl
set_option maxHeartbeats 1000000 in
set_option maxRecDepth 100000 in
theorem bad_0low {b e n d l : Int} (w : World)  (p0 : d < 0) : Calls Tryd.prog 34 #[.int .i64 b, .int .i64 e, .int .i64 n, .int .i64 d, .int .i64 l] w fun e w' => e = .returned (.tuple #[.slice none 0 0, .int .i64 1]) ∧ Below w.heap.size w w' := by
  have f0 : decide (d < 0) = true := by simpa using p0
  go_enter Tryd.func34, Tryd.ntmps34
  have i0 := ix0 b e n d l
  have i1 := ix1 b e n d l
  have i2 := ix2 b e n d l
  have i3 := ix3 b e n d l
  have i4 := ix4 b e n d l
  go_wp2
  refine wp_loop_rounds 1 ?_
  rw [rounds_succ]
  go_wp2
  refine bodyPost_ret (v := .tuple #[.slice none 0 0, .int .i64 1]) (by simp [results, Tryd.f34, go_sem]) rfl ⟨rfl, ?_⟩
  repeat (refine Below.alloc ?_ (by first | exact Nat.le_refl _ | (simp only [World.size_alloc]; omega)) _)
  exact Below.refl _ _
set_option maxHeartbeats 1000000 in
set_option maxRecDepth 100000 in
theorem bad_0high {b e n d l : Int} (w : World)  (g0 : 0 ≤ d) (p0 : 1000 < d) : Calls Tryd.prog 34 #[.int .i64 b, .int .i64 e, .int .i64 n, .int .i64 d, .int .i64 l] w fun e w' => e = .returned (.tuple #[.slice none 0 0, .int .i64 1]) ∧ Below w.heap.size w w' := by
  have f0 : decide (d < 0) = false := by simpa using g0
  have h0 : decide (1000 < d) = true := by simpa using p0
  go_enter Tryd.func34, Tryd.ntmps34
  have i0 := ix0 b e n d l
  have i1 := ix1 b e n d l
  have i2 := ix2 b e n d l
  have i3 := ix3 b e n d l
  have i4 := ix4 b e n d l
  go_wp2
  refine wp_loop_rounds 1 ?_
  rw [rounds_succ]
  go_wp2
  refine bodyPost_ret (v := .tuple #[.slice none 0 0, .int .i64 1]) (by simp [results, Tryd.f34, go_sem]) rfl ⟨rfl, ?_⟩
  repeat (refine Below.alloc ?_ (by first | exact Nat.le_refl _ | (simp only [World.size_alloc]; omega)) _)
  exact Below.refl _ _
set_option maxHeartbeats 1000000 in
set_option maxRecDepth 100000 in
theorem bad_1low {b e n d l : Int} (w : World) (g0 : 0 ≤ d) (k0 : d ≤ 1000) (p1 : b < d) : Calls Tryd.prog 34 #[.int .i64 b, .int .i64 e, .int .i64 n, .int .i64 d, .int .i64 l] w fun e w' => e = .returned (.tuple #[.slice none 0 0, .int .i64 1]) ∧ Below w.heap.size w w' := by
  have f0 : decide (d < 0) = false := by simpa using g0
  have h0 : decide (1000 < d) = false := by simpa using k0
  have f1 : decide (b < d) = true := by simpa using p1
  go_enter Tryd.func34, Tryd.ntmps34
  have i0 := ix0 b e n d l
  have i1 := ix1 b e n d l
  have i2 := ix2 b e n d l
  have i3 := ix3 b e n d l
  have i4 := ix4 b e n d l
  go_wp2
  refine wp_loop_rounds 2 ?_
  rw [rounds_succ]
  go_wp2
  rw [rounds_succ]
  go_wp2
  refine bodyPost_ret (v := .tuple #[.slice none 0 0, .int .i64 1]) (by simp [results, Tryd.f34, go_sem]) rfl ⟨rfl, ?_⟩
  repeat (refine Below.alloc ?_ (by first | exact Nat.le_refl _ | (simp only [World.size_alloc]; omega)) _)
  exact Below.refl _ _
set_option maxHeartbeats 1000000 in
set_option maxRecDepth 100000 in
theorem bad_1high {b e n d l : Int} (w : World) (g0 : 0 ≤ d) (k0 : d ≤ 1000) (g1 : d ≤ b) (p1 : 10000000 < b) : Calls Tryd.prog 34 #[.int .i64 b, .int .i64 e, .int .i64 n, .int .i64 d, .int .i64 l] w fun e w' => e = .returned (.tuple #[.slice none 0 0, .int .i64 1]) ∧ Below w.heap.size w w' := by
  have f0 : decide (d < 0) = false := by simpa using g0
  have h0 : decide (1000 < d) = false := by simpa using k0
  have f1 : decide (b < d) = false := by simpa using g1
  have h1 : decide (10000000 < b) = true := by simpa using p1
  go_enter Tryd.func34, Tryd.ntmps34
  have i0 := ix0 b e n d l
  have i1 := ix1 b e n d l
  have i2 := ix2 b e n d l
  have i3 := ix3 b e n d l
  have i4 := ix4 b e n d l
  go_wp2
  refine wp_loop_rounds 2 ?_
  rw [rounds_succ]
  go_wp2
  rw [rounds_succ]
  go_wp2
  refine bodyPost_ret (v := .tuple #[.slice none 0 0, .int .i64 1]) (by simp [results, Tryd.f34, go_sem]) rfl ⟨rfl, ?_⟩
  repeat (refine Below.alloc ?_ (by first | exact Nat.le_refl _ | (simp only [World.size_alloc]; omega)) _)
  exact Below.refl _ _
set_option maxHeartbeats 1000000 in
set_option maxRecDepth 100000 in
theorem bad_2low {b e n d l : Int} (w : World) (g0 : 0 ≤ d) (k0 : d ≤ 1000) (g1 : d ≤ b) (k1 : b ≤ 10000000) (p2 : e < 0) : Calls Tryd.prog 34 #[.int .i64 b, .int .i64 e, .int .i64 n, .int .i64 d, .int .i64 l] w fun e w' => e = .returned (.tuple #[.slice none 0 0, .int .i64 1]) ∧ Below w.heap.size w w' := by
  have f0 : decide (d < 0) = false := by simpa using g0
  have h0 : decide (1000 < d) = false := by simpa using k0
  have f1 : decide (b < d) = false := by simpa using g1
  have h1 : decide (10000000 < b) = false := by simpa using k1
  have f2 : decide (e < 0) = true := by simpa using p2
  go_enter Tryd.func34, Tryd.ntmps34
  have i0 := ix0 b e n d l
  have i1 := ix1 b e n d l
  have i2 := ix2 b e n d l
  have i3 := ix3 b e n d l
  have i4 := ix4 b e n d l
  go_wp2
  refine wp_loop_rounds 3 ?_
  rw [rounds_succ]
  go_wp2
  rw [rounds_succ]
  go_wp2
  rw [rounds_succ]
  go_wp2
  refine bodyPost_ret (v := .tuple #[.slice none 0 0, .int .i64 1]) (by simp [results, Tryd.f34, go_sem]) rfl ⟨rfl, ?_⟩
  repeat (refine Below.alloc ?_ (by first | exact Nat.le_refl _ | (simp only [World.size_alloc]; omega)) _)
  exact Below.refl _ _
set_option maxHeartbeats 1000000 in
set_option maxRecDepth 100000 in
theorem bad_2high {b e n d l : Int} (w : World) (g0 : 0 ≤ d) (k0 : d ≤ 1000) (g1 : d ≤ b) (k1 : b ≤ 10000000) (g2 : 0 ≤ e) (p2 : 10000000 < e) : Calls Tryd.prog 34 #[.int .i64 b, .int .i64 e, .int .i64 n, .int .i64 d, .int .i64 l] w fun e w' => e = .returned (.tuple #[.slice none 0 0, .int .i64 1]) ∧ Below w.heap.size w w' := by
  have f0 : decide (d < 0) = false := by simpa using g0
  have h0 : decide (1000 < d) = false := by simpa using k0
  have f1 : decide (b < d) = false := by simpa using g1
  have h1 : decide (10000000 < b) = false := by simpa using k1
  have f2 : decide (e < 0) = false := by simpa using g2
  have h2 : decide (10000000 < e) = true := by simpa using p2
  go_enter Tryd.func34, Tryd.ntmps34
  have i0 := ix0 b e n d l
  have i1 := ix1 b e n d l
  have i2 := ix2 b e n d l
  have i3 := ix3 b e n d l
  have i4 := ix4 b e n d l
  go_wp2
  refine wp_loop_rounds 3 ?_
  rw [rounds_succ]
  go_wp2
  rw [rounds_succ]
  go_wp2
  rw [rounds_succ]
  go_wp2
  refine bodyPost_ret (v := .tuple #[.slice none 0 0, .int .i64 1]) (by simp [results, Tryd.f34, go_sem]) rfl ⟨rfl, ?_⟩
  repeat (refine Below.alloc ?_ (by first | exact Nat.le_refl _ | (simp only [World.size_alloc]; omega)) _)
  exact Below.refl _ _
set_option maxHeartbeats 1000000 in
set_option maxRecDepth 100000 in
theorem bad_3low {b e n d l : Int} (w : World) (g0 : 0 ≤ d) (k0 : d ≤ 1000) (g1 : d ≤ b) (k1 : b ≤ 10000000) (g2 : 0 ≤ e) (k2 : e ≤ 10000000) (p3 : n < 1) : Calls Tryd.prog 34 #[.int .i64 b, .int .i64 e, .int .i64 n, .int .i64 d, .int .i64 l] w fun e w' => e = .returned (.tuple #[.slice none 0 0, .int .i64 1]) ∧ Below w.heap.size w w' := by
  have f0 : decide (d < 0) = false := by simpa using g0
  have h0 : decide (1000 < d) = false := by simpa using k0
  have f1 : decide (b < d) = false := by simpa using g1
  have h1 : decide (10000000 < b) = false := by simpa using k1
  have f2 : decide (e < 0) = false := by simpa using g2
  have h2 : decide (10000000 < e) = false := by simpa using k2
  have f3 : decide (n < 1) = true := by simpa using p3
  go_enter Tryd.func34, Tryd.ntmps34
  have i0 := ix0 b e n d l
  have i1 := ix1 b e n d l
  have i2 := ix2 b e n d l
  have i3 := ix3 b e n d l
  have i4 := ix4 b e n d l
  go_wp2
  refine wp_loop_rounds 4 ?_
  rw [rounds_succ]
  go_wp2
  rw [rounds_succ]
  go_wp2
  rw [rounds_succ]
  go_wp2
  rw [rounds_succ]
  go_wp2
  refine bodyPost_ret (v := .tuple #[.slice none 0 0, .int .i64 1]) (by simp [results, Tryd.f34, go_sem]) rfl ⟨rfl, ?_⟩
  repeat (refine Below.alloc ?_ (by first | exact Nat.le_refl _ | (simp only [World.size_alloc]; omega)) _)
  exact Below.refl _ _
set_option maxHeartbeats 1000000 in
set_option maxRecDepth 100000 in
theorem bad_3high {b e n d l : Int} (w : World) (g0 : 0 ≤ d) (k0 : d ≤ 1000) (g1 : d ≤ b) (k1 : b ≤ 10000000) (g2 : 0 ≤ e) (k2 : e ≤ 10000000) (g3 : 1 ≤ n) (p3 : 10000000 < n) : Calls Tryd.prog 34 #[.int .i64 b, .int .i64 e, .int .i64 n, .int .i64 d, .int .i64 l] w fun e w' => e = .returned (.tuple #[.slice none 0 0, .int .i64 1]) ∧ Below w.heap.size w w' := by
  have f0 : decide (d < 0) = false := by simpa using g0
  have h0 : decide (1000 < d) = false := by simpa using k0
  have f1 : decide (b < d) = false := by simpa using g1
  have h1 : decide (10000000 < b) = false := by simpa using k1
  have f2 : decide (e < 0) = false := by simpa using g2
  have h2 : decide (10000000 < e) = false := by simpa using k2
  have f3 : decide (n < 1) = false := by simpa using g3
  have h3 : decide (10000000 < n) = true := by simpa using p3
  go_enter Tryd.func34, Tryd.ntmps34
  have i0 := ix0 b e n d l
  have i1 := ix1 b e n d l
  have i2 := ix2 b e n d l
  have i3 := ix3 b e n d l
  have i4 := ix4 b e n d l
  go_wp2
  refine wp_loop_rounds 4 ?_
  rw [rounds_succ]
  go_wp2
  rw [rounds_succ]
  go_wp2
  rw [rounds_succ]
  go_wp2
  rw [rounds_succ]
  go_wp2
  refine bodyPost_ret (v := .tuple #[.slice none 0 0, .int .i64 1]) (by simp [results, Tryd.f34, go_sem]) rfl ⟨rfl, ?_⟩
  repeat (refine Below.alloc ?_ (by first | exact Nat.le_refl _ | (simp only [World.size_alloc]; omega)) _)
  exact Below.refl _ _
set_option maxHeartbeats 1000000 in
set_option maxRecDepth 100000 in
theorem bad_4low {b e n d l : Int} (w : World) (g0 : 0 ≤ d) (k0 : d ≤ 1000) (g1 : d ≤ b) (k1 : b ≤ 10000000) (g2 : 0 ≤ e) (k2 : e ≤ 10000000) (g3 : 1 ≤ n) (k3 : n ≤ 10000000) (p4 : l < 0) : Calls Tryd.prog 34 #[.int .i64 b, .int .i64 e, .int .i64 n, .int .i64 d, .int .i64 l] w fun e w' => e = .returned (.tuple #[.slice none 0 0, .int .i64 1]) ∧ Below w.heap.size w w' := by
  have f0 : decide (d < 0) = false := by simpa using g0
  have h0 : decide (1000 < d) = false := by simpa using k0
  have f1 : decide (b < d) = false := by simpa using g1
  have h1 : decide (10000000 < b) = false := by simpa using k1
  have f2 : decide (e < 0) = false := by simpa using g2
  have h2 : decide (10000000 < e) = false := by simpa using k2
  have f3 : decide (n < 1) = false := by simpa using g3
  have h3 : decide (10000000 < n) = false := by simpa using k3
  have f4 : decide (l < 0) = true := by simpa using p4
  go_enter Tryd.func34, Tryd.ntmps34
  have i0 := ix0 b e n d l
  have i1 := ix1 b e n d l
  have i2 := ix2 b e n d l
  have i3 := ix3 b e n d l
  have i4 := ix4 b e n d l
  go_wp2
  refine wp_loop_rounds 5 ?_
  rw [rounds_succ]
  go_wp2
  rw [rounds_succ]
  go_wp2
  rw [rounds_succ]
  go_wp2
  rw [rounds_succ]
  go_wp2
  rw [rounds_succ]
  go_wp2
  refine bodyPost_ret (v := .tuple #[.slice none 0 0, .int .i64 1]) (by simp [results, Tryd.f34, go_sem]) rfl ⟨rfl, ?_⟩
  repeat (refine Below.alloc ?_ (by first | exact Nat.le_refl _ | (simp only [World.size_alloc]; omega)) _)
  exact Below.refl _ _
set_option maxHeartbeats 1000000 in
set_option maxRecDepth 100000 in
theorem bad_4high {b e n d l : Int} (w : World) (g0 : 0 ≤ d) (k0 : d ≤ 1000) (g1 : d ≤ b) (k1 : b ≤ 10000000) (g2 : 0 ≤ e) (k2 : e ≤ 10000000) (g3 : 1 ≤ n) (k3 : n ≤ 10000000) (g4 : 0 ≤ l) (p4 : 100000 < l) : Calls Tryd.prog 34 #[.int .i64 b, .int .i64 e, .int .i64 n, .int .i64 d, .int .i64 l] w fun e w' => e = .returned (.tuple #[.slice none 0 0, .int .i64 1]) ∧ Below w.heap.size w w' := by
  have f0 : decide (d < 0) = false := by simpa using g0
  have h0 : decide (1000 < d) = false := by simpa using k0
  have f1 : decide (b < d) = false := by simpa using g1
  have h1 : decide (10000000 < b) = false := by simpa using k1
  have f2 : decide (e < 0) = false := by simpa using g2
  have h2 : decide (10000000 < e) = false := by simpa using k2
  have f3 : decide (n < 1) = false := by simpa using g3
  have h3 : decide (10000000 < n) = false := by simpa using k3
  have f4 : decide (l < 0) = false := by simpa using g4
  have h4 : decide (100000 < l) = true := by simpa using p4
  go_enter Tryd.func34, Tryd.ntmps34
  have i0 := ix0 b e n d l
  have i1 := ix1 b e n d l
  have i2 := ix2 b e n d l
  have i3 := ix3 b e n d l
  have i4 := ix4 b e n d l
  go_wp2
  refine wp_loop_rounds 5 ?_
  rw [rounds_succ]
  go_wp2
  rw [rounds_succ]
  go_wp2
  rw [rounds_succ]
  go_wp2
  rw [rounds_succ]
  go_wp2
  rw [rounds_succ]
  go_wp2
  refine bodyPost_ret (v := .tuple #[.slice none 0 0, .int .i64 1]) (by simp [results, Tryd.f34, go_sem]) rfl ⟨rfl, ?_⟩
  repeat (refine Below.alloc ?_ (by first | exact Nat.le_refl _ | (simp only [World.size_alloc]; omega)) _)
  exact Below.refl _ _
set_option maxHeartbeats 1000000 in
set_option maxRecDepth 100000 in
theorem bad_end {b e n d l : Int} (w : World) (g0 : 0 ≤ d) (k0 : d ≤ 1000) (g1 : d ≤ b) (k1 : b ≤ 10000000) (g2 : 0 ≤ e) (k2 : e ≤ 10000000) (g3 : 1 ≤ n) (k3 : n ≤ 10000000) (g4 : 0 ≤ l) (k4 : l ≤ 100000) (q : e ≤ b) : Calls Tryd.prog 34 #[.int .i64 b, .int .i64 e, .int .i64 n, .int .i64 d, .int .i64 l] w fun e w' => e = .returned (.tuple #[.slice none 0 0, .int .i64 1]) ∧ Below w.heap.size w w' := by
  have f0 : decide (d < 0) = false := by simpa using g0
  have h0 : decide (1000 < d) = false := by simpa using k0
  have f1 : decide (b < d) = false := by simpa using g1
  have h1 : decide (10000000 < b) = false := by simpa using k1
  have f2 : decide (e < 0) = false := by simpa using g2
  have h2 : decide (10000000 < e) = false := by simpa using k2
  have f3 : decide (n < 1) = false := by simpa using g3
  have h3 : decide (10000000 < n) = false := by simpa using k3
  have f4 : decide (l < 0) = false := by simpa using g4
  have h4 : decide (100000 < l) = false := by simpa using k4
  go_enter Tryd.func34, Tryd.ntmps34
  have i0 := ix0 b e n d l
  have i1 := ix1 b e n d l
  have i2 := ix2 b e n d l
  have i3 := ix3 b e n d l
  have i4 := ix4 b e n d l
  go_wp2
  refine wp_loop_rounds 6 ?_
  rw [rounds_succ]
  go_wp2
  rw [rounds_succ]
  go_wp2
  rw [rounds_succ]
  go_wp2
  rw [rounds_succ]
  go_wp2
  rw [rounds_succ]
  go_wp2
  rw [rounds_succ]
  go_wp2
  refine bodyPost_ret (v := .tuple #[.slice none 0 0, .int .i64 1]) (by simp [results, Tryd.f34, go_sem]) rfl ⟨rfl, ?_⟩
  repeat (refine Below.alloc ?_ (by first | exact Nat.le_refl _ | (simp only [World.size_alloc]; omega)) _)
  exact Below.refl _ _
end Go.Proofs.YteojjbfeblbfdaaDoor
