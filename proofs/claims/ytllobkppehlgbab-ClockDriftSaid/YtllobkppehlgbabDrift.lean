/- ClockDrift of layer 24 is true for every clock and all numbers, and leaves its arguments as they were; no condition. -/
import Derived.Test.YtllobkppehlgbabC5
namespace Go.Proofs.Ytllobkppehlgbab
open Go.ChangeShapes Go.WideShapes Go.ChangeAt Go.RowKit Go.Joins
open Go.ChangeMaps (open_string shut_string)
namespace Drift
set_option linter.unusedVariables false

def ab (n : Int) : Int := if n < 0 then -n else n
set_option maxHeartbeats 1000000 in
theorem wrong_any (off ev t : Int) (b : Nat) (w : World) (hv : vldB off ev = true) (h0 : 0 ≤ t) (h1 : t ≤ 20000000) (ho : w.cell? ⟨b, 0, none⟩ = some (.int .i64 off)) (he : w.cell? ⟨b, 1, none⟩ = some (.int .i64 ev)) :
    Calls Try.prog 20 #[.int .i64 t, .pointer (some ⟨b, 0, none⟩)] w fun e w' => e = .returned (.int .i64 (ab (shw off ev t - t))) ∧ Below w.heap.size w w' := by
  have hq := shw_bd off ev t hv h0 h1
  have hs := fun W => show_ok off ev t W hv h0 h1
  generalize shw off ev t = x at *
  have ha := fun W => abs_any (x - t) W (by omega) (by omega)
  rw [show (if x - t < 0 then -(x - t) else x - t) = ab (x - t) from rfl] at ha
  generalize hy : ab (x - t) = y at *
  clear hy
  have HS := Lib.hid hs
  have HA := Lib.hid ha
  clear hs ha
  go_enter Try.func20, Try.ntmps20
  go_wp2_with (first | (go_at_call 11; refine (HS.out _).mono ?_; rintro e w3 ⟨rfl, hb⟩) | (go_at_call 21; refine (HA.out _).mono ?_; rintro e w4 ⟨rfl, rfl⟩))
  go_ret
  exact ⟨rfl, hb⟩

set_option maxHeartbeats 1000000 in
set_option maxRecDepth 100000 in
theorem walk_err (off ev d fin t more early : Int) (w : World) (h : ¬ (vldB off ev = true ∧ 0 ≤ d ∧ d ≤ 1000 ∧ 1 ≤ fin ∧ fin ≤ 20000000)) :
    Calls Try.prog 6 #[.agg #[.int .i64 off, .int .i64 ev], .int .i64 d, .int .i64 fin, .int .i64 t, .int .i64 more, .int .i64 early] w fun e w' => e = .returned (.bool true) ∧ Below w.heap.size w w' := by
  have k := startC off ev w
  have HW := Lib.hid (fun W => within_err off ev d fin W h)
  clear h
  go_enter Try.func6, Try.ntmps6
  go_wp2_with (first | (go_at_call 9; refine (head_any _).mono ?_; rintro e w1 ⟨rfl, hb⟩; obtain ⟨k, p, q⟩ := nextC k.out hb; clear hb) | (go_at_call 15; (first | ((with_reducible refine (HW.out _).mono ?_); rintro e w3 ⟨rfl, hb⟩)); obtain ⟨k, p, q⟩ := nextC k.out hb; clear hb))
  all_goals go_ret
  all_goals (first | exact ⟨rfl, k.out.1⟩ | exact ⟨ret_bool (by simp; omega), k.out.1⟩)

set_option maxHeartbeats 1000000 in
set_option maxRecDepth 100000 in
theorem walk_out_a (off ev d fin t more early : Int) (w : World) (hv : vldB off ev = true) (h0 : 0 ≤ d) (h1 : d ≤ 1000) (h2 : 1 ≤ fin) (h3 : fin ≤ 20000000) (h4 : inB off ev d 0 = false) :
    Calls Try.prog 6 #[.agg #[.int .i64 off, .int .i64 ev], .int .i64 d, .int .i64 fin, .int .i64 t, .int .i64 more, .int .i64 early] w fun e w' => e = .returned (.bool true) ∧ Below w.heap.size w w' := by
  have k := startC off ev w
  have hW := fun W => within_ok off ev d fin W hv h0 h1 h2 h3
  rw [h4, Bool.false_and] at hW
  have HW := Lib.hid hW
  clear hW
  have g0 := fun W => wrong_any off ev 0 w.heap.size W hv (by omega) (by omega)
  have g1 := fun W => wrong_any off ev (fin - 1) w.heap.size W hv (by omega) (by omega)
  have m0 : d < ab (shw off ev 0 - 0) := by simp [inB] at h4; unfold ab; split <;> omega
  generalize ab (shw off ev 0 - 0) = x at *
  generalize ab (shw off ev (fin - 1) - (fin - 1)) = y at *
  have G0 := Lib.hid g0
  have G1 := Lib.hid g1
  clear g0 g1 h4 hv
  go_enter Try.func6, Try.ntmps6
  go_wp2_with (first | (go_at_call 9; refine (head_any _).mono ?_; rintro e w1 ⟨rfl, hb⟩; obtain ⟨k, p, q⟩ := nextC k.out hb; clear hb) | (go_at_call 15; (first | ((with_reducible refine (HW.out _).mono ?_); rintro e w3 ⟨rfl, hb⟩)); obtain ⟨k, p, q⟩ := nextC k.out hb; clear hb) | (go_at_call 20; (first | ((with_reducible refine (G0.out _ p q).mono ?_); rintro e w3 ⟨rfl, hb⟩) | ((with_reducible refine (G1.out _ p q).mono ?_); rintro e w3 ⟨rfl, hb⟩)); obtain ⟨k, p, q⟩ := nextC k.out hb; clear hb))
  all_goals go_ret
  all_goals (first | exact ⟨rfl, k.out.1⟩ | exact ⟨ret_bool (by simp; omega), k.out.1⟩)

set_option maxHeartbeats 1000000 in
set_option maxRecDepth 100000 in
theorem walk_out_b (off ev d fin t more early : Int) (w : World) (hv : vldB off ev = true) (h0 : 0 ≤ d) (h1 : d ≤ 1000) (h2 : 1 ≤ fin) (h3 : fin ≤ 20000000) (h4 : inB off ev d 0 = true) (h5 : inB off ev d (fin - 1) = false) :
    Calls Try.prog 6 #[.agg #[.int .i64 off, .int .i64 ev], .int .i64 d, .int .i64 fin, .int .i64 t, .int .i64 more, .int .i64 early] w fun e w' => e = .returned (.bool true) ∧ Below w.heap.size w w' := by
  have k := startC off ev w
  have hW := fun W => within_ok off ev d fin W hv h0 h1 h2 h3
  rw [h4, h5, Bool.and_false] at hW
  have HW := Lib.hid hW
  clear hW
  have g0 := fun W => wrong_any off ev 0 w.heap.size W hv (by omega) (by omega)
  have g1 := fun W => wrong_any off ev (fin - 1) w.heap.size W hv (by omega) (by omega)
  have m0 : ab (shw off ev 0 - 0) ≤ d := by simp [inB] at h4; unfold ab; split <;> omega
  have m1 : d < ab (shw off ev (fin - 1) - (fin - 1)) := by simp [inB] at h5; unfold ab; split <;> omega
  generalize ab (shw off ev 0 - 0) = x at *
  generalize ab (shw off ev (fin - 1) - (fin - 1)) = y at *
  have G0 := Lib.hid g0
  have G1 := Lib.hid g1
  clear g0 g1 h4 hv h5
  go_enter Try.func6, Try.ntmps6
  go_wp2_with (first | (go_at_call 9; refine (head_any _).mono ?_; rintro e w1 ⟨rfl, hb⟩; obtain ⟨k, p, q⟩ := nextC k.out hb; clear hb) | (go_at_call 15; (first | ((with_reducible refine (HW.out _).mono ?_); rintro e w3 ⟨rfl, hb⟩)); obtain ⟨k, p, q⟩ := nextC k.out hb; clear hb) | (go_at_call 20; (first | ((with_reducible refine (G0.out _ p q).mono ?_); rintro e w3 ⟨rfl, hb⟩) | ((with_reducible refine (G1.out _ p q).mono ?_); rintro e w3 ⟨rfl, hb⟩)); obtain ⟨k, p, q⟩ := nextC k.out hb; clear hb))
  all_goals go_ret
  all_goals (first | exact ⟨rfl, k.out.1⟩ | exact ⟨ret_bool (by simp; omega), k.out.1⟩)

set_option maxHeartbeats 1000000 in
set_option maxRecDepth 100000 in
theorem walk_in_ooo (off ev d fin t more early : Int) (w : World) (hv : vldB off ev = true) (h0 : 0 ≤ d) (h1 : d ≤ 1000) (h2 : 1 ≤ fin) (h3 : fin ≤ 20000000) (h4 : (inB off ev d 0 && inB off ev d (fin - 1)) = true) (ht : t < 0 ∨ fin ≤ t) (hm : more < d ∨ 1000 < more) (he : early < 1 ∨ fin < early) :
    Calls Try.prog 6 #[.agg #[.int .i64 off, .int .i64 ev], .int .i64 d, .int .i64 fin, .int .i64 t, .int .i64 more, .int .i64 early] w fun e w' => e = .returned (.bool true) ∧ Below w.heap.size w w' := by
  have k := startC off ev w
  have hW := fun W => within_ok off ev d fin W hv h0 h1 h2 h3
  rw [h4] at hW
  have HW := Lib.hid hW
  clear hW
  clear h4 hv
  go_enter Try.func6, Try.ntmps6
  go_wp2_with (first | (go_at_call 9; refine (head_any _).mono ?_; rintro e w1 ⟨rfl, hb⟩; obtain ⟨k, p, q⟩ := nextC k.out hb; clear hb) | (go_at_call 15; (first | ((with_reducible refine (HW.out _).mono ?_); rintro e w3 ⟨rfl, hb⟩)); obtain ⟨k, p, q⟩ := nextC k.out hb; clear hb))
  all_goals go_ret
  all_goals (first | exact ⟨rfl, k.out.1⟩ | exact ⟨ret_bool (by simp; omega), k.out.1⟩)

set_option maxHeartbeats 1000000 in
set_option maxRecDepth 100000 in
theorem walk_in_ooi (off ev d fin t more early : Int) (w : World) (hv : vldB off ev = true) (h0 : 0 ≤ d) (h1 : d ≤ 1000) (h2 : 1 ≤ fin) (h3 : fin ≤ 20000000) (h4 : (inB off ev d 0 && inB off ev d (fin - 1)) = true) (ht : t < 0 ∨ fin ≤ t) (hm : more < d ∨ 1000 < more) (he : 1 ≤ early ∧ early ≤ fin) :
    Calls Try.prog 6 #[.agg #[.int .i64 off, .int .i64 ev], .int .i64 d, .int .i64 fin, .int .i64 t, .int .i64 more, .int .i64 early] w fun e w' => e = .returned (.bool true) ∧ Below w.heap.size w w' := by
  have k := startC off ev w
  have hW := fun W => within_ok off ev d fin W hv h0 h1 h2 h3
  rw [h4] at hW
  have HW := Lib.hid hW
  clear hW
  have hE := fun W => within_ok off ev d early W hv h0 h1 he.1 (by omega)
  have e1 := in_all off ev d fin 0 hv h4 (by omega) (by omega)
  have e2 := in_all off ev d fin (early - 1) hv h4 (by omega) (by omega)
  rw [show (inB off ev d 0 && inB off ev d (early - 1)) = true by simp [inB]; omega] at hE
  have HE := Lib.hid hE
  clear hE e1 e2
  clear h4 hv
  go_enter Try.func6, Try.ntmps6
  go_wp2_with (first | (go_at_call 9; refine (head_any _).mono ?_; rintro e w1 ⟨rfl, hb⟩; obtain ⟨k, p, q⟩ := nextC k.out hb; clear hb) | (go_at_call 15; (first | ((with_reducible refine (HW.out _).mono ?_); rintro e w3 ⟨rfl, hb⟩) | ((with_reducible refine (HE.out _).mono ?_); rintro e w3 ⟨rfl, hb⟩)); obtain ⟨k, p, q⟩ := nextC k.out hb; clear hb))
  all_goals go_ret
  all_goals (first | exact ⟨rfl, k.out.1⟩ | exact ⟨ret_bool (by simp; omega), k.out.1⟩)

set_option maxHeartbeats 1000000 in
set_option maxRecDepth 100000 in
theorem walk_in_oio (off ev d fin t more early : Int) (w : World) (hv : vldB off ev = true) (h0 : 0 ≤ d) (h1 : d ≤ 1000) (h2 : 1 ≤ fin) (h3 : fin ≤ 20000000) (h4 : (inB off ev d 0 && inB off ev d (fin - 1)) = true) (ht : t < 0 ∨ fin ≤ t) (hm : d ≤ more ∧ more ≤ 1000) (he : early < 1 ∨ fin < early) :
    Calls Try.prog 6 #[.agg #[.int .i64 off, .int .i64 ev], .int .i64 d, .int .i64 fin, .int .i64 t, .int .i64 more, .int .i64 early] w fun e w' => e = .returned (.bool true) ∧ Below w.heap.size w w' := by
  have k := startC off ev w
  have hW := fun W => within_ok off ev d fin W hv h0 h1 h2 h3
  rw [h4] at hW
  have HW := Lib.hid hW
  clear hW
  have hM := fun W => within_ok off ev more fin W hv (by omega) hm.2 h2 h3
  rw [show (inB off ev more 0 && inB off ev more (fin - 1)) = true by simp [inB] at h4 ⊢; omega] at hM
  have HM := Lib.hid hM
  clear hM
  clear h4 hv
  go_enter Try.func6, Try.ntmps6
  go_wp2_with (first | (go_at_call 9; refine (head_any _).mono ?_; rintro e w1 ⟨rfl, hb⟩; obtain ⟨k, p, q⟩ := nextC k.out hb; clear hb) | (go_at_call 15; (first | ((with_reducible refine (HW.out _).mono ?_); rintro e w3 ⟨rfl, hb⟩) | ((with_reducible refine (HM.out _).mono ?_); rintro e w3 ⟨rfl, hb⟩)); obtain ⟨k, p, q⟩ := nextC k.out hb; clear hb))
  all_goals go_ret
  all_goals (first | exact ⟨rfl, k.out.1⟩ | exact ⟨ret_bool (by simp; omega), k.out.1⟩)

set_option maxHeartbeats 1000000 in
set_option maxRecDepth 100000 in
theorem walk_in_oii (off ev d fin t more early : Int) (w : World) (hv : vldB off ev = true) (h0 : 0 ≤ d) (h1 : d ≤ 1000) (h2 : 1 ≤ fin) (h3 : fin ≤ 20000000) (h4 : (inB off ev d 0 && inB off ev d (fin - 1)) = true) (ht : t < 0 ∨ fin ≤ t) (hm : d ≤ more ∧ more ≤ 1000) (he : 1 ≤ early ∧ early ≤ fin) :
    Calls Try.prog 6 #[.agg #[.int .i64 off, .int .i64 ev], .int .i64 d, .int .i64 fin, .int .i64 t, .int .i64 more, .int .i64 early] w fun e w' => e = .returned (.bool true) ∧ Below w.heap.size w w' := by
  have k := startC off ev w
  have hW := fun W => within_ok off ev d fin W hv h0 h1 h2 h3
  rw [h4] at hW
  have HW := Lib.hid hW
  clear hW
  have hM := fun W => within_ok off ev more fin W hv (by omega) hm.2 h2 h3
  rw [show (inB off ev more 0 && inB off ev more (fin - 1)) = true by simp [inB] at h4 ⊢; omega] at hM
  have HM := Lib.hid hM
  clear hM
  have hE := fun W => within_ok off ev d early W hv h0 h1 he.1 (by omega)
  have e1 := in_all off ev d fin 0 hv h4 (by omega) (by omega)
  have e2 := in_all off ev d fin (early - 1) hv h4 (by omega) (by omega)
  rw [show (inB off ev d 0 && inB off ev d (early - 1)) = true by simp [inB]; omega] at hE
  have HE := Lib.hid hE
  clear hE e1 e2
  clear h4 hv
  go_enter Try.func6, Try.ntmps6
  go_wp2_with (first | (go_at_call 9; refine (head_any _).mono ?_; rintro e w1 ⟨rfl, hb⟩; obtain ⟨k, p, q⟩ := nextC k.out hb; clear hb) | (go_at_call 15; (first | ((with_reducible refine (HW.out _).mono ?_); rintro e w3 ⟨rfl, hb⟩) | ((with_reducible refine (HM.out _).mono ?_); rintro e w3 ⟨rfl, hb⟩) | ((with_reducible refine (HE.out _).mono ?_); rintro e w3 ⟨rfl, hb⟩)); obtain ⟨k, p, q⟩ := nextC k.out hb; clear hb))
  all_goals go_ret
  all_goals (first | exact ⟨rfl, k.out.1⟩ | exact ⟨ret_bool (by simp; omega), k.out.1⟩)

set_option maxHeartbeats 1000000 in
set_option maxRecDepth 100000 in
theorem walk_in_ioo (off ev d fin t more early : Int) (w : World) (hv : vldB off ev = true) (h0 : 0 ≤ d) (h1 : d ≤ 1000) (h2 : 1 ≤ fin) (h3 : fin ≤ 20000000) (h4 : (inB off ev d 0 && inB off ev d (fin - 1)) = true) (ht : 0 ≤ t ∧ t < fin) (hm : more < d ∨ 1000 < more) (he : early < 1 ∨ fin < early) :
    Calls Try.prog 6 #[.agg #[.int .i64 off, .int .i64 ev], .int .i64 d, .int .i64 fin, .int .i64 t, .int .i64 more, .int .i64 early] w fun e w' => e = .returned (.bool true) ∧ Below w.heap.size w w' := by
  have k := startC off ev w
  have hW := fun W => within_ok off ev d fin W hv h0 h1 h2 h3
  rw [h4] at hW
  have HW := Lib.hid hW
  clear hW
  have g0 := fun W => wrong_any off ev t w.heap.size W hv (by omega) (by omega)
  have e3 := in_all off ev d fin t hv h4 ht.1 ht.2
  have m0 : 0 ≤ ab (shw off ev t - t) ∧ ab (shw off ev t - t) ≤ d := by unfold ab; split <;> omega
  clear e3
  generalize ab (shw off ev t - t) = x at *
  have G0 := Lib.hid g0
  clear g0
  clear h4 hv
  go_enter Try.func6, Try.ntmps6
  go_wp2_with (first | (go_at_call 9; refine (head_any _).mono ?_; rintro e w1 ⟨rfl, hb⟩; obtain ⟨k, p, q⟩ := nextC k.out hb; clear hb) | (go_at_call 15; (first | ((with_reducible refine (HW.out _).mono ?_); rintro e w3 ⟨rfl, hb⟩)); obtain ⟨k, p, q⟩ := nextC k.out hb; clear hb) | (go_at_call 20; (first | ((with_reducible refine (G0.out _ p q).mono ?_); rintro e w3 ⟨rfl, hb⟩)); obtain ⟨k, p, q⟩ := nextC k.out hb; clear hb))
  all_goals go_ret
  all_goals (first | exact ⟨rfl, k.out.1⟩ | exact ⟨ret_bool (by simp; omega), k.out.1⟩)

set_option maxHeartbeats 1000000 in
set_option maxRecDepth 100000 in
theorem walk_in_ioi (off ev d fin t more early : Int) (w : World) (hv : vldB off ev = true) (h0 : 0 ≤ d) (h1 : d ≤ 1000) (h2 : 1 ≤ fin) (h3 : fin ≤ 20000000) (h4 : (inB off ev d 0 && inB off ev d (fin - 1)) = true) (ht : 0 ≤ t ∧ t < fin) (hm : more < d ∨ 1000 < more) (he : 1 ≤ early ∧ early ≤ fin) :
    Calls Try.prog 6 #[.agg #[.int .i64 off, .int .i64 ev], .int .i64 d, .int .i64 fin, .int .i64 t, .int .i64 more, .int .i64 early] w fun e w' => e = .returned (.bool true) ∧ Below w.heap.size w w' := by
  have k := startC off ev w
  have hW := fun W => within_ok off ev d fin W hv h0 h1 h2 h3
  rw [h4] at hW
  have HW := Lib.hid hW
  clear hW
  have hE := fun W => within_ok off ev d early W hv h0 h1 he.1 (by omega)
  have e1 := in_all off ev d fin 0 hv h4 (by omega) (by omega)
  have e2 := in_all off ev d fin (early - 1) hv h4 (by omega) (by omega)
  rw [show (inB off ev d 0 && inB off ev d (early - 1)) = true by simp [inB]; omega] at hE
  have HE := Lib.hid hE
  clear hE e1 e2
  have g0 := fun W => wrong_any off ev t w.heap.size W hv (by omega) (by omega)
  have e3 := in_all off ev d fin t hv h4 ht.1 ht.2
  have m0 : 0 ≤ ab (shw off ev t - t) ∧ ab (shw off ev t - t) ≤ d := by unfold ab; split <;> omega
  clear e3
  generalize ab (shw off ev t - t) = x at *
  have G0 := Lib.hid g0
  clear g0
  clear h4 hv
  go_enter Try.func6, Try.ntmps6
  go_wp2_with (first | (go_at_call 9; refine (head_any _).mono ?_; rintro e w1 ⟨rfl, hb⟩; obtain ⟨k, p, q⟩ := nextC k.out hb; clear hb) | (go_at_call 15; (first | ((with_reducible refine (HW.out _).mono ?_); rintro e w3 ⟨rfl, hb⟩) | ((with_reducible refine (HE.out _).mono ?_); rintro e w3 ⟨rfl, hb⟩)); obtain ⟨k, p, q⟩ := nextC k.out hb; clear hb) | (go_at_call 20; (first | ((with_reducible refine (G0.out _ p q).mono ?_); rintro e w3 ⟨rfl, hb⟩)); obtain ⟨k, p, q⟩ := nextC k.out hb; clear hb))
  all_goals go_ret
  all_goals (first | exact ⟨rfl, k.out.1⟩ | exact ⟨ret_bool (by simp; omega), k.out.1⟩)

set_option maxHeartbeats 1000000 in
set_option maxRecDepth 100000 in
theorem walk_in_iio (off ev d fin t more early : Int) (w : World) (hv : vldB off ev = true) (h0 : 0 ≤ d) (h1 : d ≤ 1000) (h2 : 1 ≤ fin) (h3 : fin ≤ 20000000) (h4 : (inB off ev d 0 && inB off ev d (fin - 1)) = true) (ht : 0 ≤ t ∧ t < fin) (hm : d ≤ more ∧ more ≤ 1000) (he : early < 1 ∨ fin < early) :
    Calls Try.prog 6 #[.agg #[.int .i64 off, .int .i64 ev], .int .i64 d, .int .i64 fin, .int .i64 t, .int .i64 more, .int .i64 early] w fun e w' => e = .returned (.bool true) ∧ Below w.heap.size w w' := by
  have k := startC off ev w
  have hW := fun W => within_ok off ev d fin W hv h0 h1 h2 h3
  rw [h4] at hW
  have HW := Lib.hid hW
  clear hW
  have hM := fun W => within_ok off ev more fin W hv (by omega) hm.2 h2 h3
  rw [show (inB off ev more 0 && inB off ev more (fin - 1)) = true by simp [inB] at h4 ⊢; omega] at hM
  have HM := Lib.hid hM
  clear hM
  have g0 := fun W => wrong_any off ev t w.heap.size W hv (by omega) (by omega)
  have e3 := in_all off ev d fin t hv h4 ht.1 ht.2
  have m0 : 0 ≤ ab (shw off ev t - t) ∧ ab (shw off ev t - t) ≤ d := by unfold ab; split <;> omega
  clear e3
  generalize ab (shw off ev t - t) = x at *
  have G0 := Lib.hid g0
  clear g0
  clear h4 hv
  go_enter Try.func6, Try.ntmps6
  go_wp2_with (first | (go_at_call 9; refine (head_any _).mono ?_; rintro e w1 ⟨rfl, hb⟩; obtain ⟨k, p, q⟩ := nextC k.out hb; clear hb) | (go_at_call 15; (first | ((with_reducible refine (HW.out _).mono ?_); rintro e w3 ⟨rfl, hb⟩) | ((with_reducible refine (HM.out _).mono ?_); rintro e w3 ⟨rfl, hb⟩)); obtain ⟨k, p, q⟩ := nextC k.out hb; clear hb) | (go_at_call 20; (first | ((with_reducible refine (G0.out _ p q).mono ?_); rintro e w3 ⟨rfl, hb⟩)); obtain ⟨k, p, q⟩ := nextC k.out hb; clear hb))
  all_goals go_ret
  all_goals (first | exact ⟨rfl, k.out.1⟩ | exact ⟨ret_bool (by simp; omega), k.out.1⟩)

set_option maxHeartbeats 1000000 in
set_option maxRecDepth 100000 in
theorem walk_in_iii (off ev d fin t more early : Int) (w : World) (hv : vldB off ev = true) (h0 : 0 ≤ d) (h1 : d ≤ 1000) (h2 : 1 ≤ fin) (h3 : fin ≤ 20000000) (h4 : (inB off ev d 0 && inB off ev d (fin - 1)) = true) (ht : 0 ≤ t ∧ t < fin) (hm : d ≤ more ∧ more ≤ 1000) (he : 1 ≤ early ∧ early ≤ fin) :
    Calls Try.prog 6 #[.agg #[.int .i64 off, .int .i64 ev], .int .i64 d, .int .i64 fin, .int .i64 t, .int .i64 more, .int .i64 early] w fun e w' => e = .returned (.bool true) ∧ Below w.heap.size w w' := by
  have k := startC off ev w
  have hW := fun W => within_ok off ev d fin W hv h0 h1 h2 h3
  rw [h4] at hW
  have HW := Lib.hid hW
  clear hW
  have hM := fun W => within_ok off ev more fin W hv (by omega) hm.2 h2 h3
  rw [show (inB off ev more 0 && inB off ev more (fin - 1)) = true by simp [inB] at h4 ⊢; omega] at hM
  have HM := Lib.hid hM
  clear hM
  have hE := fun W => within_ok off ev d early W hv h0 h1 he.1 (by omega)
  have e1 := in_all off ev d fin 0 hv h4 (by omega) (by omega)
  have e2 := in_all off ev d fin (early - 1) hv h4 (by omega) (by omega)
  rw [show (inB off ev d 0 && inB off ev d (early - 1)) = true by simp [inB]; omega] at hE
  have HE := Lib.hid hE
  clear hE e1 e2
  have g0 := fun W => wrong_any off ev t w.heap.size W hv (by omega) (by omega)
  have e3 := in_all off ev d fin t hv h4 ht.1 ht.2
  have m0 : 0 ≤ ab (shw off ev t - t) ∧ ab (shw off ev t - t) ≤ d := by unfold ab; split <;> omega
  clear e3
  generalize ab (shw off ev t - t) = x at *
  have G0 := Lib.hid g0
  clear g0
  clear h4 hv
  go_enter Try.func6, Try.ntmps6
  go_wp2_with (first | (go_at_call 9; refine (head_any _).mono ?_; rintro e w1 ⟨rfl, hb⟩; obtain ⟨k, p, q⟩ := nextC k.out hb; clear hb) | (go_at_call 15; (first | ((with_reducible refine (HW.out _).mono ?_); rintro e w3 ⟨rfl, hb⟩) | ((with_reducible refine (HM.out _).mono ?_); rintro e w3 ⟨rfl, hb⟩) | ((with_reducible refine (HE.out _).mono ?_); rintro e w3 ⟨rfl, hb⟩)); obtain ⟨k, p, q⟩ := nextC k.out hb; clear hb) | (go_at_call 20; (first | ((with_reducible refine (G0.out _ p q).mono ?_); rintro e w3 ⟨rfl, hb⟩)); obtain ⟨k, p, q⟩ := nextC k.out hb; clear hb))
  all_goals go_ret
  all_goals (first | exact ⟨rfl, k.out.1⟩ | exact ⟨ret_bool (by simp; omega), k.out.1⟩)

theorem walk (off ev d fin t more early : Int) (w : World) (_ : (Lit.int .i64 off).wf = true) (_ : (Lit.int .i64 ev).wf = true) (_ : (Lit.int .i64 d).wf = true) (_ : (Lit.int .i64 fin).wf = true) (_ : (Lit.int .i64 t).wf = true) (_ : (Lit.int .i64 more).wf = true) (_ : (Lit.int .i64 early).wf = true) :
    Calls Try.prog 6 #[.agg #[.int .i64 off, .int .i64 ev], .int .i64 d, .int .i64 fin, .int .i64 t, .int .i64 more, .int .i64 early] w fun e w' => e = .returned (.bool true) ∧ Below w.heap.size w w' := by
  by_cases h : vldB off ev = true ∧ 0 ≤ d ∧ d ≤ 1000 ∧ 1 ≤ fin ∧ fin ≤ 20000000
  · obtain ⟨hv, h0, h1, h2, h3⟩ := h
    cases h4 : inB off ev d 0
    · exact walk_out_a off ev d fin t more early w hv h0 h1 h2 h3 h4
    · cases h5 : inB off ev d (fin - 1)
      · exact walk_out_b off ev d fin t more early w hv h0 h1 h2 h3 h4 h5
      · have h6 : (inB off ev d 0 && inB off ev d (fin - 1)) = true := by rw [h4, h5]; rfl
        by_cases ht : 0 ≤ t ∧ t < fin
        · by_cases hm : d ≤ more ∧ more ≤ 1000
          · by_cases he : 1 ≤ early ∧ early ≤ fin
            · exact walk_in_iii off ev d fin t more early w hv h0 h1 h2 h3 h6 ht hm he
            · exact walk_in_iio off ev d fin t more early w hv h0 h1 h2 h3 h6 ht hm (by omega)
          · by_cases he : 1 ≤ early ∧ early ≤ fin
            · exact walk_in_ioi off ev d fin t more early w hv h0 h1 h2 h3 h6 ht (by omega) he
            · exact walk_in_ioo off ev d fin t more early w hv h0 h1 h2 h3 h6 ht (by omega) (by omega)
        · by_cases hm : d ≤ more ∧ more ≤ 1000
          · by_cases he : 1 ≤ early ∧ early ≤ fin
            · exact walk_in_oii off ev d fin t more early w hv h0 h1 h2 h3 h6 (by omega) hm he
            · exact walk_in_oio off ev d fin t more early w hv h0 h1 h2 h3 h6 (by omega) hm (by omega)
          · by_cases he : 1 ≤ early ∧ early ≤ fin
            · exact walk_in_ooi off ev d fin t more early w hv h0 h1 h2 h3 h6 (by omega) (by omega) he
            · exact walk_in_ooo off ev d fin t more early w hv h0 h1 h2 h3 h6 (by omega) (by omega) (by omega)
  · exact walk_err off ev d fin t more early w h

theorem own : ownKnob Try.prog.godebug = none := by kernel_rfl
theorem laidOut : laidOutB Try.prog = true := by kernel_rfl

set_option maxRecDepth 100000 in
theorem lifted (os : Os) (started : os.Started) (H : Type) (enc : TypeId × Value → H) :
    ReturnsInHanded {} Try.checked os 6 .any (Rows.clockDriftSpec.pre6 enc Try.prog Try.f6 Rows.clockDriftRow.domain false) (Rows.clockDriftSpec.post enc Try.prog Try.f6 false true false false) := by
  refine returnsInHanded_of_change (C := Try.checked) own started (by kernel_rfl) Try.func6
    (ChangeSpec.witness6 (enc := enc) (C := Try.checked) false ⟨#[], #[.agg #[.int .i64 0, .int .i64 0], .int .i64 0, .int .i64 0, .int .i64 0, .int .i64 0, .int .i64 0], []⟩ 8 (by kernel_rfl) (by kernel_rfl) (by kernel_rfl) (by kernel_rfl)) ?_
  intro W base args ds gs before hval0 hW hcnd _
  have hval : ∀ (j : Nat) t v, Try.f6.params[j]? = some t → args[j]? = some v → Value.okWide Try.prog W .any base t v := hval0
  have hW' := hW
  obtain ⟨p, q, hA0, hV, rfl, hfz, hnd⟩ := hW
  have hA : DataW.TrodAll enc Try.prog W 0 (fun _ => true) true Try.f6.params.toList args.toList ds p := hA0
  rw [Try.params6] at hA hval
  obtain ⟨v0, vs0, d0, ds0, p0, q0, hargs, rfl, rfl, h0, r0⟩ := trodAll_cons hA
  obtain ⟨v1, vs1, d1, ds1, p1, q1, rfl, rfl, rfl, h1, r1⟩ := trodAll_cons r0
  obtain ⟨v2, vs2, d2, ds2, p2, q2, rfl, rfl, rfl, h2, r2⟩ := trodAll_cons r1
  obtain ⟨v3, vs3, d3, ds3, p3, q3, rfl, rfl, rfl, h3, r3⟩ := trodAll_cons r2
  obtain ⟨v4, vs4, d4, ds4, p4, q4, rfl, rfl, rfl, h4, r4⟩ := trodAll_cons r3
  obtain ⟨v5, vs5, d5, ds5, p5, q5, rfl, rfl, rfl, h5, r5⟩ := trodAll_cons r4
  obtain ⟨rfl, rfl, rfl⟩ := trodAll_nil r5
  obtain rfl : args = #[v0, v1, v2, v3, v4, v5] := by cases args; simp_all
  obtain ⟨rfl, rfl⟩ := trodVars_none hV
  have k0 := h0
  have lt0 : ∀ x ∈ p0, x.block < W.heap.size := by obtain ⟨m, hm⟩ := k0; exact DataW.trod_lt m _ _ _ hm
  have k1 := h1
  have lt1 : ∀ x ∈ p1, x.block < W.heap.size := by obtain ⟨m, hm⟩ := k1; exact DataW.trod_lt m _ _ _ hm
  have k2 := h2
  have lt2 : ∀ x ∈ p2, x.block < W.heap.size := by obtain ⟨m, hm⟩ := k2; exact DataW.trod_lt m _ _ _ hm
  have k3 := h3
  have lt3 : ∀ x ∈ p3, x.block < W.heap.size := by obtain ⟨m, hm⟩ := k3; exact DataW.trod_lt m _ _ _ hm
  have k4 := h4
  have lt4 : ∀ x ∈ p4, x.block < W.heap.size := by obtain ⟨m, hm⟩ := k4; exact DataW.trod_lt m _ _ _ hm
  have k5 := h5
  have lt5 : ∀ x ∈ p5, x.block < W.heap.size := by obtain ⟨m, hm⟩ := k5; exact DataW.trod_lt m _ _ _ hm
  obtain ⟨c00, c10, y00, y10, m0, rfl, rfl, rfl, hy00, hy10⟩ := open_agg2 Try.underlying23 (by kernel_rfl) (by kernel_rfl) (hval 0 23 v0 rfl rfl) h0
  obtain ⟨a0, e00, rfl, wa0⟩ := DataW.trod_int Try.underlying3 hy00
  obtain ⟨b0, e10, rfl, wb0⟩ := DataW.trod_int Try.underlying3 hy10
  simp at e00 e10
  subst e00 e10
  obtain ⟨a1, rfl, rfl, rfl, w1⟩ := open_int Try.underlying3 (hval 1 3 v1 rfl rfl) h1
  obtain ⟨a2, rfl, rfl, rfl, w2⟩ := open_int Try.underlying3 (hval 2 3 v2 rfl rfl) h2
  obtain ⟨a3, rfl, rfl, rfl, w3⟩ := open_int Try.underlying3 (hval 3 3 v3 rfl rfl) h3
  obtain ⟨a4, rfl, rfl, rfl, w4⟩ := open_int Try.underlying3 (hval 4 3 v4 rfl rfl) h4
  obtain ⟨a5, rfl, rfl, rfl, w5⟩ := open_int Try.underlying3 (hval 5 3 v5 rfl rfl) h5
  clear hA0 hval0
  refine (walk a0 b0 a1 a2 a3 a4 a5 W wa0 wb0 w1 w2 w3 w4 w5).mono fun e W' ⟨he, bel⟩ => ?_
  subst he
  exact ⟨_, rfl, _, _, _, [], _, [], hW', trodAll_mk1 (shut_bool Try.underlying4 _), (trodAll_cons_mk (Below.trod laidOut (by kernel_rfl) (of_decide_eq_true (by kernel_rfl)) k0 bel lt0) (trodAll_cons_mk (Below.trod laidOut (by kernel_rfl) (of_decide_eq_true (by kernel_rfl)) k1 bel lt1) (trodAll_cons_mk (Below.trod laidOut (by kernel_rfl) (of_decide_eq_true (by kernel_rfl)) k2 bel lt2) (trodAll_cons_mk (Below.trod laidOut (by kernel_rfl) (of_decide_eq_true (by kernel_rfl)) k3 bel lt3) (trodAll_cons_mk (Below.trod laidOut (by kernel_rfl) (of_decide_eq_true (by kernel_rfl)) k4 bel lt4) (trodAll_cons_mk (Below.trod laidOut (by kernel_rfl) (of_decide_eq_true (by kernel_rfl)) k5 bel lt5) trodAll_mk0)))))), rfl, bel.frame _, fun h => by cases h⟩

theorem over : Rows.ClockDriftSaid :=
  OpenClaim.holds_of_wide 6 Try.f6 rfl rfl rfl rfl rfl rfl rfl ⟨rfl, rfl, rfl, rfl, rfl⟩ rfl rfl rfl rfl rfl (by kernel_rfl) Try.func6 (by kernel_rfl)
    (of_decide_eq_true (by kernel_rfl)) (by unfold Func.isWrapper; rw [if_neg (of_decide_eq_false (by kernel_rfl))]; exact ⟨rfl, rfl⟩)
    (fun os started H enc _ => lifted os started H enc)

end Drift
theorem clockDrift_holds : Rows.ClockDriftSaid := Drift.over
end Go.Proofs.Ytllobkppehlgbab
