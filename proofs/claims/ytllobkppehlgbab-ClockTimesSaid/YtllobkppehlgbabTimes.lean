/- ClockTimes of layer 24 is true for every clock and all numbers, and leaves its arguments as they were; no condition. -/
import Derived.Test.YtllobkppehlgbabC5
namespace Go.Proofs.Ytllobkppehlgbab
open Go.ChangeShapes Go.WideShapes Go.ChangeAt Go.RowKit Go.Joins
open Go.ChangeMaps (open_string shut_string)
namespace Times
set_option linter.unusedVariables false
set_option maxHeartbeats 1000000 in
set_option maxRecDepth 100000 in
theorem walk_err (off ev s fin t : Int) (w : World) (h : ¬ (vldB off ev = true ∧ 1 ≤ fin ∧ fin ≤ 20000000)) :
    Calls Try.prog 5 #[.agg #[.int .i64 off, .int .i64 ev], .int .i64 s, .int .i64 fin, .int .i64 t] w fun e w' => e = .returned (.bool true) ∧ Below w.heap.size w w' := by
  have k := startC off ev w
  have HT := Lib.hid (fun W => times_err off ev s fin W h)
  clear h
  go_enter Try.func5, Try.ntmps5
  go_wp2_with (first | (go_at_call 9; refine (head_any _).mono ?_; rintro e w1 ⟨rfl, hb⟩; obtain ⟨k, p, q⟩ := nextC k.out hb; clear hb) | (go_at_call 13; (first | ((with_reducible refine (HT.out _).mono ?_); rintro e w3 ⟨rfl, hb⟩)); obtain ⟨k, p, q⟩ := nextC k.out hb; clear hb))
  all_goals go_ret
  all_goals (first | exact ⟨rfl, k.out.1⟩ | exact ⟨ret_bool (by simp; omega), k.out.1⟩)

set_option maxHeartbeats 1000000 in
set_option maxRecDepth 100000 in
theorem walk_none_a (off ev s fin t : Int) (w : World) (hv : vldB off ev = true) (n : Nat) (hn : fin = n) (h3 : n ≤ 20000000) (HT : Hid (∀ W, Calls Try.prog 13 #[.agg #[.int .i64 off, .int .i64 ev], .int .i64 s, .int .i64 fin] W fun e w' => e = .returned (.tuple #[.int .i64 0, .int .i64 0, .bool false, .int .i64 0]) ∧ Below W.heap.size W w')) (ht : t < 0 ∨ n ≤ t) :
    Calls Try.prog 5 #[.agg #[.int .i64 off, .int .i64 ev], .int .i64 s, .int .i64 fin, .int .i64 t] w fun e w' => e = .returned (.bool true) ∧ Below w.heap.size w w' := by
  have k := startC off ev w
  subst hn
  clear hv
  go_enter Try.func5, Try.ntmps5
  go_wp2_with (first | (go_at_call 9; refine (head_any _).mono ?_; rintro e w1 ⟨rfl, hb⟩; obtain ⟨k, p, q⟩ := nextC k.out hb; clear hb) | (go_at_call 13; (first | ((with_reducible refine (HT.out _).mono ?_); rintro e w3 ⟨rfl, hb⟩)); obtain ⟨k, p, q⟩ := nextC k.out hb; clear hb))
  all_goals go_ret
  all_goals (first | exact ⟨rfl, k.out.1⟩ | exact ⟨ret_bool (by simp; omega), k.out.1⟩)

set_option maxHeartbeats 1000000 in
set_option maxRecDepth 100000 in
theorem walk_none_b (off ev s fin t : Int) (w : World) (hv : vldB off ev = true) (n : Nat) (hn : fin = n) (h3 : n ≤ 20000000) (HT : Hid (∀ W, Calls Try.prog 13 #[.agg #[.int .i64 off, .int .i64 ev], .int .i64 s, .int .i64 fin] W fun e w' => e = .returned (.tuple #[.int .i64 0, .int .i64 0, .bool false, .int .i64 0]) ∧ Below W.heap.size W w')) (ht : 0 ≤ t ∧ t < n) (hx : shw off ev t < s ∨ s < shw off ev t) :
    Calls Try.prog 5 #[.agg #[.int .i64 off, .int .i64 ev], .int .i64 s, .int .i64 fin, .int .i64 t] w fun e w' => e = .returned (.bool true) ∧ Below w.heap.size w w' := by
  have k := startC off ev w
  subst hn
  have hS := fun W => show_ok off ev t W hv (by omega) (by omega)
  have z1 : (shw off ev t == s) = false := beq_eq_false_iff_ne.2 (by omega)
  clear hx
  generalize shw off ev t = x at *
  have HS := Lib.hid hS
  clear hS
  clear hv
  go_enter Try.func5, Try.ntmps5
  go_wp2_with (first | (go_at_call 9; refine (head_any _).mono ?_; rintro e w1 ⟨rfl, hb⟩; obtain ⟨k, p, q⟩ := nextC k.out hb; clear hb) | (go_at_call 13; (first | ((with_reducible refine (HT.out _).mono ?_); rintro e w3 ⟨rfl, hb⟩)); obtain ⟨k, p, q⟩ := nextC k.out hb; clear hb) | (go_at_call 11; (first | ((with_reducible refine (HS.out _).mono ?_); rintro e w3 ⟨rfl, hb⟩)); obtain ⟨k, p, q⟩ := nextC k.out hb; clear hb))
  all_goals go_ret
  all_goals (first | exact ⟨rfl, k.out.1⟩ | exact ⟨ret_bool (by simp; omega), k.out.1⟩)

set_option maxHeartbeats 1000000 in
set_option maxRecDepth 100000 in
theorem walk_out_zz (off ev s fin t : Int) (w : World) (hv : vldB off ev = true) (n b : Nat) (hn : fin = n) (h3 : n ≤ 20000000) (hfb : 0 < b) (hbn : b ≤ n) (hs : -30000000 ≤ s ∧ s ≤ 50000000) (H1 : Hid (shw off ev 0 = s)) (H2 : Hid (shw off ev ((b : Int) - 1) = s)) (HT : Hid (∀ W, Calls Try.prog 13 #[.agg #[.int .i64 off, .int .i64 ev], .int .i64 s, .int .i64 fin] W fun e w' => e = .returned (.tuple #[.int .i64 0, .int .i64 b, .bool true, .int .i64 0]) ∧ Below W.heap.size W w')) (ht : t < 0 ∨ n ≤ t)  (h2 : b = n) :
    Calls Try.prog 5 #[.agg #[.int .i64 off, .int .i64 ev], .int .i64 s, .int .i64 fin, .int .i64 t] w fun e w' => e = .returned (.bool true) ∧ Below w.heap.size w w' := by
  have k := startC off ev w
  subst hn
  have H3 := Lib.hid (fun W => show_ok off ev t W hv)
  have hw1 := fun W => shows_ok off ev 0 s W hv (by omega) (by omega)
  rw [beq_iff_eq.2 H1.out] at hw1
  have W1 := Lib.hid hw1
  have hw2 := fun W => shows_ok off ev ((b : Int) - 1) s W hv (by omega) (by omega)
  rw [beq_iff_eq.2 H2.out] at hw2
  have W2 := Lib.hid hw2
  clear hw1 hw2
  clear H3
  subst h2
  clear hv
  go_enter Try.func5, Try.ntmps5
  go_wp2_with (first | (go_at_call 9; refine (head_any _).mono ?_; rintro e w1 ⟨rfl, hb⟩; obtain ⟨k, p, q⟩ := nextC k.out hb; clear hb) | (go_at_call 13; (first | ((with_reducible refine (HT.out _).mono ?_); rintro e w3 ⟨rfl, hb⟩)); obtain ⟨k, p, q⟩ := nextC k.out hb; clear hb) | (go_at_call 19; (first | ((with_reducible refine (W1.out _).mono ?_); rintro e w3 ⟨rfl, hb⟩) | ((with_reducible refine (W2.out _).mono ?_); rintro e w3 ⟨rfl, hb⟩)); obtain ⟨k, p, q⟩ := nextC k.out hb; clear hb))
  all_goals go_ret
  all_goals (first | exact ⟨rfl, k.out.1⟩ | exact ⟨ret_bool (by simp; omega), k.out.1⟩)

set_option maxHeartbeats 1000000 in
set_option maxRecDepth 100000 in
theorem walk_out_zp (off ev s fin t : Int) (w : World) (hv : vldB off ev = true) (n b : Nat) (hn : fin = n) (h3 : n ≤ 20000000) (hfb : 0 < b) (hbn : b ≤ n) (hs : -30000000 ≤ s ∧ s ≤ 50000000) (H1 : Hid (shw off ev 0 = s)) (H2 : Hid (shw off ev ((b : Int) - 1) = s)) (HT : Hid (∀ W, Calls Try.prog 13 #[.agg #[.int .i64 off, .int .i64 ev], .int .i64 s, .int .i64 fin] W fun e w' => e = .returned (.tuple #[.int .i64 0, .int .i64 b, .bool true, .int .i64 0]) ∧ Below W.heap.size W w')) (ht : t < 0 ∨ n ≤ t)  (h2 : b < n) (hz : s < shw off ev b) :
    Calls Try.prog 5 #[.agg #[.int .i64 off, .int .i64 ev], .int .i64 s, .int .i64 fin, .int .i64 t] w fun e w' => e = .returned (.bool true) ∧ Below w.heap.size w w' := by
  have k := startC off ev w
  subst hn
  have H3 := Lib.hid (fun W => show_ok off ev t W hv)
  have hw1 := fun W => shows_ok off ev 0 s W hv (by omega) (by omega)
  rw [beq_iff_eq.2 H1.out] at hw1
  have W1 := Lib.hid hw1
  have hw2 := fun W => shows_ok off ev ((b : Int) - 1) s W hv (by omega) (by omega)
  rw [beq_iff_eq.2 H2.out] at hw2
  have W2 := Lib.hid hw2
  clear hw1 hw2
  clear H3
  have hB := fun W => show_ok off ev b W hv (by omega) (by omega)
  clear H1 H2
  generalize shw off ev (b : Int) = z at *
  have HB := Lib.hid hB
  clear hB
  clear hv
  go_enter Try.func5, Try.ntmps5
  go_wp2_with (first | (go_at_call 9; refine (head_any _).mono ?_; rintro e w1 ⟨rfl, hb⟩; obtain ⟨k, p, q⟩ := nextC k.out hb; clear hb) | (go_at_call 13; (first | ((with_reducible refine (HT.out _).mono ?_); rintro e w3 ⟨rfl, hb⟩)); obtain ⟨k, p, q⟩ := nextC k.out hb; clear hb) | (go_at_call 19; (first | ((with_reducible refine (W1.out _).mono ?_); rintro e w3 ⟨rfl, hb⟩) | ((with_reducible refine (W2.out _).mono ?_); rintro e w3 ⟨rfl, hb⟩)); obtain ⟨k, p, q⟩ := nextC k.out hb; clear hb) | (go_at_call 11; (first | ((with_reducible refine (HB.out _).mono ?_); rintro e w3 ⟨rfl, hb⟩)); obtain ⟨k, p, q⟩ := nextC k.out hb; clear hb))
  all_goals go_ret
  all_goals (first | exact ⟨rfl, k.out.1⟩ | exact ⟨ret_bool (by simp; omega), k.out.1⟩)

set_option maxHeartbeats 1000000 in
set_option maxRecDepth 100000 in
theorem walk_out_pz (off ev s fin t : Int) (w : World) (hv : vldB off ev = true) (n f b : Nat) (hn : fin = n) (h3 : n ≤ 20000000) (hfb : f < b) (hbn : b ≤ n) (hs : -30000000 ≤ s ∧ s ≤ 50000000) (H1 : Hid (shw off ev f = s)) (H2 : Hid (shw off ev ((b : Int) - 1) = s)) (HT : Hid (∀ W, Calls Try.prog 13 #[.agg #[.int .i64 off, .int .i64 ev], .int .i64 s, .int .i64 fin] W fun e w' => e = .returned (.tuple #[.int .i64 f, .int .i64 b, .bool true, .int .i64 0]) ∧ Below W.heap.size W w')) (ht : t < 0 ∨ n ≤ t) (h1 : 0 < f) (hy : shw off ev ((f : Int) - 1) < s) (h2 : b = n) :
    Calls Try.prog 5 #[.agg #[.int .i64 off, .int .i64 ev], .int .i64 s, .int .i64 fin, .int .i64 t] w fun e w' => e = .returned (.bool true) ∧ Below w.heap.size w w' := by
  have k := startC off ev w
  subst hn
  have H3 := Lib.hid (fun W => show_ok off ev t W hv)
  have hw1 := fun W => shows_ok off ev f s W hv (by omega) (by omega)
  rw [beq_iff_eq.2 H1.out] at hw1
  have W1 := Lib.hid hw1
  have hw2 := fun W => shows_ok off ev ((b : Int) - 1) s W hv (by omega) (by omega)
  rw [beq_iff_eq.2 H2.out] at hw2
  have W2 := Lib.hid hw2
  clear hw1 hw2
  clear H3
  have hF := fun W => show_ok off ev ((f : Int) - 1) W hv (by omega) (by omega)
  generalize shw off ev ((f : Int) - 1) = y at *
  have HF := Lib.hid hF
  clear hF
  subst h2
  clear hv
  go_enter Try.func5, Try.ntmps5
  go_wp2_with (first | (go_at_call 9; refine (head_any _).mono ?_; rintro e w1 ⟨rfl, hb⟩; obtain ⟨k, p, q⟩ := nextC k.out hb; clear hb) | (go_at_call 13; (first | ((with_reducible refine (HT.out _).mono ?_); rintro e w3 ⟨rfl, hb⟩)); obtain ⟨k, p, q⟩ := nextC k.out hb; clear hb) | (go_at_call 19; (first | ((with_reducible refine (W1.out _).mono ?_); rintro e w3 ⟨rfl, hb⟩) | ((with_reducible refine (W2.out _).mono ?_); rintro e w3 ⟨rfl, hb⟩)); obtain ⟨k, p, q⟩ := nextC k.out hb; clear hb) | (go_at_call 11; (first | ((with_reducible refine (HF.out _).mono ?_); rintro e w3 ⟨rfl, hb⟩)); obtain ⟨k, p, q⟩ := nextC k.out hb; clear hb))
  all_goals go_ret
  all_goals (first | exact ⟨rfl, k.out.1⟩ | exact ⟨ret_bool (by simp; omega), k.out.1⟩)

set_option maxHeartbeats 1000000 in
set_option maxRecDepth 100000 in
theorem walk_out_pp (off ev s fin t : Int) (w : World) (hv : vldB off ev = true) (n f b : Nat) (hn : fin = n) (h3 : n ≤ 20000000) (hfb : f < b) (hbn : b ≤ n) (hs : -30000000 ≤ s ∧ s ≤ 50000000) (H1 : Hid (shw off ev f = s)) (H2 : Hid (shw off ev ((b : Int) - 1) = s)) (HT : Hid (∀ W, Calls Try.prog 13 #[.agg #[.int .i64 off, .int .i64 ev], .int .i64 s, .int .i64 fin] W fun e w' => e = .returned (.tuple #[.int .i64 f, .int .i64 b, .bool true, .int .i64 0]) ∧ Below W.heap.size W w')) (ht : t < 0 ∨ n ≤ t) (h1 : 0 < f) (hy : shw off ev ((f : Int) - 1) < s) (h2 : b < n) (hz : s < shw off ev b) :
    Calls Try.prog 5 #[.agg #[.int .i64 off, .int .i64 ev], .int .i64 s, .int .i64 fin, .int .i64 t] w fun e w' => e = .returned (.bool true) ∧ Below w.heap.size w w' := by
  have k := startC off ev w
  subst hn
  have H3 := Lib.hid (fun W => show_ok off ev t W hv)
  have hw1 := fun W => shows_ok off ev f s W hv (by omega) (by omega)
  rw [beq_iff_eq.2 H1.out] at hw1
  have W1 := Lib.hid hw1
  have hw2 := fun W => shows_ok off ev ((b : Int) - 1) s W hv (by omega) (by omega)
  rw [beq_iff_eq.2 H2.out] at hw2
  have W2 := Lib.hid hw2
  clear hw1 hw2
  clear H3
  have hF := fun W => show_ok off ev ((f : Int) - 1) W hv (by omega) (by omega)
  generalize shw off ev ((f : Int) - 1) = y at *
  have HF := Lib.hid hF
  clear hF
  have hB := fun W => show_ok off ev b W hv (by omega) (by omega)
  clear H1 H2
  generalize shw off ev (b : Int) = z at *
  have HB := Lib.hid hB
  clear hB
  clear hv
  go_enter Try.func5, Try.ntmps5
  go_wp2_with (first | (go_at_call 9; refine (head_any _).mono ?_; rintro e w1 ⟨rfl, hb⟩; obtain ⟨k, p, q⟩ := nextC k.out hb; clear hb) | (go_at_call 13; (first | ((with_reducible refine (HT.out _).mono ?_); rintro e w3 ⟨rfl, hb⟩)); obtain ⟨k, p, q⟩ := nextC k.out hb; clear hb) | (go_at_call 19; (first | ((with_reducible refine (W1.out _).mono ?_); rintro e w3 ⟨rfl, hb⟩) | ((with_reducible refine (W2.out _).mono ?_); rintro e w3 ⟨rfl, hb⟩)); obtain ⟨k, p, q⟩ := nextC k.out hb; clear hb) | (go_at_call 11; (first | ((with_reducible refine (HF.out _).mono ?_); rintro e w3 ⟨rfl, hb⟩) | ((with_reducible refine (HB.out _).mono ?_); rintro e w3 ⟨rfl, hb⟩)); obtain ⟨k, p, q⟩ := nextC k.out hb; clear hb))
  all_goals go_ret
  all_goals (first | exact ⟨rfl, k.out.1⟩ | exact ⟨ret_bool (by simp; omega), k.out.1⟩)

set_option maxHeartbeats 1000000 in
set_option maxRecDepth 100000 in
theorem walk_bef_zz (off ev s fin t : Int) (w : World) (hv : vldB off ev = true) (n b : Nat) (hn : fin = n) (h3 : n ≤ 20000000) (hfb : 0 < b) (hbn : b ≤ n) (hs : -30000000 ≤ s ∧ s ≤ 50000000) (H1 : Hid (shw off ev 0 = s)) (H2 : Hid (shw off ev ((b : Int) - 1) = s)) (HT : Hid (∀ W, Calls Try.prog 13 #[.agg #[.int .i64 off, .int .i64 ev], .int .i64 s, .int .i64 fin] W fun e w' => e = .returned (.tuple #[.int .i64 0, .int .i64 b, .bool true, .int .i64 0]) ∧ Below W.heap.size W w')) (ht : 0 ≤ t ∧ t < 0) (hx : shw off ev t < s)  (h2 : b = n) :
    Calls Try.prog 5 #[.agg #[.int .i64 off, .int .i64 ev], .int .i64 s, .int .i64 fin, .int .i64 t] w fun e w' => e = .returned (.bool true) ∧ Below w.heap.size w w' := by
  have k := startC off ev w
  subst hn
  have H3 := Lib.hid (fun W => show_ok off ev t W hv)
  have hw1 := fun W => shows_ok off ev 0 s W hv (by omega) (by omega)
  rw [beq_iff_eq.2 H1.out] at hw1
  have W1 := Lib.hid hw1
  have hw2 := fun W => shows_ok off ev ((b : Int) - 1) s W hv (by omega) (by omega)
  rw [beq_iff_eq.2 H2.out] at hw2
  have W2 := Lib.hid hw2
  clear hw1 hw2
  have hS := fun W => show_ok off ev t W hv (by omega) (by omega)
  have z1 : (shw off ev t == s) = false := beq_eq_false_iff_ne.2 (by omega)
  clear hx H3
  generalize shw off ev t = x at *
  have HS := Lib.hid hS
  clear hS
  subst h2
  clear hv
  go_enter Try.func5, Try.ntmps5
  go_wp2_with (first | (go_at_call 9; refine (head_any _).mono ?_; rintro e w1 ⟨rfl, hb⟩; obtain ⟨k, p, q⟩ := nextC k.out hb; clear hb) | (go_at_call 13; (first | ((with_reducible refine (HT.out _).mono ?_); rintro e w3 ⟨rfl, hb⟩)); obtain ⟨k, p, q⟩ := nextC k.out hb; clear hb) | (go_at_call 19; (first | ((with_reducible refine (W1.out _).mono ?_); rintro e w3 ⟨rfl, hb⟩) | ((with_reducible refine (W2.out _).mono ?_); rintro e w3 ⟨rfl, hb⟩)); obtain ⟨k, p, q⟩ := nextC k.out hb; clear hb) | (go_at_call 11; (first | ((with_reducible refine (HS.out _).mono ?_); rintro e w3 ⟨rfl, hb⟩)); obtain ⟨k, p, q⟩ := nextC k.out hb; clear hb))
  all_goals go_ret
  all_goals (first | exact ⟨rfl, k.out.1⟩ | exact ⟨ret_bool (by simp; omega), k.out.1⟩)

set_option maxHeartbeats 1000000 in
set_option maxRecDepth 100000 in
theorem walk_bef_zp (off ev s fin t : Int) (w : World) (hv : vldB off ev = true) (n b : Nat) (hn : fin = n) (h3 : n ≤ 20000000) (hfb : 0 < b) (hbn : b ≤ n) (hs : -30000000 ≤ s ∧ s ≤ 50000000) (H1 : Hid (shw off ev 0 = s)) (H2 : Hid (shw off ev ((b : Int) - 1) = s)) (HT : Hid (∀ W, Calls Try.prog 13 #[.agg #[.int .i64 off, .int .i64 ev], .int .i64 s, .int .i64 fin] W fun e w' => e = .returned (.tuple #[.int .i64 0, .int .i64 b, .bool true, .int .i64 0]) ∧ Below W.heap.size W w')) (ht : 0 ≤ t ∧ t < 0) (hx : shw off ev t < s)  (h2 : b < n) (hz : s < shw off ev b) :
    Calls Try.prog 5 #[.agg #[.int .i64 off, .int .i64 ev], .int .i64 s, .int .i64 fin, .int .i64 t] w fun e w' => e = .returned (.bool true) ∧ Below w.heap.size w w' := by
  have k := startC off ev w
  subst hn
  have H3 := Lib.hid (fun W => show_ok off ev t W hv)
  have hw1 := fun W => shows_ok off ev 0 s W hv (by omega) (by omega)
  rw [beq_iff_eq.2 H1.out] at hw1
  have W1 := Lib.hid hw1
  have hw2 := fun W => shows_ok off ev ((b : Int) - 1) s W hv (by omega) (by omega)
  rw [beq_iff_eq.2 H2.out] at hw2
  have W2 := Lib.hid hw2
  clear hw1 hw2
  have hS := fun W => show_ok off ev t W hv (by omega) (by omega)
  have z1 : (shw off ev t == s) = false := beq_eq_false_iff_ne.2 (by omega)
  clear hx H3
  generalize shw off ev t = x at *
  have HS := Lib.hid hS
  clear hS
  have hB := fun W => show_ok off ev b W hv (by omega) (by omega)
  clear H1 H2
  generalize shw off ev (b : Int) = z at *
  have HB := Lib.hid hB
  clear hB
  clear hv
  go_enter Try.func5, Try.ntmps5
  go_wp2_with (first | (go_at_call 9; refine (head_any _).mono ?_; rintro e w1 ⟨rfl, hb⟩; obtain ⟨k, p, q⟩ := nextC k.out hb; clear hb) | (go_at_call 13; (first | ((with_reducible refine (HT.out _).mono ?_); rintro e w3 ⟨rfl, hb⟩)); obtain ⟨k, p, q⟩ := nextC k.out hb; clear hb) | (go_at_call 19; (first | ((with_reducible refine (W1.out _).mono ?_); rintro e w3 ⟨rfl, hb⟩) | ((with_reducible refine (W2.out _).mono ?_); rintro e w3 ⟨rfl, hb⟩)); obtain ⟨k, p, q⟩ := nextC k.out hb; clear hb) | (go_at_call 11; (first | ((with_reducible refine (HS.out _).mono ?_); rintro e w3 ⟨rfl, hb⟩) | ((with_reducible refine (HB.out _).mono ?_); rintro e w3 ⟨rfl, hb⟩)); obtain ⟨k, p, q⟩ := nextC k.out hb; clear hb))
  all_goals go_ret
  all_goals (first | exact ⟨rfl, k.out.1⟩ | exact ⟨ret_bool (by simp; omega), k.out.1⟩)

set_option maxHeartbeats 1000000 in
set_option maxRecDepth 100000 in
theorem walk_bef_pz (off ev s fin t : Int) (w : World) (hv : vldB off ev = true) (n f b : Nat) (hn : fin = n) (h3 : n ≤ 20000000) (hfb : f < b) (hbn : b ≤ n) (hs : -30000000 ≤ s ∧ s ≤ 50000000) (H1 : Hid (shw off ev f = s)) (H2 : Hid (shw off ev ((b : Int) - 1) = s)) (HT : Hid (∀ W, Calls Try.prog 13 #[.agg #[.int .i64 off, .int .i64 ev], .int .i64 s, .int .i64 fin] W fun e w' => e = .returned (.tuple #[.int .i64 f, .int .i64 b, .bool true, .int .i64 0]) ∧ Below W.heap.size W w')) (ht : 0 ≤ t ∧ t < f) (hx : shw off ev t < s) (h1 : 0 < f) (hy : shw off ev ((f : Int) - 1) < s) (h2 : b = n) :
    Calls Try.prog 5 #[.agg #[.int .i64 off, .int .i64 ev], .int .i64 s, .int .i64 fin, .int .i64 t] w fun e w' => e = .returned (.bool true) ∧ Below w.heap.size w w' := by
  have k := startC off ev w
  subst hn
  have H3 := Lib.hid (fun W => show_ok off ev t W hv)
  have hw1 := fun W => shows_ok off ev f s W hv (by omega) (by omega)
  rw [beq_iff_eq.2 H1.out] at hw1
  have W1 := Lib.hid hw1
  have hw2 := fun W => shows_ok off ev ((b : Int) - 1) s W hv (by omega) (by omega)
  rw [beq_iff_eq.2 H2.out] at hw2
  have W2 := Lib.hid hw2
  clear hw1 hw2
  have hS := fun W => show_ok off ev t W hv (by omega) (by omega)
  have z1 : (shw off ev t == s) = false := beq_eq_false_iff_ne.2 (by omega)
  clear hx H3
  generalize shw off ev t = x at *
  have HS := Lib.hid hS
  clear hS
  have hF := fun W => show_ok off ev ((f : Int) - 1) W hv (by omega) (by omega)
  generalize shw off ev ((f : Int) - 1) = y at *
  have HF := Lib.hid hF
  clear hF
  subst h2
  clear hv
  go_enter Try.func5, Try.ntmps5
  go_wp2_with (first | (go_at_call 9; refine (head_any _).mono ?_; rintro e w1 ⟨rfl, hb⟩; obtain ⟨k, p, q⟩ := nextC k.out hb; clear hb) | (go_at_call 13; (first | ((with_reducible refine (HT.out _).mono ?_); rintro e w3 ⟨rfl, hb⟩)); obtain ⟨k, p, q⟩ := nextC k.out hb; clear hb) | (go_at_call 19; (first | ((with_reducible refine (W1.out _).mono ?_); rintro e w3 ⟨rfl, hb⟩) | ((with_reducible refine (W2.out _).mono ?_); rintro e w3 ⟨rfl, hb⟩)); obtain ⟨k, p, q⟩ := nextC k.out hb; clear hb) | (go_at_call 11; (first | ((with_reducible refine (HS.out _).mono ?_); rintro e w3 ⟨rfl, hb⟩) | ((with_reducible refine (HF.out _).mono ?_); rintro e w3 ⟨rfl, hb⟩)); obtain ⟨k, p, q⟩ := nextC k.out hb; clear hb))
  all_goals go_ret
  all_goals (first | exact ⟨rfl, k.out.1⟩ | exact ⟨ret_bool (by simp; omega), k.out.1⟩)

set_option maxHeartbeats 1000000 in
set_option maxRecDepth 100000 in
theorem walk_bef_pp (off ev s fin t : Int) (w : World) (hv : vldB off ev = true) (n f b : Nat) (hn : fin = n) (h3 : n ≤ 20000000) (hfb : f < b) (hbn : b ≤ n) (hs : -30000000 ≤ s ∧ s ≤ 50000000) (H1 : Hid (shw off ev f = s)) (H2 : Hid (shw off ev ((b : Int) - 1) = s)) (HT : Hid (∀ W, Calls Try.prog 13 #[.agg #[.int .i64 off, .int .i64 ev], .int .i64 s, .int .i64 fin] W fun e w' => e = .returned (.tuple #[.int .i64 f, .int .i64 b, .bool true, .int .i64 0]) ∧ Below W.heap.size W w')) (ht : 0 ≤ t ∧ t < f) (hx : shw off ev t < s) (h1 : 0 < f) (hy : shw off ev ((f : Int) - 1) < s) (h2 : b < n) (hz : s < shw off ev b) :
    Calls Try.prog 5 #[.agg #[.int .i64 off, .int .i64 ev], .int .i64 s, .int .i64 fin, .int .i64 t] w fun e w' => e = .returned (.bool true) ∧ Below w.heap.size w w' := by
  have k := startC off ev w
  subst hn
  have H3 := Lib.hid (fun W => show_ok off ev t W hv)
  have hw1 := fun W => shows_ok off ev f s W hv (by omega) (by omega)
  rw [beq_iff_eq.2 H1.out] at hw1
  have W1 := Lib.hid hw1
  have hw2 := fun W => shows_ok off ev ((b : Int) - 1) s W hv (by omega) (by omega)
  rw [beq_iff_eq.2 H2.out] at hw2
  have W2 := Lib.hid hw2
  clear hw1 hw2
  have hS := fun W => show_ok off ev t W hv (by omega) (by omega)
  have z1 : (shw off ev t == s) = false := beq_eq_false_iff_ne.2 (by omega)
  clear hx H3
  generalize shw off ev t = x at *
  have HS := Lib.hid hS
  clear hS
  have hF := fun W => show_ok off ev ((f : Int) - 1) W hv (by omega) (by omega)
  generalize shw off ev ((f : Int) - 1) = y at *
  have HF := Lib.hid hF
  clear hF
  have hB := fun W => show_ok off ev b W hv (by omega) (by omega)
  clear H1 H2
  generalize shw off ev (b : Int) = z at *
  have HB := Lib.hid hB
  clear hB
  clear hv
  go_enter Try.func5, Try.ntmps5
  go_wp2_with (first | (go_at_call 9; refine (head_any _).mono ?_; rintro e w1 ⟨rfl, hb⟩; obtain ⟨k, p, q⟩ := nextC k.out hb; clear hb) | (go_at_call 13; (first | ((with_reducible refine (HT.out _).mono ?_); rintro e w3 ⟨rfl, hb⟩)); obtain ⟨k, p, q⟩ := nextC k.out hb; clear hb) | (go_at_call 19; (first | ((with_reducible refine (W1.out _).mono ?_); rintro e w3 ⟨rfl, hb⟩) | ((with_reducible refine (W2.out _).mono ?_); rintro e w3 ⟨rfl, hb⟩)); obtain ⟨k, p, q⟩ := nextC k.out hb; clear hb) | (go_at_call 11; (first | ((with_reducible refine (HS.out _).mono ?_); rintro e w3 ⟨rfl, hb⟩) | ((with_reducible refine (HF.out _).mono ?_); rintro e w3 ⟨rfl, hb⟩) | ((with_reducible refine (HB.out _).mono ?_); rintro e w3 ⟨rfl, hb⟩)); obtain ⟨k, p, q⟩ := nextC k.out hb; clear hb))
  all_goals go_ret
  all_goals (first | exact ⟨rfl, k.out.1⟩ | exact ⟨ret_bool (by simp; omega), k.out.1⟩)

set_option maxHeartbeats 1000000 in
set_option maxRecDepth 100000 in
theorem walk_in_zz (off ev s fin t : Int) (w : World) (hv : vldB off ev = true) (n b : Nat) (hn : fin = n) (h3 : n ≤ 20000000) (hfb : 0 < b) (hbn : b ≤ n) (hs : -30000000 ≤ s ∧ s ≤ 50000000) (H1 : Hid (shw off ev 0 = s)) (H2 : Hid (shw off ev ((b : Int) - 1) = s)) (HT : Hid (∀ W, Calls Try.prog 13 #[.agg #[.int .i64 off, .int .i64 ev], .int .i64 s, .int .i64 fin] W fun e w' => e = .returned (.tuple #[.int .i64 0, .int .i64 b, .bool true, .int .i64 0]) ∧ Below W.heap.size W w')) (ht : 0 ≤ t ∧ t < b) (hx : shw off ev t = s)  (h2 : b = n) :
    Calls Try.prog 5 #[.agg #[.int .i64 off, .int .i64 ev], .int .i64 s, .int .i64 fin, .int .i64 t] w fun e w' => e = .returned (.bool true) ∧ Below w.heap.size w w' := by
  have k := startC off ev w
  subst hn
  have H3 := Lib.hid (fun W => show_ok off ev t W hv)
  have hw1 := fun W => shows_ok off ev 0 s W hv (by omega) (by omega)
  rw [beq_iff_eq.2 H1.out] at hw1
  have W1 := Lib.hid hw1
  have hw2 := fun W => shows_ok off ev ((b : Int) - 1) s W hv (by omega) (by omega)
  rw [beq_iff_eq.2 H2.out] at hw2
  have W2 := Lib.hid hw2
  clear hw1 hw2
  have hS := fun W => show_ok off ev t W hv (by omega) (by omega)
  have z1 : (shw off ev t == s) = true := beq_iff_eq.2 hx
  clear hx H3
  generalize shw off ev t = x at *
  have HS := Lib.hid hS
  clear hS
  subst h2
  clear hv
  go_enter Try.func5, Try.ntmps5
  go_wp2_with (first | (go_at_call 9; refine (head_any _).mono ?_; rintro e w1 ⟨rfl, hb⟩; obtain ⟨k, p, q⟩ := nextC k.out hb; clear hb) | (go_at_call 13; (first | ((with_reducible refine (HT.out _).mono ?_); rintro e w3 ⟨rfl, hb⟩)); obtain ⟨k, p, q⟩ := nextC k.out hb; clear hb) | (go_at_call 19; (first | ((with_reducible refine (W1.out _).mono ?_); rintro e w3 ⟨rfl, hb⟩) | ((with_reducible refine (W2.out _).mono ?_); rintro e w3 ⟨rfl, hb⟩)); obtain ⟨k, p, q⟩ := nextC k.out hb; clear hb) | (go_at_call 11; (first | ((with_reducible refine (HS.out _).mono ?_); rintro e w3 ⟨rfl, hb⟩)); obtain ⟨k, p, q⟩ := nextC k.out hb; clear hb))
  all_goals go_ret
  all_goals (first | exact ⟨rfl, k.out.1⟩ | exact ⟨ret_bool (by simp; omega), k.out.1⟩)

set_option maxHeartbeats 1000000 in
set_option maxRecDepth 100000 in
theorem walk_in_zp (off ev s fin t : Int) (w : World) (hv : vldB off ev = true) (n b : Nat) (hn : fin = n) (h3 : n ≤ 20000000) (hfb : 0 < b) (hbn : b ≤ n) (hs : -30000000 ≤ s ∧ s ≤ 50000000) (H1 : Hid (shw off ev 0 = s)) (H2 : Hid (shw off ev ((b : Int) - 1) = s)) (HT : Hid (∀ W, Calls Try.prog 13 #[.agg #[.int .i64 off, .int .i64 ev], .int .i64 s, .int .i64 fin] W fun e w' => e = .returned (.tuple #[.int .i64 0, .int .i64 b, .bool true, .int .i64 0]) ∧ Below W.heap.size W w')) (ht : 0 ≤ t ∧ t < b) (hx : shw off ev t = s)  (h2 : b < n) (hz : s < shw off ev b) :
    Calls Try.prog 5 #[.agg #[.int .i64 off, .int .i64 ev], .int .i64 s, .int .i64 fin, .int .i64 t] w fun e w' => e = .returned (.bool true) ∧ Below w.heap.size w w' := by
  have k := startC off ev w
  subst hn
  have H3 := Lib.hid (fun W => show_ok off ev t W hv)
  have hw1 := fun W => shows_ok off ev 0 s W hv (by omega) (by omega)
  rw [beq_iff_eq.2 H1.out] at hw1
  have W1 := Lib.hid hw1
  have hw2 := fun W => shows_ok off ev ((b : Int) - 1) s W hv (by omega) (by omega)
  rw [beq_iff_eq.2 H2.out] at hw2
  have W2 := Lib.hid hw2
  clear hw1 hw2
  have hS := fun W => show_ok off ev t W hv (by omega) (by omega)
  have z1 : (shw off ev t == s) = true := beq_iff_eq.2 hx
  clear hx H3
  generalize shw off ev t = x at *
  have HS := Lib.hid hS
  clear hS
  have hB := fun W => show_ok off ev b W hv (by omega) (by omega)
  clear H1 H2
  generalize shw off ev (b : Int) = z at *
  have HB := Lib.hid hB
  clear hB
  clear hv
  go_enter Try.func5, Try.ntmps5
  go_wp2_with (first | (go_at_call 9; refine (head_any _).mono ?_; rintro e w1 ⟨rfl, hb⟩; obtain ⟨k, p, q⟩ := nextC k.out hb; clear hb) | (go_at_call 13; (first | ((with_reducible refine (HT.out _).mono ?_); rintro e w3 ⟨rfl, hb⟩)); obtain ⟨k, p, q⟩ := nextC k.out hb; clear hb) | (go_at_call 19; (first | ((with_reducible refine (W1.out _).mono ?_); rintro e w3 ⟨rfl, hb⟩) | ((with_reducible refine (W2.out _).mono ?_); rintro e w3 ⟨rfl, hb⟩)); obtain ⟨k, p, q⟩ := nextC k.out hb; clear hb) | (go_at_call 11; (first | ((with_reducible refine (HS.out _).mono ?_); rintro e w3 ⟨rfl, hb⟩) | ((with_reducible refine (HB.out _).mono ?_); rintro e w3 ⟨rfl, hb⟩)); obtain ⟨k, p, q⟩ := nextC k.out hb; clear hb))
  all_goals go_ret
  all_goals (first | exact ⟨rfl, k.out.1⟩ | exact ⟨ret_bool (by simp; omega), k.out.1⟩)

set_option maxHeartbeats 1000000 in
set_option maxRecDepth 100000 in
theorem walk_in_pz (off ev s fin t : Int) (w : World) (hv : vldB off ev = true) (n f b : Nat) (hn : fin = n) (h3 : n ≤ 20000000) (hfb : f < b) (hbn : b ≤ n) (hs : -30000000 ≤ s ∧ s ≤ 50000000) (H1 : Hid (shw off ev f = s)) (H2 : Hid (shw off ev ((b : Int) - 1) = s)) (HT : Hid (∀ W, Calls Try.prog 13 #[.agg #[.int .i64 off, .int .i64 ev], .int .i64 s, .int .i64 fin] W fun e w' => e = .returned (.tuple #[.int .i64 f, .int .i64 b, .bool true, .int .i64 0]) ∧ Below W.heap.size W w')) (ht : f ≤ t ∧ t < b) (hx : shw off ev t = s) (h1 : 0 < f) (hy : shw off ev ((f : Int) - 1) < s) (h2 : b = n) :
    Calls Try.prog 5 #[.agg #[.int .i64 off, .int .i64 ev], .int .i64 s, .int .i64 fin, .int .i64 t] w fun e w' => e = .returned (.bool true) ∧ Below w.heap.size w w' := by
  have k := startC off ev w
  subst hn
  have H3 := Lib.hid (fun W => show_ok off ev t W hv)
  have hw1 := fun W => shows_ok off ev f s W hv (by omega) (by omega)
  rw [beq_iff_eq.2 H1.out] at hw1
  have W1 := Lib.hid hw1
  have hw2 := fun W => shows_ok off ev ((b : Int) - 1) s W hv (by omega) (by omega)
  rw [beq_iff_eq.2 H2.out] at hw2
  have W2 := Lib.hid hw2
  clear hw1 hw2
  have hS := fun W => show_ok off ev t W hv (by omega) (by omega)
  have z1 : (shw off ev t == s) = true := beq_iff_eq.2 hx
  clear hx H3
  generalize shw off ev t = x at *
  have HS := Lib.hid hS
  clear hS
  have hF := fun W => show_ok off ev ((f : Int) - 1) W hv (by omega) (by omega)
  generalize shw off ev ((f : Int) - 1) = y at *
  have HF := Lib.hid hF
  clear hF
  subst h2
  clear hv
  go_enter Try.func5, Try.ntmps5
  go_wp2_with (first | (go_at_call 9; refine (head_any _).mono ?_; rintro e w1 ⟨rfl, hb⟩; obtain ⟨k, p, q⟩ := nextC k.out hb; clear hb) | (go_at_call 13; (first | ((with_reducible refine (HT.out _).mono ?_); rintro e w3 ⟨rfl, hb⟩)); obtain ⟨k, p, q⟩ := nextC k.out hb; clear hb) | (go_at_call 19; (first | ((with_reducible refine (W1.out _).mono ?_); rintro e w3 ⟨rfl, hb⟩) | ((with_reducible refine (W2.out _).mono ?_); rintro e w3 ⟨rfl, hb⟩)); obtain ⟨k, p, q⟩ := nextC k.out hb; clear hb) | (go_at_call 11; (first | ((with_reducible refine (HS.out _).mono ?_); rintro e w3 ⟨rfl, hb⟩) | ((with_reducible refine (HF.out _).mono ?_); rintro e w3 ⟨rfl, hb⟩)); obtain ⟨k, p, q⟩ := nextC k.out hb; clear hb))
  all_goals go_ret
  all_goals (first | exact ⟨rfl, k.out.1⟩ | exact ⟨ret_bool (by simp; omega), k.out.1⟩)

set_option maxHeartbeats 1000000 in
set_option maxRecDepth 100000 in
theorem walk_in_pp (off ev s fin t : Int) (w : World) (hv : vldB off ev = true) (n f b : Nat) (hn : fin = n) (h3 : n ≤ 20000000) (hfb : f < b) (hbn : b ≤ n) (hs : -30000000 ≤ s ∧ s ≤ 50000000) (H1 : Hid (shw off ev f = s)) (H2 : Hid (shw off ev ((b : Int) - 1) = s)) (HT : Hid (∀ W, Calls Try.prog 13 #[.agg #[.int .i64 off, .int .i64 ev], .int .i64 s, .int .i64 fin] W fun e w' => e = .returned (.tuple #[.int .i64 f, .int .i64 b, .bool true, .int .i64 0]) ∧ Below W.heap.size W w')) (ht : f ≤ t ∧ t < b) (hx : shw off ev t = s) (h1 : 0 < f) (hy : shw off ev ((f : Int) - 1) < s) (h2 : b < n) (hz : s < shw off ev b) :
    Calls Try.prog 5 #[.agg #[.int .i64 off, .int .i64 ev], .int .i64 s, .int .i64 fin, .int .i64 t] w fun e w' => e = .returned (.bool true) ∧ Below w.heap.size w w' := by
  have k := startC off ev w
  subst hn
  have H3 := Lib.hid (fun W => show_ok off ev t W hv)
  have hw1 := fun W => shows_ok off ev f s W hv (by omega) (by omega)
  rw [beq_iff_eq.2 H1.out] at hw1
  have W1 := Lib.hid hw1
  have hw2 := fun W => shows_ok off ev ((b : Int) - 1) s W hv (by omega) (by omega)
  rw [beq_iff_eq.2 H2.out] at hw2
  have W2 := Lib.hid hw2
  clear hw1 hw2
  have hS := fun W => show_ok off ev t W hv (by omega) (by omega)
  have z1 : (shw off ev t == s) = true := beq_iff_eq.2 hx
  clear hx H3
  generalize shw off ev t = x at *
  have HS := Lib.hid hS
  clear hS
  have hF := fun W => show_ok off ev ((f : Int) - 1) W hv (by omega) (by omega)
  generalize shw off ev ((f : Int) - 1) = y at *
  have HF := Lib.hid hF
  clear hF
  have hB := fun W => show_ok off ev b W hv (by omega) (by omega)
  clear H1 H2
  generalize shw off ev (b : Int) = z at *
  have HB := Lib.hid hB
  clear hB
  clear hv
  go_enter Try.func5, Try.ntmps5
  go_wp2_with (first | (go_at_call 9; refine (head_any _).mono ?_; rintro e w1 ⟨rfl, hb⟩; obtain ⟨k, p, q⟩ := nextC k.out hb; clear hb) | (go_at_call 13; (first | ((with_reducible refine (HT.out _).mono ?_); rintro e w3 ⟨rfl, hb⟩)); obtain ⟨k, p, q⟩ := nextC k.out hb; clear hb) | (go_at_call 19; (first | ((with_reducible refine (W1.out _).mono ?_); rintro e w3 ⟨rfl, hb⟩) | ((with_reducible refine (W2.out _).mono ?_); rintro e w3 ⟨rfl, hb⟩)); obtain ⟨k, p, q⟩ := nextC k.out hb; clear hb) | (go_at_call 11; (first | ((with_reducible refine (HS.out _).mono ?_); rintro e w3 ⟨rfl, hb⟩) | ((with_reducible refine (HF.out _).mono ?_); rintro e w3 ⟨rfl, hb⟩) | ((with_reducible refine (HB.out _).mono ?_); rintro e w3 ⟨rfl, hb⟩)); obtain ⟨k, p, q⟩ := nextC k.out hb; clear hb))
  all_goals go_ret
  all_goals (first | exact ⟨rfl, k.out.1⟩ | exact ⟨ret_bool (by simp; omega), k.out.1⟩)

set_option maxHeartbeats 1000000 in
set_option maxRecDepth 100000 in
theorem walk_aft_zz (off ev s fin t : Int) (w : World) (hv : vldB off ev = true) (n b : Nat) (hn : fin = n) (h3 : n ≤ 20000000) (hfb : 0 < b) (hbn : b ≤ n) (hs : -30000000 ≤ s ∧ s ≤ 50000000) (H1 : Hid (shw off ev 0 = s)) (H2 : Hid (shw off ev ((b : Int) - 1) = s)) (HT : Hid (∀ W, Calls Try.prog 13 #[.agg #[.int .i64 off, .int .i64 ev], .int .i64 s, .int .i64 fin] W fun e w' => e = .returned (.tuple #[.int .i64 0, .int .i64 b, .bool true, .int .i64 0]) ∧ Below W.heap.size W w')) (ht : b ≤ t ∧ t < n) (hx : s < shw off ev t)  (h2 : b = n) :
    Calls Try.prog 5 #[.agg #[.int .i64 off, .int .i64 ev], .int .i64 s, .int .i64 fin, .int .i64 t] w fun e w' => e = .returned (.bool true) ∧ Below w.heap.size w w' := by
  have k := startC off ev w
  subst hn
  have H3 := Lib.hid (fun W => show_ok off ev t W hv)
  have hw1 := fun W => shows_ok off ev 0 s W hv (by omega) (by omega)
  rw [beq_iff_eq.2 H1.out] at hw1
  have W1 := Lib.hid hw1
  have hw2 := fun W => shows_ok off ev ((b : Int) - 1) s W hv (by omega) (by omega)
  rw [beq_iff_eq.2 H2.out] at hw2
  have W2 := Lib.hid hw2
  clear hw1 hw2
  have hS := fun W => show_ok off ev t W hv (by omega) (by omega)
  have z1 : (shw off ev t == s) = false := beq_eq_false_iff_ne.2 (by omega)
  clear hx H3
  generalize shw off ev t = x at *
  have HS := Lib.hid hS
  clear hS
  subst h2
  clear hv
  go_enter Try.func5, Try.ntmps5
  go_wp2_with (first | (go_at_call 9; refine (head_any _).mono ?_; rintro e w1 ⟨rfl, hb⟩; obtain ⟨k, p, q⟩ := nextC k.out hb; clear hb) | (go_at_call 13; (first | ((with_reducible refine (HT.out _).mono ?_); rintro e w3 ⟨rfl, hb⟩)); obtain ⟨k, p, q⟩ := nextC k.out hb; clear hb) | (go_at_call 19; (first | ((with_reducible refine (W1.out _).mono ?_); rintro e w3 ⟨rfl, hb⟩) | ((with_reducible refine (W2.out _).mono ?_); rintro e w3 ⟨rfl, hb⟩)); obtain ⟨k, p, q⟩ := nextC k.out hb; clear hb) | (go_at_call 11; (first | ((with_reducible refine (HS.out _).mono ?_); rintro e w3 ⟨rfl, hb⟩)); obtain ⟨k, p, q⟩ := nextC k.out hb; clear hb))
  all_goals go_ret
  all_goals (first | exact ⟨rfl, k.out.1⟩ | exact ⟨ret_bool (by simp; omega), k.out.1⟩)

set_option maxHeartbeats 1000000 in
set_option maxRecDepth 100000 in
theorem walk_aft_zp (off ev s fin t : Int) (w : World) (hv : vldB off ev = true) (n b : Nat) (hn : fin = n) (h3 : n ≤ 20000000) (hfb : 0 < b) (hbn : b ≤ n) (hs : -30000000 ≤ s ∧ s ≤ 50000000) (H1 : Hid (shw off ev 0 = s)) (H2 : Hid (shw off ev ((b : Int) - 1) = s)) (HT : Hid (∀ W, Calls Try.prog 13 #[.agg #[.int .i64 off, .int .i64 ev], .int .i64 s, .int .i64 fin] W fun e w' => e = .returned (.tuple #[.int .i64 0, .int .i64 b, .bool true, .int .i64 0]) ∧ Below W.heap.size W w')) (ht : b ≤ t ∧ t < n) (hx : s < shw off ev t)  (h2 : b < n) (hz : s < shw off ev b) :
    Calls Try.prog 5 #[.agg #[.int .i64 off, .int .i64 ev], .int .i64 s, .int .i64 fin, .int .i64 t] w fun e w' => e = .returned (.bool true) ∧ Below w.heap.size w w' := by
  have k := startC off ev w
  subst hn
  have H3 := Lib.hid (fun W => show_ok off ev t W hv)
  have hw1 := fun W => shows_ok off ev 0 s W hv (by omega) (by omega)
  rw [beq_iff_eq.2 H1.out] at hw1
  have W1 := Lib.hid hw1
  have hw2 := fun W => shows_ok off ev ((b : Int) - 1) s W hv (by omega) (by omega)
  rw [beq_iff_eq.2 H2.out] at hw2
  have W2 := Lib.hid hw2
  clear hw1 hw2
  have hS := fun W => show_ok off ev t W hv (by omega) (by omega)
  have z1 : (shw off ev t == s) = false := beq_eq_false_iff_ne.2 (by omega)
  clear hx H3
  generalize shw off ev t = x at *
  have HS := Lib.hid hS
  clear hS
  have hB := fun W => show_ok off ev b W hv (by omega) (by omega)
  clear H1 H2
  generalize shw off ev (b : Int) = z at *
  have HB := Lib.hid hB
  clear hB
  clear hv
  go_enter Try.func5, Try.ntmps5
  go_wp2_with (first | (go_at_call 9; refine (head_any _).mono ?_; rintro e w1 ⟨rfl, hb⟩; obtain ⟨k, p, q⟩ := nextC k.out hb; clear hb) | (go_at_call 13; (first | ((with_reducible refine (HT.out _).mono ?_); rintro e w3 ⟨rfl, hb⟩)); obtain ⟨k, p, q⟩ := nextC k.out hb; clear hb) | (go_at_call 19; (first | ((with_reducible refine (W1.out _).mono ?_); rintro e w3 ⟨rfl, hb⟩) | ((with_reducible refine (W2.out _).mono ?_); rintro e w3 ⟨rfl, hb⟩)); obtain ⟨k, p, q⟩ := nextC k.out hb; clear hb) | (go_at_call 11; (first | ((with_reducible refine (HS.out _).mono ?_); rintro e w3 ⟨rfl, hb⟩) | ((with_reducible refine (HB.out _).mono ?_); rintro e w3 ⟨rfl, hb⟩)); obtain ⟨k, p, q⟩ := nextC k.out hb; clear hb))
  all_goals go_ret
  all_goals (first | exact ⟨rfl, k.out.1⟩ | exact ⟨ret_bool (by simp; omega), k.out.1⟩)

set_option maxHeartbeats 1000000 in
set_option maxRecDepth 100000 in
theorem walk_aft_pz (off ev s fin t : Int) (w : World) (hv : vldB off ev = true) (n f b : Nat) (hn : fin = n) (h3 : n ≤ 20000000) (hfb : f < b) (hbn : b ≤ n) (hs : -30000000 ≤ s ∧ s ≤ 50000000) (H1 : Hid (shw off ev f = s)) (H2 : Hid (shw off ev ((b : Int) - 1) = s)) (HT : Hid (∀ W, Calls Try.prog 13 #[.agg #[.int .i64 off, .int .i64 ev], .int .i64 s, .int .i64 fin] W fun e w' => e = .returned (.tuple #[.int .i64 f, .int .i64 b, .bool true, .int .i64 0]) ∧ Below W.heap.size W w')) (ht : b ≤ t ∧ t < n) (hx : s < shw off ev t) (h1 : 0 < f) (hy : shw off ev ((f : Int) - 1) < s) (h2 : b = n) :
    Calls Try.prog 5 #[.agg #[.int .i64 off, .int .i64 ev], .int .i64 s, .int .i64 fin, .int .i64 t] w fun e w' => e = .returned (.bool true) ∧ Below w.heap.size w w' := by
  have k := startC off ev w
  subst hn
  have H3 := Lib.hid (fun W => show_ok off ev t W hv)
  have hw1 := fun W => shows_ok off ev f s W hv (by omega) (by omega)
  rw [beq_iff_eq.2 H1.out] at hw1
  have W1 := Lib.hid hw1
  have hw2 := fun W => shows_ok off ev ((b : Int) - 1) s W hv (by omega) (by omega)
  rw [beq_iff_eq.2 H2.out] at hw2
  have W2 := Lib.hid hw2
  clear hw1 hw2
  have hS := fun W => show_ok off ev t W hv (by omega) (by omega)
  have z1 : (shw off ev t == s) = false := beq_eq_false_iff_ne.2 (by omega)
  clear hx H3
  generalize shw off ev t = x at *
  have HS := Lib.hid hS
  clear hS
  have hF := fun W => show_ok off ev ((f : Int) - 1) W hv (by omega) (by omega)
  generalize shw off ev ((f : Int) - 1) = y at *
  have HF := Lib.hid hF
  clear hF
  subst h2
  clear hv
  go_enter Try.func5, Try.ntmps5
  go_wp2_with (first | (go_at_call 9; refine (head_any _).mono ?_; rintro e w1 ⟨rfl, hb⟩; obtain ⟨k, p, q⟩ := nextC k.out hb; clear hb) | (go_at_call 13; (first | ((with_reducible refine (HT.out _).mono ?_); rintro e w3 ⟨rfl, hb⟩)); obtain ⟨k, p, q⟩ := nextC k.out hb; clear hb) | (go_at_call 19; (first | ((with_reducible refine (W1.out _).mono ?_); rintro e w3 ⟨rfl, hb⟩) | ((with_reducible refine (W2.out _).mono ?_); rintro e w3 ⟨rfl, hb⟩)); obtain ⟨k, p, q⟩ := nextC k.out hb; clear hb) | (go_at_call 11; (first | ((with_reducible refine (HS.out _).mono ?_); rintro e w3 ⟨rfl, hb⟩) | ((with_reducible refine (HF.out _).mono ?_); rintro e w3 ⟨rfl, hb⟩)); obtain ⟨k, p, q⟩ := nextC k.out hb; clear hb))
  all_goals go_ret
  all_goals (first | exact ⟨rfl, k.out.1⟩ | exact ⟨ret_bool (by simp; omega), k.out.1⟩)

set_option maxHeartbeats 1000000 in
set_option maxRecDepth 100000 in
theorem walk_aft_pp (off ev s fin t : Int) (w : World) (hv : vldB off ev = true) (n f b : Nat) (hn : fin = n) (h3 : n ≤ 20000000) (hfb : f < b) (hbn : b ≤ n) (hs : -30000000 ≤ s ∧ s ≤ 50000000) (H1 : Hid (shw off ev f = s)) (H2 : Hid (shw off ev ((b : Int) - 1) = s)) (HT : Hid (∀ W, Calls Try.prog 13 #[.agg #[.int .i64 off, .int .i64 ev], .int .i64 s, .int .i64 fin] W fun e w' => e = .returned (.tuple #[.int .i64 f, .int .i64 b, .bool true, .int .i64 0]) ∧ Below W.heap.size W w')) (ht : b ≤ t ∧ t < n) (hx : s < shw off ev t) (h1 : 0 < f) (hy : shw off ev ((f : Int) - 1) < s) (h2 : b < n) (hz : s < shw off ev b) :
    Calls Try.prog 5 #[.agg #[.int .i64 off, .int .i64 ev], .int .i64 s, .int .i64 fin, .int .i64 t] w fun e w' => e = .returned (.bool true) ∧ Below w.heap.size w w' := by
  have k := startC off ev w
  subst hn
  have H3 := Lib.hid (fun W => show_ok off ev t W hv)
  have hw1 := fun W => shows_ok off ev f s W hv (by omega) (by omega)
  rw [beq_iff_eq.2 H1.out] at hw1
  have W1 := Lib.hid hw1
  have hw2 := fun W => shows_ok off ev ((b : Int) - 1) s W hv (by omega) (by omega)
  rw [beq_iff_eq.2 H2.out] at hw2
  have W2 := Lib.hid hw2
  clear hw1 hw2
  have hS := fun W => show_ok off ev t W hv (by omega) (by omega)
  have z1 : (shw off ev t == s) = false := beq_eq_false_iff_ne.2 (by omega)
  clear hx H3
  generalize shw off ev t = x at *
  have HS := Lib.hid hS
  clear hS
  have hF := fun W => show_ok off ev ((f : Int) - 1) W hv (by omega) (by omega)
  generalize shw off ev ((f : Int) - 1) = y at *
  have HF := Lib.hid hF
  clear hF
  have hB := fun W => show_ok off ev b W hv (by omega) (by omega)
  clear H1 H2
  generalize shw off ev (b : Int) = z at *
  have HB := Lib.hid hB
  clear hB
  clear hv
  go_enter Try.func5, Try.ntmps5
  go_wp2_with (first | (go_at_call 9; refine (head_any _).mono ?_; rintro e w1 ⟨rfl, hb⟩; obtain ⟨k, p, q⟩ := nextC k.out hb; clear hb) | (go_at_call 13; (first | ((with_reducible refine (HT.out _).mono ?_); rintro e w3 ⟨rfl, hb⟩)); obtain ⟨k, p, q⟩ := nextC k.out hb; clear hb) | (go_at_call 19; (first | ((with_reducible refine (W1.out _).mono ?_); rintro e w3 ⟨rfl, hb⟩) | ((with_reducible refine (W2.out _).mono ?_); rintro e w3 ⟨rfl, hb⟩)); obtain ⟨k, p, q⟩ := nextC k.out hb; clear hb) | (go_at_call 11; (first | ((with_reducible refine (HS.out _).mono ?_); rintro e w3 ⟨rfl, hb⟩) | ((with_reducible refine (HF.out _).mono ?_); rintro e w3 ⟨rfl, hb⟩) | ((with_reducible refine (HB.out _).mono ?_); rintro e w3 ⟨rfl, hb⟩)); obtain ⟨k, p, q⟩ := nextC k.out hb; clear hb))
  all_goals go_ret
  all_goals (first | exact ⟨rfl, k.out.1⟩ | exact ⟨ret_bool (by simp; omega), k.out.1⟩)

theorem split_at (p : Nat → Bool) : ∀ n : Nat, (∀ a b, a ≤ b → b < n → p a = true → p b = true) → ∃ f, f ≤ n ∧ (∀ t, t < f → p t = false) ∧ (∀ t, f ≤ t → t < n → p t = true)
  | 0, _ => ⟨0, Nat.le_refl _, fun t h => absurd h (Nat.not_lt_zero _), fun t _ h => absurd h (Nat.not_lt_zero _)⟩
  | n + 1, hm => by
    obtain ⟨f, hf, h1, h2⟩ := split_at p n (fun a b hab hb => hm a b hab (by omega))
    cases hp : p n
    · refine ⟨n + 1, Nat.le_refl _, fun t ht => ?_, fun t h h' => by omega⟩
      cases ht2 : p t
      · rfl
      · have := hm t n (by omega) (by omega) ht2
        rw [hp] at this
        cases this
    · refine ⟨f, by omega, h1, fun t h h' => ?_⟩
      rcases Nat.lt_or_eq_of_le (Nat.le_of_lt_succ h') with h3 | h3
      · exact h2 t h h3
      · rw [h3, hp]

theorem times_fix (n : Nat) (off ev s : Int) (hv : vldB off ev = true) (h1 : 1 ≤ n) (hn : n ≤ 20000000) :
    ∃ f b : Nat, f ≤ n ∧ b ≤ n ∧ (∀ t : Nat, t < f → shw off ev t < s) ∧ (∀ t : Nat, f ≤ t → t < n → s ≤ shw off ev t) ∧ (∀ t : Nat, t < b → shw off ev t ≤ s) ∧ (∀ t : Nat, b ≤ t → t < n → s < shw off ev t) ∧
      ∀ W, Calls Try.prog 13 #[.agg #[.int .i64 off, .int .i64 ev], .int .i64 s, .int .i64 n] W fun e w' => e = .returned (.tuple (if f = b then #[.int .i64 0, .int .i64 0, .bool false, .int .i64 0] else #[.int .i64 f, .int .i64 b, .bool true, .int .i64 0])) ∧ Below W.heap.size W w' := by
  obtain ⟨f, hf, f1, f2⟩ := split_at (fun t => decide (s ≤ shw off ev t)) n (fun a b hab hb h => by have := shw_mono off ev a b hv (by omega) (by omega); simp at h ⊢; omega)
  obtain ⟨b, hb, b1, b2⟩ := split_at (fun t => decide (s < shw off ev t)) n (fun a b hab hb h => by have := shw_mono off ev a b hv (by omega) (by omega); simp at h ⊢; omega)
  simp at f1 f2 b1 b2
  refine ⟨f, b, hf, hb, f1, f2, b1, b2, fun W => (times_ok n off ev s W hv h1 hn).mono ?_⟩
  rintro e w' ⟨⟨f', b', hf', hb', i1, i2, i3, i4, rfl⟩, hB⟩
  obtain rfl : f = f' := by
    rcases Nat.lt_trichotomy f f' with h | h | h
    · have := f2 f (Nat.le_refl _) (by omega); have := i1 f h; omega
    · exact h
    · have := f1 f' h; have := i2 f' (Nat.le_refl _) (by omega); omega
  obtain rfl : b = b' := by
    rcases Nat.lt_trichotomy b b' with h | h | h
    · have := b2 b (Nat.le_refl _) (by omega); have := i3 b h; omega
    · exact h
    · have := b1 b' h; have := i4 b' (Nat.le_refl _) (by omega); omega
  exact ⟨rfl, hB⟩

theorem walk (off ev s fin t : Int) (w : World) (_ : (Lit.int .i64 off).wf = true) (_ : (Lit.int .i64 ev).wf = true) (_ : (Lit.int .i64 s).wf = true) (_ : (Lit.int .i64 fin).wf = true) (_ : (Lit.int .i64 t).wf = true) :
    Calls Try.prog 5 #[.agg #[.int .i64 off, .int .i64 ev], .int .i64 s, .int .i64 fin, .int .i64 t] w fun e w' => e = .returned (.bool true) ∧ Below w.heap.size w w' := by
  by_cases h : vldB off ev = true ∧ 1 ≤ fin ∧ fin ≤ 20000000
  · obtain ⟨hv, h1, h3⟩ := h
    obtain ⟨n, hn⟩ := Int.eq_ofNat_of_zero_le (show 0 ≤ fin by omega)
    obtain ⟨f, b, hf, hb, i1, i2, i3, i4, hT⟩ := times_fix n off ev s hv (by omega) (by omega)
    rw [← hn] at hT
    by_cases hq : f = b
    · rw [if_pos hq] at hT
      by_cases ht : 0 ≤ t ∧ t < n
      · refine walk_none_b off ev s fin t w hv n hn (by omega) (Lib.hid hT) ht ?_
        obtain ⟨m, rfl⟩ := Int.eq_ofNat_of_zero_le ht.1
        rcases Nat.lt_or_ge m f with h4 | h4
        · exact .inl (i1 m h4)
        · exact .inr (i4 m (by omega) (by omega))
      · exact walk_none_a off ev s fin t w hv n hn (by omega) (Lib.hid hT) (by omega)
    · rw [if_neg hq] at hT
      have hlt : f < b := by
        rcases Nat.lt_trichotomy f b with h | h | h
        · exact h
        · exact absurd h hq
        · have := i1 b h; have := i4 b (Nat.le_refl _) (by omega); omega
      have e1 : shw off ev f = s := by
        have := i2 f (Nat.le_refl _) (by omega); have := i3 f hlt; omega
      have e2 : shw off ev ((b : Int) - 1) = s := by
        have a3 : (b : Int) - 1 = ((b - 1 : Nat) : Int) := by omega
        rw [a3]
        have := i2 (b - 1) (by omega) (by omega); have := i3 (b - 1) (by omega); omega
      have v1 := shw_bd off ev f hv (by omega) (by omega)
      rw [e1] at v1
      have hy : 0 < f → shw off ev ((f : Int) - 1) < s := fun h => by
        have a3 : (f : Int) - 1 = ((f - 1 : Nat) : Int) := by omega
        rw [a3]; exact i1 _ (by omega)
      have hz : b < n → s < shw off ev b := fun h => i4 b (Nat.le_refl _) h
      have tb : 0 ≤ t → t < f → shw off ev t < s := fun h0 h => by
        obtain ⟨m, rfl⟩ := Int.eq_ofNat_of_zero_le h0; exact i1 m (by omega)
      have ti : f ≤ t → t < b → shw off ev t = s := fun h0 h => by
        obtain ⟨m, rfl⟩ := Int.eq_ofNat_of_zero_le (show 0 ≤ t by omega)
        have := i2 m (by omega) (by omega); have := i3 m (by omega); omega
      have ta : b ≤ t → t < n → s < shw off ev t := fun h0 h => by
        obtain ⟨m, rfl⟩ := Int.eq_ofNat_of_zero_le (show 0 ≤ t by omega); exact i4 m (by omega) (by omega)
      by_cases hf0 : f = 0
      · subst hf0
        by_cases hbn : b = n
        · by_cases c1 : t < 0 ∨ n ≤ t
          · exact walk_out_zz off ev s fin t w hv n b hn (by omega) (by omega) (by omega) v1 (Lib.hid e1) (Lib.hid e2) (Lib.hid hT) c1 hbn
          · by_cases c2 : t < 0
            · exact walk_bef_zz off ev s fin t w hv n b hn (by omega) (by omega) (by omega) v1 (Lib.hid e1) (Lib.hid e2) (Lib.hid hT) ⟨by omega, by omega⟩ (tb (by omega) (by omega)) hbn
            · by_cases c3 : t < b
              · exact walk_in_zz off ev s fin t w hv n b hn (by omega) (by omega) (by omega) v1 (Lib.hid e1) (Lib.hid e2) (Lib.hid hT) ⟨by omega, by omega⟩ (ti (by omega) (by omega)) hbn
              · exact walk_aft_zz off ev s fin t w hv n b hn (by omega) (by omega) (by omega) v1 (Lib.hid e1) (Lib.hid e2) (Lib.hid hT) ⟨by omega, by omega⟩ (ta (by omega) (by omega)) hbn
        · by_cases c1 : t < 0 ∨ n ≤ t
          · exact walk_out_zp off ev s fin t w hv n b hn (by omega) (by omega) (by omega) v1 (Lib.hid e1) (Lib.hid e2) (Lib.hid hT) c1 (by omega) (hz (by omega))
          · by_cases c2 : t < 0
            · exact walk_bef_zp off ev s fin t w hv n b hn (by omega) (by omega) (by omega) v1 (Lib.hid e1) (Lib.hid e2) (Lib.hid hT) ⟨by omega, by omega⟩ (tb (by omega) (by omega)) (by omega) (hz (by omega))
            · by_cases c3 : t < b
              · exact walk_in_zp off ev s fin t w hv n b hn (by omega) (by omega) (by omega) v1 (Lib.hid e1) (Lib.hid e2) (Lib.hid hT) ⟨by omega, by omega⟩ (ti (by omega) (by omega)) (by omega) (hz (by omega))
              · exact walk_aft_zp off ev s fin t w hv n b hn (by omega) (by omega) (by omega) v1 (Lib.hid e1) (Lib.hid e2) (Lib.hid hT) ⟨by omega, by omega⟩ (ta (by omega) (by omega)) (by omega) (hz (by omega))
      · by_cases hbn : b = n
        · by_cases c1 : t < 0 ∨ n ≤ t
          · exact walk_out_pz off ev s fin t w hv n f b hn (by omega) (by omega) (by omega) v1 (Lib.hid e1) (Lib.hid e2) (Lib.hid hT) c1 (by omega) (hy (by omega)) hbn
          · by_cases c2 : t < f
            · exact walk_bef_pz off ev s fin t w hv n f b hn (by omega) (by omega) (by omega) v1 (Lib.hid e1) (Lib.hid e2) (Lib.hid hT) ⟨by omega, by omega⟩ (tb (by omega) (by omega)) (by omega) (hy (by omega)) hbn
            · by_cases c3 : t < b
              · exact walk_in_pz off ev s fin t w hv n f b hn (by omega) (by omega) (by omega) v1 (Lib.hid e1) (Lib.hid e2) (Lib.hid hT) ⟨by omega, by omega⟩ (ti (by omega) (by omega)) (by omega) (hy (by omega)) hbn
              · exact walk_aft_pz off ev s fin t w hv n f b hn (by omega) (by omega) (by omega) v1 (Lib.hid e1) (Lib.hid e2) (Lib.hid hT) ⟨by omega, by omega⟩ (ta (by omega) (by omega)) (by omega) (hy (by omega)) hbn
        · by_cases c1 : t < 0 ∨ n ≤ t
          · exact walk_out_pp off ev s fin t w hv n f b hn (by omega) (by omega) (by omega) v1 (Lib.hid e1) (Lib.hid e2) (Lib.hid hT) c1 (by omega) (hy (by omega)) (by omega) (hz (by omega))
          · by_cases c2 : t < f
            · exact walk_bef_pp off ev s fin t w hv n f b hn (by omega) (by omega) (by omega) v1 (Lib.hid e1) (Lib.hid e2) (Lib.hid hT) ⟨by omega, by omega⟩ (tb (by omega) (by omega)) (by omega) (hy (by omega)) (by omega) (hz (by omega))
            · by_cases c3 : t < b
              · exact walk_in_pp off ev s fin t w hv n f b hn (by omega) (by omega) (by omega) v1 (Lib.hid e1) (Lib.hid e2) (Lib.hid hT) ⟨by omega, by omega⟩ (ti (by omega) (by omega)) (by omega) (hy (by omega)) (by omega) (hz (by omega))
              · exact walk_aft_pp off ev s fin t w hv n f b hn (by omega) (by omega) (by omega) v1 (Lib.hid e1) (Lib.hid e2) (Lib.hid hT) ⟨by omega, by omega⟩ (ta (by omega) (by omega)) (by omega) (hy (by omega)) (by omega) (hz (by omega))
  · exact walk_err off ev s fin t w h

theorem own : ownKnob Try.prog.godebug = none := by kernel_rfl
theorem laidOut : laidOutB Try.prog = true := by kernel_rfl

set_option maxRecDepth 100000 in
theorem lifted (os : Os) (started : os.Started) (H : Type) (enc : TypeId × Value → H) :
    ReturnsInHanded {} Try.checked os 5 .any (Rows.clockTimesSpec.pre6 enc Try.prog Try.f5 Rows.clockTimesRow.domain false) (Rows.clockTimesSpec.post enc Try.prog Try.f5 false true false false) := by
  refine returnsInHanded_of_change (C := Try.checked) own started (by kernel_rfl) Try.func5
    (ChangeSpec.witness6 (enc := enc) (C := Try.checked) false ⟨#[], #[.agg #[.int .i64 0, .int .i64 0], .int .i64 0, .int .i64 0, .int .i64 0], []⟩ 8 (by kernel_rfl) (by kernel_rfl) (by kernel_rfl) (by kernel_rfl)) ?_
  intro W base args ds gs before hval0 hW hcnd _
  have hval : ∀ (j : Nat) t v, Try.f5.params[j]? = some t → args[j]? = some v → Value.okWide Try.prog W .any base t v := hval0
  have hW' := hW
  obtain ⟨p, q, hA0, hV, rfl, hfz, hnd⟩ := hW
  have hA : DataW.TrodAll enc Try.prog W 0 (fun _ => true) true Try.f5.params.toList args.toList ds p := hA0
  rw [Try.params5] at hA hval
  obtain ⟨v0, vs0, d0, ds0, p0, q0, hargs, rfl, rfl, h0, r0⟩ := trodAll_cons hA
  obtain ⟨v1, vs1, d1, ds1, p1, q1, rfl, rfl, rfl, h1, r1⟩ := trodAll_cons r0
  obtain ⟨v2, vs2, d2, ds2, p2, q2, rfl, rfl, rfl, h2, r2⟩ := trodAll_cons r1
  obtain ⟨v3, vs3, d3, ds3, p3, q3, rfl, rfl, rfl, h3, r3⟩ := trodAll_cons r2
  obtain ⟨rfl, rfl, rfl⟩ := trodAll_nil r3
  obtain rfl : args = #[v0, v1, v2, v3] := by cases args; simp_all
  obtain ⟨rfl, rfl⟩ := trodVars_none hV
  have k0 := h0
  have lt0 : ∀ x ∈ p0, x.block < W.heap.size := by obtain ⟨m, hm⟩ := k0; exact DataW.trod_lt m _ _ _ hm
  have k1 := h1
  have lt1 : ∀ x ∈ p1, x.block < W.heap.size := by obtain ⟨m, hm⟩ := k1; exact DataW.trod_lt m _ _ _ hm
  have k2 := h2
  have lt2 : ∀ x ∈ p2, x.block < W.heap.size := by obtain ⟨m, hm⟩ := k2; exact DataW.trod_lt m _ _ _ hm
  have k3 := h3
  have lt3 : ∀ x ∈ p3, x.block < W.heap.size := by obtain ⟨m, hm⟩ := k3; exact DataW.trod_lt m _ _ _ hm
  obtain ⟨c00, c10, y00, y10, m0, rfl, rfl, rfl, hy00, hy10⟩ := open_agg2 Try.underlying23 (by kernel_rfl) (by kernel_rfl) (hval 0 23 v0 rfl rfl) h0
  obtain ⟨a0, e00, rfl, wa0⟩ := DataW.trod_int Try.underlying3 hy00
  obtain ⟨b0, e10, rfl, wb0⟩ := DataW.trod_int Try.underlying3 hy10
  simp at e00 e10
  subst e00 e10
  obtain ⟨a1, rfl, rfl, rfl, w1⟩ := open_int Try.underlying3 (hval 1 3 v1 rfl rfl) h1
  obtain ⟨a2, rfl, rfl, rfl, w2⟩ := open_int Try.underlying3 (hval 2 3 v2 rfl rfl) h2
  obtain ⟨a3, rfl, rfl, rfl, w3⟩ := open_int Try.underlying3 (hval 3 3 v3 rfl rfl) h3
  clear hA0 hval0
  refine (walk a0 b0 a1 a2 a3 W wa0 wb0 w1 w2 w3).mono fun e W' ⟨he, bel⟩ => ?_
  subst he
  exact ⟨_, rfl, _, _, _, [], _, [], hW', trodAll_mk1 (shut_bool Try.underlying4 _), (trodAll_cons_mk (Below.trod laidOut (by kernel_rfl) (of_decide_eq_true (by kernel_rfl)) k0 bel lt0) (trodAll_cons_mk (Below.trod laidOut (by kernel_rfl) (of_decide_eq_true (by kernel_rfl)) k1 bel lt1) (trodAll_cons_mk (Below.trod laidOut (by kernel_rfl) (of_decide_eq_true (by kernel_rfl)) k2 bel lt2) (trodAll_cons_mk (Below.trod laidOut (by kernel_rfl) (of_decide_eq_true (by kernel_rfl)) k3 bel lt3) trodAll_mk0)))), rfl, bel.frame _, fun h => by cases h⟩

theorem over : Rows.ClockTimesSaid :=
  OpenClaim.holds_of_wide 5 Try.f5 rfl rfl rfl rfl rfl rfl rfl ⟨rfl, rfl, rfl, rfl, rfl⟩ rfl rfl rfl rfl rfl (by kernel_rfl) Try.func5 (by kernel_rfl)
    (of_decide_eq_true (by kernel_rfl)) (by unfold Func.isWrapper; rw [if_neg (of_decide_eq_false (by kernel_rfl))]; exact ⟨rfl, rfl⟩)
    (fun os started H enc _ => lifted os started H enc)

end Times
theorem clockTimes_holds : Rows.ClockTimesSaid := Times.over
end Go.Proofs.Ytllobkppehlgbab
