/- ClockForward of layer 24 is true for every clock and all numbers, and leaves its arguments as they were; no condition. -/
import Derived.Test.YtllobkppehlgbabC5
namespace Go.Proofs.Ytllobkppehlgbab
open Go.ChangeShapes Go.WideShapes Go.ChangeAt Go.RowKit Go.Joins
open Go.ChangeMaps (open_string shut_string)
namespace Forward
set_option maxHeartbeats 1000000 in
theorem walk_inv (off ev t u b : Int) (w : World) (hv : vldB off ev = false) :
    Calls Try.prog 4 #[.agg #[.int .i64 off, .int .i64 ev], .int .i64 t, .int .i64 u, .int .i64 b] w fun e w' => e = .returned (.bool true) ∧ Below w.heap.size w w' := by
  have k := startC off ev w
  have hc := rvalid_any off ev
  rw [hv] at hc
  have HC := Lib.hid hc
  clear hc
  have hs := fun t W => show_err off ev t W (by rw [hv]; simp)
  have HS := Lib.hid hs
  clear hs hv
  go_enter Try.func4, Try.ntmps4
  go_wp2_with (first | (go_at_call 9; refine (head_any _).mono ?_; rintro e w1 ⟨rfl, hb⟩; obtain ⟨k, p, q⟩ := nextC k.out hb; clear hb) | (go_at_call 11; refine (HS.out _ _).mono ?_; rintro e w3 ⟨rfl, hb⟩; obtain ⟨k, p, q⟩ := nextC k.out hb; clear hb) | (go_at_call 18; (first | ((with_reducible refine (HC.out _).mono ?_); rintro e w3 ⟨rfl, hb⟩)); obtain ⟨k, p, q⟩ := nextC k.out hb; clear hb))
  all_goals go_ret
  all_goals (first | exact ⟨rfl, k.out.1⟩ | exact ⟨ret_bool (by simp; omega), k.out.1⟩)

set_option maxHeartbeats 1000000 in
theorem walk_tt (off ev t u b : Int) (w : World) (hv : vldB off ev = true) (h1 : t < 0 ∨ 20000000 < t) (h2 : u < 0 ∨ 20000000 < u) :
    Calls Try.prog 4 #[.agg #[.int .i64 off, .int .i64 ev], .int .i64 t, .int .i64 u, .int .i64 b] w fun e w' => e = .returned (.bool true) ∧ Below w.heap.size w w' := by
  have k := startC off ev w
  have hc := rvalid_any off ev
  rw [hv] at hc
  have HC := Lib.hid hc
  clear hc
  have hT := fun W => show_err off ev t W (by omega)
  have HT := Lib.hid hT
  have hU := fun W => show_err off ev u W (by omega)
  have HU := Lib.hid hU
  clear hT hU hv
  go_enter Try.func4, Try.ntmps4
  go_wp2_with (first | (go_at_call 9; refine (head_any _).mono ?_; rintro e w1 ⟨rfl, hb⟩; obtain ⟨k, p, q⟩ := nextC k.out hb; clear hb) | (go_at_call 11; (first | ((with_reducible refine (HT.out _).mono ?_); rintro e w3 ⟨rfl, hb⟩) | ((with_reducible refine (HU.out _).mono ?_); rintro e w3 ⟨rfl, hb⟩)); obtain ⟨k, p, q⟩ := nextC k.out hb; clear hb) | (go_at_call 18; (first | ((with_reducible refine (HC.out _).mono ?_); rintro e w3 ⟨rfl, hb⟩)); obtain ⟨k, p, q⟩ := nextC k.out hb; clear hb))
  all_goals go_ret
  all_goals (first | exact ⟨rfl, k.out.1⟩ | exact ⟨ret_bool (by simp; omega), k.out.1⟩)

set_option maxHeartbeats 1000000 in
theorem walk_tf (off ev t u b : Int) (w : World) (hv : vldB off ev = true) (h1 : t < 0 ∨ 20000000 < t) (h2 : 0 ≤ u ∧ u ≤ 20000000) :
    Calls Try.prog 4 #[.agg #[.int .i64 off, .int .i64 ev], .int .i64 t, .int .i64 u, .int .i64 b] w fun e w' => e = .returned (.bool true) ∧ Below w.heap.size w w' := by
  have k := startC off ev w
  have hc := rvalid_any off ev
  rw [hv] at hc
  have HC := Lib.hid hc
  clear hc
  have hT := fun W => show_err off ev t W (by omega)
  have HT := Lib.hid hT
  have hU := fun W => show_ok off ev u W hv h2.1 h2.2
  have HU := Lib.hid hU
  clear hT hU hv
  go_enter Try.func4, Try.ntmps4
  go_wp2_with (first | (go_at_call 9; refine (head_any _).mono ?_; rintro e w1 ⟨rfl, hb⟩; obtain ⟨k, p, q⟩ := nextC k.out hb; clear hb) | (go_at_call 11; (first | ((with_reducible refine (HT.out _).mono ?_); rintro e w3 ⟨rfl, hb⟩) | ((with_reducible refine (HU.out _).mono ?_); rintro e w3 ⟨rfl, hb⟩)); obtain ⟨k, p, q⟩ := nextC k.out hb; clear hb) | (go_at_call 18; (first | ((with_reducible refine (HC.out _).mono ?_); rintro e w3 ⟨rfl, hb⟩)); obtain ⟨k, p, q⟩ := nextC k.out hb; clear hb))
  all_goals go_ret
  all_goals (first | exact ⟨rfl, k.out.1⟩ | exact ⟨ret_bool (by simp; omega), k.out.1⟩)

set_option maxHeartbeats 1000000 in
theorem walk_ft (off ev t u b : Int) (w : World) (hv : vldB off ev = true) (h1 : 0 ≤ t ∧ t ≤ 20000000) (h2 : u < 0 ∨ 20000000 < u) :
    Calls Try.prog 4 #[.agg #[.int .i64 off, .int .i64 ev], .int .i64 t, .int .i64 u, .int .i64 b] w fun e w' => e = .returned (.bool true) ∧ Below w.heap.size w w' := by
  have k := startC off ev w
  have hc := rvalid_any off ev
  rw [hv] at hc
  have HC := Lib.hid hc
  clear hc
  have hT := fun W => show_ok off ev t W hv h1.1 h1.2
  have HT := Lib.hid hT
  have hU := fun W => show_err off ev u W (by omega)
  have HU := Lib.hid hU
  clear hT hU hv
  go_enter Try.func4, Try.ntmps4
  go_wp2_with (first | (go_at_call 9; refine (head_any _).mono ?_; rintro e w1 ⟨rfl, hb⟩; obtain ⟨k, p, q⟩ := nextC k.out hb; clear hb) | (go_at_call 11; (first | ((with_reducible refine (HT.out _).mono ?_); rintro e w3 ⟨rfl, hb⟩) | ((with_reducible refine (HU.out _).mono ?_); rintro e w3 ⟨rfl, hb⟩)); obtain ⟨k, p, q⟩ := nextC k.out hb; clear hb) | (go_at_call 18; (first | ((with_reducible refine (HC.out _).mono ?_); rintro e w3 ⟨rfl, hb⟩)); obtain ⟨k, p, q⟩ := nextC k.out hb; clear hb))
  all_goals go_ret
  all_goals (first | exact ⟨rfl, k.out.1⟩ | exact ⟨ret_bool (by simp; omega), k.out.1⟩)

set_option maxHeartbeats 1000000 in
theorem walk_lo_out (off ev t u b : Int) (w : World) (hv : vldB off ev = true) (h1 : 0 ≤ t ∧ t ≤ 20000000) (h2 : 0 ≤ u ∧ u ≤ 20000000) (h3 : t ≤ u) (h4 : b < t ∨ u < b) :
    Calls Try.prog 4 #[.agg #[.int .i64 off, .int .i64 ev], .int .i64 t, .int .i64 u, .int .i64 b] w fun e w' => e = .returned (.bool true) ∧ Below w.heap.size w w' := by
  have k := startC off ev w
  have hc := rvalid_any off ev
  rw [hv] at hc
  have HC := Lib.hid hc
  clear hc
  have hT := fun W => show_ok off ev t W hv h1.1 h1.2
  have hU := fun W => show_ok off ev u W hv h2.1 h2.2
  have m1 := shw_mono off ev t u hv (by omega) (by omega)
  generalize shw off ev t = x at *
  generalize shw off ev u = y at *
  have HT := Lib.hid hT
  have HU := Lib.hid hU
  clear hT hU hv
  go_enter Try.func4, Try.ntmps4
  go_wp2_with (first | (go_at_call 9; refine (head_any _).mono ?_; rintro e w1 ⟨rfl, hb⟩; obtain ⟨k, p, q⟩ := nextC k.out hb; clear hb) | (go_at_call 11; (first | ((with_reducible refine (HT.out _).mono ?_); rintro e w3 ⟨rfl, hb⟩) | ((with_reducible refine (HU.out _).mono ?_); rintro e w3 ⟨rfl, hb⟩)); obtain ⟨k, p, q⟩ := nextC k.out hb; clear hb) | (go_at_call 18; (first | ((with_reducible refine (HC.out _).mono ?_); rintro e w3 ⟨rfl, hb⟩)); obtain ⟨k, p, q⟩ := nextC k.out hb; clear hb))
  all_goals go_ret
  all_goals (first | exact ⟨rfl, k.out.1⟩ | exact ⟨ret_bool (by simp; omega), k.out.1⟩)

set_option maxHeartbeats 1000000 in
theorem walk_lo_in (off ev t u b : Int) (w : World) (hv : vldB off ev = true) (h1 : 0 ≤ t ∧ t ≤ 20000000) (h2 : 0 ≤ u ∧ u ≤ 20000000) (h3 : t ≤ u) (h4 : t ≤ b) (h5 : b ≤ u) :
    Calls Try.prog 4 #[.agg #[.int .i64 off, .int .i64 ev], .int .i64 t, .int .i64 u, .int .i64 b] w fun e w' => e = .returned (.bool true) ∧ Below w.heap.size w w' := by
  have k := startC off ev w
  have hc := rvalid_any off ev
  rw [hv] at hc
  have HC := Lib.hid hc
  clear hc
  have hT := fun W => show_ok off ev t W hv h1.1 h1.2
  have hU := fun W => show_ok off ev u W hv h2.1 h2.2
  have m1 := shw_mono off ev t u hv (by omega) (by omega)
  have hB := fun W => show_ok off ev b W hv (by omega) (by omega)
  have m2 := shw_mono off ev t b hv (by omega) h4
  have m3 := shw_mono off ev b u hv (by omega) h5
  generalize shw off ev b = z at *
  have HB := Lib.hid hB
  clear hB
  generalize shw off ev t = x at *
  generalize shw off ev u = y at *
  have HT := Lib.hid hT
  have HU := Lib.hid hU
  clear hT hU hv
  go_enter Try.func4, Try.ntmps4
  go_wp2_with (first | (go_at_call 9; refine (head_any _).mono ?_; rintro e w1 ⟨rfl, hb⟩; obtain ⟨k, p, q⟩ := nextC k.out hb; clear hb) | (go_at_call 11; (first | ((with_reducible refine (HT.out _).mono ?_); rintro e w3 ⟨rfl, hb⟩) | ((with_reducible refine (HU.out _).mono ?_); rintro e w3 ⟨rfl, hb⟩) | ((with_reducible refine (HB.out _).mono ?_); rintro e w3 ⟨rfl, hb⟩)); obtain ⟨k, p, q⟩ := nextC k.out hb; clear hb) | (go_at_call 18; (first | ((with_reducible refine (HC.out _).mono ?_); rintro e w3 ⟨rfl, hb⟩)); obtain ⟨k, p, q⟩ := nextC k.out hb; clear hb))
  all_goals go_ret
  all_goals (first | exact ⟨rfl, k.out.1⟩ | exact ⟨ret_bool (by simp; omega), k.out.1⟩)

set_option maxHeartbeats 1000000 in
theorem walk_hi_out (off ev t u b : Int) (w : World) (hv : vldB off ev = true) (h1 : 0 ≤ t ∧ t ≤ 20000000) (h2 : 0 ≤ u ∧ u ≤ 20000000) (h3 : u < t) (h4 : b < u ∨ t < b) :
    Calls Try.prog 4 #[.agg #[.int .i64 off, .int .i64 ev], .int .i64 t, .int .i64 u, .int .i64 b] w fun e w' => e = .returned (.bool true) ∧ Below w.heap.size w w' := by
  have k := startC off ev w
  have hc := rvalid_any off ev
  rw [hv] at hc
  have HC := Lib.hid hc
  clear hc
  have hT := fun W => show_ok off ev t W hv h1.1 h1.2
  have hU := fun W => show_ok off ev u W hv h2.1 h2.2
  have m1 := shw_mono off ev u t hv (by omega) (by omega)
  generalize shw off ev t = x at *
  generalize shw off ev u = y at *
  have HT := Lib.hid hT
  have HU := Lib.hid hU
  clear hT hU hv
  go_enter Try.func4, Try.ntmps4
  go_wp2_with (first | (go_at_call 9; refine (head_any _).mono ?_; rintro e w1 ⟨rfl, hb⟩; obtain ⟨k, p, q⟩ := nextC k.out hb; clear hb) | (go_at_call 11; (first | ((with_reducible refine (HT.out _).mono ?_); rintro e w3 ⟨rfl, hb⟩) | ((with_reducible refine (HU.out _).mono ?_); rintro e w3 ⟨rfl, hb⟩)); obtain ⟨k, p, q⟩ := nextC k.out hb; clear hb) | (go_at_call 18; (first | ((with_reducible refine (HC.out _).mono ?_); rintro e w3 ⟨rfl, hb⟩)); obtain ⟨k, p, q⟩ := nextC k.out hb; clear hb))
  all_goals go_ret
  all_goals (first | exact ⟨rfl, k.out.1⟩ | exact ⟨ret_bool (by simp; omega), k.out.1⟩)

set_option maxHeartbeats 1000000 in
theorem walk_hi_in (off ev t u b : Int) (w : World) (hv : vldB off ev = true) (h1 : 0 ≤ t ∧ t ≤ 20000000) (h2 : 0 ≤ u ∧ u ≤ 20000000) (h3 : u < t) (h4 : u ≤ b) (h5 : b ≤ t) :
    Calls Try.prog 4 #[.agg #[.int .i64 off, .int .i64 ev], .int .i64 t, .int .i64 u, .int .i64 b] w fun e w' => e = .returned (.bool true) ∧ Below w.heap.size w w' := by
  have k := startC off ev w
  have hc := rvalid_any off ev
  rw [hv] at hc
  have HC := Lib.hid hc
  clear hc
  have hT := fun W => show_ok off ev t W hv h1.1 h1.2
  have hU := fun W => show_ok off ev u W hv h2.1 h2.2
  have m1 := shw_mono off ev u t hv (by omega) (by omega)
  have hB := fun W => show_ok off ev b W hv (by omega) (by omega)
  have m2 := shw_mono off ev u b hv (by omega) h4
  have m3 := shw_mono off ev b t hv (by omega) h5
  generalize shw off ev b = z at *
  have HB := Lib.hid hB
  clear hB
  generalize shw off ev t = x at *
  generalize shw off ev u = y at *
  have HT := Lib.hid hT
  have HU := Lib.hid hU
  clear hT hU hv
  go_enter Try.func4, Try.ntmps4
  go_wp2_with (first | (go_at_call 9; refine (head_any _).mono ?_; rintro e w1 ⟨rfl, hb⟩; obtain ⟨k, p, q⟩ := nextC k.out hb; clear hb) | (go_at_call 11; (first | ((with_reducible refine (HT.out _).mono ?_); rintro e w3 ⟨rfl, hb⟩) | ((with_reducible refine (HU.out _).mono ?_); rintro e w3 ⟨rfl, hb⟩) | ((with_reducible refine (HB.out _).mono ?_); rintro e w3 ⟨rfl, hb⟩)); obtain ⟨k, p, q⟩ := nextC k.out hb; clear hb) | (go_at_call 18; (first | ((with_reducible refine (HC.out _).mono ?_); rintro e w3 ⟨rfl, hb⟩)); obtain ⟨k, p, q⟩ := nextC k.out hb; clear hb))
  all_goals go_ret
  all_goals (first | exact ⟨rfl, k.out.1⟩ | exact ⟨ret_bool (by simp; omega), k.out.1⟩)

theorem walk (off ev t u b : Int) (w : World) (_ : (Lit.int .i64 off).wf = true) (_ : (Lit.int .i64 ev).wf = true) (_ : (Lit.int .i64 t).wf = true) (_ : (Lit.int .i64 u).wf = true) (_ : (Lit.int .i64 b).wf = true) :
    Calls Try.prog 4 #[.agg #[.int .i64 off, .int .i64 ev], .int .i64 t, .int .i64 u, .int .i64 b] w fun e w' => e = .returned (.bool true) ∧ Below w.heap.size w w' := by
  cases hv : vldB off ev
  · exact walk_inv off ev t u b w hv
  · by_cases h1 : 0 ≤ t ∧ t ≤ 20000000
    · by_cases h2 : 0 ≤ u ∧ u ≤ 20000000
      · by_cases h3 : t ≤ u
        · by_cases h4 : t ≤ b ∧ b ≤ u
          · exact walk_lo_in off ev t u b w hv h1 h2 h3 h4.1 h4.2
          · exact walk_lo_out off ev t u b w hv h1 h2 h3 (by omega)
        · by_cases h4 : u ≤ b ∧ b ≤ t
          · exact walk_hi_in off ev t u b w hv h1 h2 (by omega) h4.1 h4.2
          · exact walk_hi_out off ev t u b w hv h1 h2 (by omega) (by omega)
      · exact walk_ft off ev t u b w hv h1 (by omega)
    · by_cases h2 : 0 ≤ u ∧ u ≤ 20000000
      · exact walk_tf off ev t u b w hv (by omega) h2
      · exact walk_tt off ev t u b w hv (by omega) (by omega)

theorem own : ownKnob Try.prog.godebug = none := by kernel_rfl
theorem laidOut : laidOutB Try.prog = true := by kernel_rfl

set_option maxRecDepth 100000 in
theorem lifted (os : Os) (started : os.Started) (H : Type) (enc : TypeId × Value → H) :
    ReturnsInHanded {} Try.checked os 4 .any (Rows.clockForwardSpec.pre6 enc Try.prog Try.f4 Rows.clockForwardRow.domain false) (Rows.clockForwardSpec.post enc Try.prog Try.f4 false true false false) := by
  refine returnsInHanded_of_change (C := Try.checked) own started (by kernel_rfl) Try.func4
    (ChangeSpec.witness6 (enc := enc) (C := Try.checked) false ⟨#[], #[.agg #[.int .i64 0, .int .i64 0], .int .i64 0, .int .i64 0, .int .i64 0], []⟩ 8 (by kernel_rfl) (by kernel_rfl) (by kernel_rfl) (by kernel_rfl)) ?_
  intro W base args ds gs before hval0 hW hcnd _
  have hval : ∀ (j : Nat) t v, Try.f4.params[j]? = some t → args[j]? = some v → Value.okWide Try.prog W .any base t v := hval0
  have hW' := hW
  obtain ⟨p, q, hA0, hV, rfl, hfz, hnd⟩ := hW
  have hA : DataW.TrodAll enc Try.prog W 0 (fun _ => true) true Try.f4.params.toList args.toList ds p := hA0
  rw [Try.params4] at hA hval
  obtain ⟨v0, vs0, d0, ds0, p0, q0, hargs, rfl, rfl, h0, r0⟩ := trodAll_cons hA
  obtain ⟨v1, vs1, d1, ds1, p1, q1, rfl, rfl, rfl, h1, r1⟩ := trodAll_cons r0
  obtain ⟨v2, vs2, d2, ds2, p2, q2, rfl, rfl, rfl, h2, r2⟩ := trodAll_cons r1
  obtain ⟨v3, vs3, d3, ds3, p3, q3, rfl, rfl, rfl, h3, r3⟩ := trodAll_cons r2
  obtain ⟨rfl, rfl, rfl⟩ := trodAll_nil r3
  obtain rfl : args = #[v0, v1, v2, v3] := by cases args; simp_all
  obtain ⟨rfl, rfl⟩ := trodVars_none hV
  have k0 := h0
  have lt0 : ∀ x ∈ p0, x.block < W.heap.size := by obtain ⟨m, hm⟩ := k0; exact DataW.trod_lt m _ _ _ hm
  have k1 := h1
  have lt1 : ∀ x ∈ p1, x.block < W.heap.size := by obtain ⟨m, hm⟩ := k1; exact DataW.trod_lt m _ _ _ hm
  have k2 := h2
  have lt2 : ∀ x ∈ p2, x.block < W.heap.size := by obtain ⟨m, hm⟩ := k2; exact DataW.trod_lt m _ _ _ hm
  have k3 := h3
  have lt3 : ∀ x ∈ p3, x.block < W.heap.size := by obtain ⟨m, hm⟩ := k3; exact DataW.trod_lt m _ _ _ hm
  obtain ⟨c00, c10, y00, y10, m0, rfl, rfl, rfl, hy00, hy10⟩ := open_agg2 Try.underlying23 (by kernel_rfl) (by kernel_rfl) (hval 0 23 v0 rfl rfl) h0
  obtain ⟨a0, e00, rfl, wa0⟩ := DataW.trod_int Try.underlying3 hy00
  obtain ⟨b0, e10, rfl, wb0⟩ := DataW.trod_int Try.underlying3 hy10
  simp at e00 e10
  subst e00 e10
  obtain ⟨a1, rfl, rfl, rfl, w1⟩ := open_int Try.underlying3 (hval 1 3 v1 rfl rfl) h1
  obtain ⟨a2, rfl, rfl, rfl, w2⟩ := open_int Try.underlying3 (hval 2 3 v2 rfl rfl) h2
  obtain ⟨a3, rfl, rfl, rfl, w3⟩ := open_int Try.underlying3 (hval 3 3 v3 rfl rfl) h3
  clear hA0 hval0
  refine (walk a0 b0 a1 a2 a3 W wa0 wb0 w1 w2 w3).mono fun e W' ⟨he, bel⟩ => ?_
  subst he
  exact ⟨_, rfl, _, _, _, [], _, [], hW', trodAll_mk1 (shut_bool Try.underlying4 _), (trodAll_cons_mk (Below.trod laidOut (by kernel_rfl) (of_decide_eq_true (by kernel_rfl)) k0 bel lt0) (trodAll_cons_mk (Below.trod laidOut (by kernel_rfl) (of_decide_eq_true (by kernel_rfl)) k1 bel lt1) (trodAll_cons_mk (Below.trod laidOut (by kernel_rfl) (of_decide_eq_true (by kernel_rfl)) k2 bel lt2) (trodAll_cons_mk (Below.trod laidOut (by kernel_rfl) (of_decide_eq_true (by kernel_rfl)) k3 bel lt3) trodAll_mk0)))), rfl, bel.frame _, fun h => by cases h⟩

theorem over : Rows.ClockForwardSaid :=
  OpenClaim.holds_of_wide 4 Try.f4 rfl rfl rfl rfl rfl rfl rfl ⟨rfl, rfl, rfl, rfl, rfl⟩ rfl rfl rfl rfl rfl (by kernel_rfl) Try.func4 (by kernel_rfl)
    (of_decide_eq_true (by kernel_rfl)) (by unfold Func.isWrapper; rw [if_neg (of_decide_eq_false (by kernel_rfl))]; exact ⟨rfl, rfl⟩)
    (fun os started H enc _ => lifted os started H enc)

end Forward
theorem clockForward_holds : Rows.ClockForwardSaid := Forward.over
end Go.Proofs.Ytllobkppehlgbab
