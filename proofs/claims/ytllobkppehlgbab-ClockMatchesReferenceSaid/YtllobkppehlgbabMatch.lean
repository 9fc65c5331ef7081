/- ClockMatchesReference of layer 24 is true for every clock and all numbers, and leaves its arguments as they were; no condition. -/
import Derived.Test.YtllobkppehlgbabRef2
import Derived.Lib.QuietBelow
namespace Go.Proofs.Ytllobkppehlgbab
open Go.ChangeShapes Go.WideShapes Go.ChangeAt Go.RowKit Go.Joins
open Go.ChangeMaps (open_string shut_string)
namespace Match
set_option linter.unusedVariables false

theorem nextCd {off ev : Int} {w W W' : World} (k : KeptC off ev w W) (h : Below W.drew.heap.size W.drew W') : Hid (KeptC off ev w W') ∧ W'.cell? ⟨w.heap.size, 0, none⟩ = some (.int .i64 off) ∧ W'.cell? ⟨w.heap.size, 1, none⟩ = some (.int .i64 ev) :=
  nextC k ((Below.refl W.heap.size W).drew.trans h)
theorem few_any (n : Int) (w : World) : Calls Try.prog 10 #[.int .i64 n] w fun e w' => e = .returned (.bool (decide (n ≤ 5000 ∨ 20000000 < n))) ∧ w = w' := by
  go_enter Try.func10, Try.ntmps10
  go_wp2
  all_goals go_ret
  all_goals refine ⟨ret_bool ?_, rfl⟩
  all_goals first | rfl | (rw [Bool.eq_iff_iff]; simp; omega) | (rw [Bool.eq_iff_iff]; simp)

theorem show_both (off ev t : Int) : ∃ a e : Int, (∀ W, Calls Try.prog 11 #[.agg #[.int .i64 off, .int .i64 ev], .int .i64 t] W fun r w' => r = .returned (.tuple #[.int .i64 a, .int .i64 e]) ∧ Below W.heap.size W w') ∧ (∀ W, Calls Try.prog 12 #[.agg #[.int .i64 off, .int .i64 ev], .int .i64 t] W fun r w' => r = .returned (.tuple #[.int .i64 a, .int .i64 e]) ∧ Below W.heap.size W w') := by
  by_cases h : vldB off ev = true ∧ 0 ≤ t ∧ t ≤ 20000000
  · exact ⟨_, _, fun W => show_ok off ev t W h.1 h.2.1 h.2.2, fun W => Ref.rshow_ok off ev t W h.1 h.2.1 h.2.2⟩
  · refine ⟨_, _, fun W => show_err off ev t W h, fun W => Ref.rshow_err off ev t W ?_⟩
    cases hv : vldB off ev
    · exact .inl rfl
    · right
      have : ¬ (0 ≤ t ∧ t ≤ 20000000) := fun q => h ⟨hv, q⟩
      omega

theorem within_both (off ev d fin : Int) : ∃ (m : Bool) (o : Int), (∀ W, Calls Try.prog 15 #[.agg #[.int .i64 off, .int .i64 ev], .int .i64 d, .int .i64 fin] W fun r w' => r = .returned (.tuple #[.bool m, .int .i64 o]) ∧ Below W.heap.size W w') ∧ (∀ W, Calls Try.prog 16 #[.agg #[.int .i64 off, .int .i64 ev], .int .i64 d, .int .i64 fin] W fun r w' => r = .returned (.tuple #[.bool m, .int .i64 o]) ∧ Below W.heap.size W w') := by
  by_cases h : vldB off ev = true ∧ 0 ≤ d ∧ d ≤ 1000 ∧ 1 ≤ fin ∧ fin ≤ 20000000
  · obtain ⟨hv, h0, h1, h2, h3⟩ := h
    obtain ⟨n, rfl⟩ := Int.eq_ofNat_of_zero_le (show 0 ≤ fin by omega)
    exact ⟨_, _, fun W => within_ok off ev d n W hv h0 h1 h2 h3, fun W => Ref.rwithin_ok off ev d n W hv h0 h1 (by omega) (by omega)⟩
  · refine ⟨_, _, fun W => within_err off ev d fin W h, fun W => Ref.rwithin_err off ev d fin W ?_⟩
    cases hv : vldB off ev
    · exact .inl rfl
    · right
      have : ¬ (0 ≤ d ∧ d ≤ 1000 ∧ 1 ≤ fin ∧ fin ≤ 20000000) := fun q => h ⟨hv, q⟩
      omega

theorem times_both (off ev s fin : Int) : ∃ (i j : Int) (x : Bool) (g : Int), (∀ W, Calls Try.prog 13 #[.agg #[.int .i64 off, .int .i64 ev], .int .i64 s, .int .i64 fin] W fun r w' => r = .returned (.tuple #[.int .i64 i, .int .i64 j, .bool x, .int .i64 g]) ∧ Below W.heap.size W w') ∧ (∀ W, Calls Try.prog 14 #[.agg #[.int .i64 off, .int .i64 ev], .int .i64 s, .int .i64 fin] W fun r w' => r = .returned (.tuple #[.int .i64 i, .int .i64 j, .bool x, .int .i64 g]) ∧ Below W.heap.size W w') := by
  by_cases h : vldB off ev = true ∧ 1 ≤ fin ∧ fin ≤ 20000000
  · obtain ⟨hv, h2, h3⟩ := h
    obtain ⟨n, rfl⟩ := Int.eq_ofNat_of_zero_le (show 0 ≤ fin by omega)
    obtain ⟨f, b, i1, i2, i3, i4, i5, i6, hT⟩ := Ref.times_fix n off ev s hv (by omega) (by omega)
    have hm : Ref.Marks off ev s n f b := ⟨i1, i2, i3, i4, i5, i6⟩
    have hR := fun W => Ref.rtimes_ok off ev s n f b W hv (by omega) (by omega) hm
    by_cases hq : f = b
    · rw [if_pos hq] at hT
      rw [Ref.timesV_none hq] at hR
      exact ⟨_, _, _, _, hT, hR⟩
    · rw [if_neg hq] at hT
      rw [Ref.timesV_some hq] at hR
      exact ⟨_, _, _, _, hT, hR⟩
  · refine ⟨_, _, _, _, fun W => times_err off ev s fin W h, fun W => Ref.rtimes_err off ev s fin W ?_⟩
    cases hv : vldB off ev
    · exact .inl rfl
    · right
      have : ¬ (1 ≤ fin ∧ fin ≤ 20000000) := fun q => h ⟨hv, q⟩
      omega

set_option maxHeartbeats 2000000 in
set_option maxRecDepth 100000 in
theorem walk (off ev t s d fin : Int) (w : World) (_ : (Lit.int .i64 off).wf = true) (_ : (Lit.int .i64 ev).wf = true) (_ : (Lit.int .i64 t).wf = true) (_ : (Lit.int .i64 s).wf = true) (_ : (Lit.int .i64 d).wf = true) (_ : (Lit.int .i64 fin).wf = true) :
    Calls Try.prog 3 #[.agg #[.int .i64 off, .int .i64 ev], .int .i64 t, .int .i64 s, .int .i64 d, .int .i64 fin] w fun e w' => e = .returned (.bool true) ∧ Below w.heap.size w w' := by
  have k := startC off ev w
  have hf := few_any fin
  obtain ⟨a, e, hs1, hs2⟩ := show_both off ev t
  obtain ⟨i, j, x, g, ht1, ht2⟩ := times_both off ev s fin
  obtain ⟨m, o, hw1, hw2⟩ := within_both off ev d fin
  have hv1 := valid_any off ev
  have hv2 := rvalid_any off ev
  generalize vldB off ev = v at *
  generalize decide (fin ≤ 5000 ∨ 20000000 < fin) = c at *
  have HF := Lib.hid hf
  have S1 := Lib.hid hs1
  have S2 := Lib.hid hs2
  have T1 := Lib.hid ht1
  have T2 := Lib.hid ht2
  have W1 := Lib.hid hw1
  have W2 := Lib.hid hw2
  have V1 := Lib.hid hv1
  have V2 := Lib.hid hv2
  clear hf hs1 hs2 ht1 ht2 hw1 hw2 hv1 hv2
  cases c
  · go_enter Try.func3, Try.ntmps3
    go_wp2_with (first | (go_at_call 9; refine (head_any _).mono ?_; rintro e w1 ⟨rfl, hb⟩; obtain ⟨k, p, q⟩ := nextC k.out hb; clear hb) | (go_at_call 10; refine (HF.out _).mono ?_; rintro e w4 ⟨rfl, rfl⟩))
    go_ret
    exact ⟨rfl, k.out.1⟩
  · go_enter Try.func3, Try.ntmps3
    go_wp2_with (first | (go_at_call 9; refine (head_any _).mono ?_; rintro e w1 ⟨rfl, hb⟩; obtain ⟨k, p, q⟩ := nextC k.out hb; clear hb) | (go_at_call 10; refine (HF.out _).mono ?_; rintro e w4 ⟨rfl, rfl⟩) | (go_at_call 11; (first | ((with_reducible refine (S1.out _).mono ?_); rintro e w3 ⟨rfl, hb⟩)); obtain ⟨k, p, q⟩ := nextC k.out hb; clear hb) | (go_at_call 12; (first | ((with_reducible refine (S2.out _).mono ?_); rintro e w3 ⟨rfl, hb⟩)); obtain ⟨k, p, q⟩ := nextC k.out hb; clear hb) | (go_at_call 13; (first | ((with_reducible refine (T1.out _).mono ?_); rintro e w3 ⟨rfl, hb⟩)); obtain ⟨k, p, q⟩ := nextC k.out hb; clear hb) | (go_at_call 14; (first | ((with_reducible refine (T2.out _).mono ?_); rintro e w3 ⟨rfl, hb⟩)); obtain ⟨k, p, q⟩ := nextC k.out hb; clear hb) | (go_at_call 15; (first | ((with_reducible refine (W1.out _).mono ?_); rintro e w3 ⟨rfl, hb⟩)); obtain ⟨k, p, q⟩ := nextC k.out hb; clear hb) | (go_at_call 16; (first | ((with_reducible refine (W2.out _).mono ?_); rintro e w3 ⟨rfl, hb⟩)); obtain ⟨k, p, q⟩ := nextC k.out hb; clear hb))
    have c0 := fun d os => cell_regrown p d os
    have c1 := fun d os => cell_regrown q d os
    have B := k.out.1
    clear p q
    refine wp_region_quiet_below (by kernel_rfl) (by kernel_rfl) ?_
    repeat (go_big_quiet_step ((first | (go_at_call 17; exact Calls.regrown_of (V1.out _)) | (go_at_call 18; exact Calls.regrown_of (V2.out _)))))
    refine wpQuiet_nil ?_
    intro _ hw'
    obtain ⟨⟨dq, osq⟩, hw''⟩ := hw'
    subst hw''
    go_wp2
    go_ret
    exact ⟨rfl, B.trans ((below_regrown _ dq osq).mono B.size)⟩

theorem own : ownKnob Try.prog.godebug = none := by kernel_rfl
theorem laidOut : laidOutB Try.prog = true := by kernel_rfl

set_option maxRecDepth 100000 in
theorem lifted (os : Os) (started : os.Started) (H : Type) (enc : TypeId × Value → H) :
    ReturnsInHanded {} Try.checked os 3 .any (Rows.clockMatchesReferenceSpec.pre6 enc Try.prog Try.f3 Rows.clockMatchesReferenceRow.domain false) (Rows.clockMatchesReferenceSpec.post enc Try.prog Try.f3 false true false false) := by
  refine returnsInHanded_of_change (C := Try.checked) own started (by kernel_rfl) Try.func3
    (ChangeSpec.witness6 (enc := enc) (C := Try.checked) false ⟨#[], #[.agg #[.int .i64 0, .int .i64 0], .int .i64 0, .int .i64 0, .int .i64 0, .int .i64 0], []⟩ 8 (by kernel_rfl) (by kernel_rfl) (by kernel_rfl) (by kernel_rfl)) ?_
  intro W base args ds gs before hval0 hW hcnd _
  have hval : ∀ (j : Nat) t v, Try.f3.params[j]? = some t → args[j]? = some v → Value.okWide Try.prog W .any base t v := hval0
  have hW' := hW
  obtain ⟨p, q, hA0, hV, rfl, hfz, hnd⟩ := hW
  have hA : DataW.TrodAll enc Try.prog W 0 (fun _ => true) true Try.f3.params.toList args.toList ds p := hA0
  rw [Try.params3] at hA hval
  obtain ⟨v0, vs0, d0, ds0, p0, q0, hargs, rfl, rfl, h0, r0⟩ := trodAll_cons hA
  obtain ⟨v1, vs1, d1, ds1, p1, q1, rfl, rfl, rfl, h1, r1⟩ := trodAll_cons r0
  obtain ⟨v2, vs2, d2, ds2, p2, q2, rfl, rfl, rfl, h2, r2⟩ := trodAll_cons r1
  obtain ⟨v3, vs3, d3, ds3, p3, q3, rfl, rfl, rfl, h3, r3⟩ := trodAll_cons r2
  obtain ⟨v4, vs4, d4, ds4, p4, q4, rfl, rfl, rfl, h4, r4⟩ := trodAll_cons r3
  obtain ⟨rfl, rfl, rfl⟩ := trodAll_nil r4
  obtain rfl : args = #[v0, v1, v2, v3, v4] := by cases args; simp_all
  obtain ⟨rfl, rfl⟩ := trodVars_none hV
  have k0 := h0
  have lt0 : ∀ x ∈ p0, x.block < W.heap.size := by obtain ⟨m, hm⟩ := k0; exact DataW.trod_lt m _ _ _ hm
  have k1 := h1
  have lt1 : ∀ x ∈ p1, x.block < W.heap.size := by obtain ⟨m, hm⟩ := k1; exact DataW.trod_lt m _ _ _ hm
  have k2 := h2
  have lt2 : ∀ x ∈ p2, x.block < W.heap.size := by obtain ⟨m, hm⟩ := k2; exact DataW.trod_lt m _ _ _ hm
  have k3 := h3
  have lt3 : ∀ x ∈ p3, x.block < W.heap.size := by obtain ⟨m, hm⟩ := k3; exact DataW.trod_lt m _ _ _ hm
  have k4 := h4
  have lt4 : ∀ x ∈ p4, x.block < W.heap.size := by obtain ⟨m, hm⟩ := k4; exact DataW.trod_lt m _ _ _ hm
  obtain ⟨c00, c10, y00, y10, m0, rfl, rfl, rfl, hy00, hy10⟩ := open_agg2 Try.underlying23 (by kernel_rfl) (by kernel_rfl) (hval 0 23 v0 rfl rfl) h0
  obtain ⟨a0, e00, rfl, wa0⟩ := DataW.trod_int Try.underlying3 hy00
  obtain ⟨b0, e10, rfl, wb0⟩ := DataW.trod_int Try.underlying3 hy10
  simp at e00 e10
  subst e00 e10
  obtain ⟨a1, rfl, rfl, rfl, w1⟩ := open_int Try.underlying3 (hval 1 3 v1 rfl rfl) h1
  obtain ⟨a2, rfl, rfl, rfl, w2⟩ := open_int Try.underlying3 (hval 2 3 v2 rfl rfl) h2
  obtain ⟨a3, rfl, rfl, rfl, w3⟩ := open_int Try.underlying3 (hval 3 3 v3 rfl rfl) h3
  obtain ⟨a4, rfl, rfl, rfl, w4⟩ := open_int Try.underlying3 (hval 4 3 v4 rfl rfl) h4
  clear hA0 hval0
  refine (walk a0 b0 a1 a2 a3 a4 W wa0 wb0 w1 w2 w3 w4).mono fun e W' ⟨he, bel⟩ => ?_
  subst he
  exact ⟨_, rfl, _, _, _, [], _, [], hW', trodAll_mk1 (shut_bool Try.underlying4 _), (trodAll_cons_mk (Below.trod laidOut (by kernel_rfl) (of_decide_eq_true (by kernel_rfl)) k0 bel lt0) (trodAll_cons_mk (Below.trod laidOut (by kernel_rfl) (of_decide_eq_true (by kernel_rfl)) k1 bel lt1) (trodAll_cons_mk (Below.trod laidOut (by kernel_rfl) (of_decide_eq_true (by kernel_rfl)) k2 bel lt2) (trodAll_cons_mk (Below.trod laidOut (by kernel_rfl) (of_decide_eq_true (by kernel_rfl)) k3 bel lt3) (trodAll_cons_mk (Below.trod laidOut (by kernel_rfl) (of_decide_eq_true (by kernel_rfl)) k4 bel lt4) trodAll_mk0))))), rfl, bel.frame _, fun h => by cases h⟩

theorem over : Rows.ClockMatchesReferenceSaid :=
  OpenClaim.holds_of_wide 3 Try.f3 rfl rfl rfl rfl rfl rfl rfl ⟨rfl, rfl, rfl, rfl, rfl⟩ rfl rfl rfl rfl rfl (by kernel_rfl) Try.func3 (by kernel_rfl)
    (of_decide_eq_true (by kernel_rfl)) (by unfold Func.isWrapper; rw [if_neg (of_decide_eq_false (by kernel_rfl))]; exact ⟨rfl, rfl⟩)
    (fun os started H enc _ => lifted os started H enc)

end Match
theorem clockMatchesReference_holds : Rows.ClockMatchesReferenceSaid := Match.over
end Go.Proofs.Ytllobkppehlgbab
