/- ClockRight of layer 24 is true for every clock and all numbers, and leaves its arguments as they were; no condition. -/
import Derived.Test.YtllobkppehlgbabC5
namespace Go.Proofs.Ytllobkppehlgbab
open Go.ChangeShapes Go.WideShapes Go.ChangeAt Go.RowKit Go.Joins
open Go.ChangeMaps (open_string shut_string)
namespace Right

theorem abs_le (n d : Int) (w : World) (h0 : -d ≤ n) (h1 : n ≤ d) (h2 : d ≤ 1000) :
    Calls Try.prog 21 #[.int .i64 n] w fun e w' => (∃ m : Int, e = .returned (.int .i64 m) ∧ m ≤ d) ∧ w = w' :=
  (abs_any n w (by omega) (by omega)).mono fun e w' ⟨he, hw⟩ => ⟨⟨_, he, by split <;> omega⟩, hw⟩

/-- Times returns four plain values, whatever its arguments are. -/
theorem times_gen (off ev shown fin : Int) (w : World) :
    Calls Try.prog 13 #[.agg #[.int .i64 off, .int .i64 ev], .int .i64 shown, .int .i64 fin] w fun e w' => (∃ (a b : Int) (c : Bool) (d : Int), e = .returned (.tuple #[.int .i64 a, .int .i64 b, .bool c, .int .i64 d])) ∧ Below w.heap.size w w' := by
  by_cases h : vldB off ev = true ∧ 1 ≤ fin ∧ fin ≤ 20000000
  · obtain ⟨n, rfl⟩ := Int.eq_ofNat_of_zero_le (show 0 ≤ fin by omega)
    refine (times_ok n off ev shown w h.1 (by omega) (by omega)).mono ?_
    rintro e w' ⟨⟨f, b, _, _, _, _, _, _, rfl⟩, hb⟩
    refine ⟨?_, hb⟩
    split
    · exact ⟨_, _, _, _, rfl⟩
    · exact ⟨_, _, _, _, rfl⟩
  · exact (times_err off ev shown fin w h).mono fun e w' ⟨he, hw⟩ => ⟨⟨_, _, _, _, he⟩, hw⟩

set_option maxHeartbeats 1000000 in
theorem walk_err (off ev d s fin : Int) (w : World) (h : ¬ (vldB off ev = true ∧ 0 ≤ d ∧ d ≤ 1000 ∧ 1 ≤ fin ∧ fin ≤ 20000000)) :
    Calls Try.prog 8 #[.agg #[.int .i64 off, .int .i64 ev], .int .i64 d, .int .i64 s, .int .i64 fin] w fun e w' => e = .returned (.bool true) ∧ Below w.heap.size w w' := by
  have k := startC off ev w
  have HW := Lib.hid (fun W => within_err off ev d fin W h)
  clear h
  go_enter Try.func8, Try.ntmps8
  go_wp2_with (first | (go_at_call 9; refine (head_any _).mono ?_; rintro e w1 ⟨rfl, hb⟩; obtain ⟨k, p, q⟩ := nextC k.out hb; clear hb) | (go_at_call 15; (first | ((with_reducible refine (HW.out _).mono ?_); rintro e w3 ⟨rfl, hb⟩)); obtain ⟨k, p, q⟩ := nextC k.out hb; clear hb) | (go_at_call 13; refine (times_gen _ _ _ _ _).mono ?_; rintro e w3 ⟨⟨x1, x2, x3, x4, rfl⟩, hb⟩; obtain ⟨k, p, q⟩ := nextC k.out hb; clear hb))
  all_goals go_ret
  all_goals (first | exact ⟨rfl, k.out.1⟩ | exact ⟨ret_bool (by simp; omega), k.out.1⟩)

set_option maxHeartbeats 1000000 in
theorem walk_out (off ev d s fin : Int) (w : World) (hv : vldB off ev = true) (h0 : 0 ≤ d) (h1 : d ≤ 1000) (h2 : 1 ≤ fin) (h3 : fin ≤ 20000000) (h4 : (inB off ev d 0 && inB off ev d (fin - 1)) = false) :
    Calls Try.prog 8 #[.agg #[.int .i64 off, .int .i64 ev], .int .i64 d, .int .i64 s, .int .i64 fin] w fun e w' => e = .returned (.bool true) ∧ Below w.heap.size w w' := by
  have k := startC off ev w
  have hW := fun W => within_ok off ev d fin W hv h0 h1 h2 h3
  rw [h4] at hW
  have HW := Lib.hid hW
  clear hW h4 hv
  go_enter Try.func8, Try.ntmps8
  go_wp2_with (first | (go_at_call 9; refine (head_any _).mono ?_; rintro e w1 ⟨rfl, hb⟩; obtain ⟨k, p, q⟩ := nextC k.out hb; clear hb) | (go_at_call 15; (first | ((with_reducible refine (HW.out _).mono ?_); rintro e w3 ⟨rfl, hb⟩)); obtain ⟨k, p, q⟩ := nextC k.out hb; clear hb) | (go_at_call 13; refine (times_gen _ _ _ _ _).mono ?_; rintro e w3 ⟨⟨x1, x2, x3, x4, rfl⟩, hb⟩; obtain ⟨k, p, q⟩ := nextC k.out hb; clear hb))
  all_goals go_ret
  all_goals (first | exact ⟨rfl, k.out.1⟩ | exact ⟨ret_bool (by simp; omega), k.out.1⟩)

set_option maxHeartbeats 1000000 in
theorem walk_in (off ev d s fin : Int) (w : World) (hv : vldB off ev = true) (h0 : 0 ≤ d) (h1 : d ≤ 1000) (n : Nat) (hn : fin = n) (h2 : 1 ≤ n) (h3 : n ≤ 20000000) (h4 : (inB off ev d 0 && inB off ev d (fin - 1)) = true) :
    Calls Try.prog 8 #[.agg #[.int .i64 off, .int .i64 ev], .int .i64 d, .int .i64 s, .int .i64 fin] w fun e w' => e = .returned (.bool true) ∧ Below w.heap.size w w' := by
  have k := startC off ev w
  subst hn
  have hW := fun W => within_ok off ev d n W hv h0 h1 (by omega) (by omega)
  rw [h4] at hW
  have HW := Lib.hid hW
  clear hW
  have HI := Lib.hid (fun (t : Nat) (ht : t < n) => in_all off ev d n t hv h4 (by omega) (by omega))
  have HT := Lib.hid (fun W => times_ok n off ev s W hv h2 h3)
  have HV := Lib.hid hv
  clear h4 hv
  go_enter Try.func8, Try.ntmps8
  go_wp2_with (first | (go_at_call 9; refine (head_any _).mono ?_; rintro e w1 ⟨rfl, hb⟩; obtain ⟨k, p, q⟩ := nextC k.out hb; clear hb) | (go_at_call 15; (first | ((with_reducible refine (HW.out _).mono ?_); rintro e w3 ⟨rfl, hb⟩)); obtain ⟨k, p, q⟩ := nextC k.out hb; clear hb))
  refine (HT.out _).mono ?_
  rintro e w3 ⟨⟨f, b, hf, hb1, i1, i2, i3, i4, he⟩, hb⟩
  obtain ⟨k, p, q⟩ := nextC k.out hb
  clear hb
  by_cases hq : f = b
  · rw [if_pos hq] at he
    subst he
    clear i1 i2 i3 i4 hq
    go_wp2
    go_ret
    exact ⟨rfl, k.out.1⟩
  · rw [if_neg hq] at he
    subst he
    have hlt : f < b := by
      rcases Nat.lt_trichotomy f b with h | h | h
      · exact h
      · exact absurd h hq
      · have := i1 b h; have := i4 b (Nat.le_refl _) (by omega); omega
    have e1 : shw off ev f = s := by
      have := i2 f (Nat.le_refl _) (by omega); have := i3 f hlt; omega
    have e2 : shw off ev ((b - 1 : Nat) : Int) = s := by
      have := i2 (b - 1) (by omega) (by omega); have := i3 (b - 1) (by omega); omega
    have a1 := HI.out f (by omega)
    have a2 := HI.out (b - 1) (by omega)
    rw [e1] at a1
    rw [e2] at a2
    have a3 : ((b - 1 : Nat) : Int) = (b : Int) - 1 := by omega
    rw [a3] at a2
    have v1 := shw_bd off ev f HV.out (by omega) (by omega)
    rw [e1] at v1
    clear i1 i2 i3 i4 hq e1 e2 a3
    have A1 := Lib.hid (fun W => abs_le ((f : Int) - s) d W (by omega) (by omega) h1)
    have A2 := Lib.hid (fun W => abs_le ((b : Int) - 1 - s) d W (by omega) (by omega) h1)
    go_wp2_with (go_at_call 21; (first | ((with_reducible refine (A1.out _).mono ?_); rintro e w4 ⟨⟨m, rfl, hm⟩, rfl⟩) | ((with_reducible refine (A2.out _).mono ?_); rintro e w4 ⟨⟨m2, rfl, hm2⟩, rfl⟩)))
    all_goals go_ret
    all_goals (first | exact ⟨rfl, k.out.1⟩ | exact ⟨ret_bool (by simp; omega), k.out.1⟩)

theorem walk (off ev d s fin : Int) (w : World) (_ : (Lit.int .i64 off).wf = true) (_ : (Lit.int .i64 ev).wf = true) (_ : (Lit.int .i64 d).wf = true) (_ : (Lit.int .i64 s).wf = true) (_ : (Lit.int .i64 fin).wf = true) :
    Calls Try.prog 8 #[.agg #[.int .i64 off, .int .i64 ev], .int .i64 d, .int .i64 s, .int .i64 fin] w fun e w' => e = .returned (.bool true) ∧ Below w.heap.size w w' := by
  by_cases h : vldB off ev = true ∧ 0 ≤ d ∧ d ≤ 1000 ∧ 1 ≤ fin ∧ fin ≤ 20000000
  · obtain ⟨hv, h0, h1, h2, h3⟩ := h
    cases h4 : (inB off ev d 0 && inB off ev d (fin - 1))
    · exact walk_out off ev d s fin w hv h0 h1 h2 h3 h4
    · exact walk_in off ev d s fin w hv h0 h1 fin.toNat (by omega) (by omega) (by omega) h4
  · exact walk_err off ev d s fin w h

theorem own : ownKnob Try.prog.godebug = none := by kernel_rfl
theorem laidOut : laidOutB Try.prog = true := by kernel_rfl

set_option maxRecDepth 100000 in
theorem lifted (os : Os) (started : os.Started) (H : Type) (enc : TypeId × Value → H) :
    ReturnsInHanded {} Try.checked os 8 .any (Rows.clockRightSpec.pre6 enc Try.prog Try.f8 Rows.clockRightRow.domain false) (Rows.clockRightSpec.post enc Try.prog Try.f8 false true false false) := by
  refine returnsInHanded_of_change (C := Try.checked) own started (by kernel_rfl) Try.func8
    (ChangeSpec.witness6 (enc := enc) (C := Try.checked) false ⟨#[], #[.agg #[.int .i64 0, .int .i64 0], .int .i64 0, .int .i64 0, .int .i64 0], []⟩ 8 (by kernel_rfl) (by kernel_rfl) (by kernel_rfl) (by kernel_rfl)) ?_
  intro W base args ds gs before hval0 hW hcnd _
  have hval : ∀ (j : Nat) t v, Try.f8.params[j]? = some t → args[j]? = some v → Value.okWide Try.prog W .any base t v := hval0
  have hW' := hW
  obtain ⟨p, q, hA0, hV, rfl, hfz, hnd⟩ := hW
  have hA : DataW.TrodAll enc Try.prog W 0 (fun _ => true) true Try.f8.params.toList args.toList ds p := hA0
  rw [Try.params8] at hA hval
  obtain ⟨v0, vs0, d0, ds0, p0, q0, hargs, rfl, rfl, h0, r0⟩ := trodAll_cons hA
  obtain ⟨v1, vs1, d1, ds1, p1, q1, rfl, rfl, rfl, h1, r1⟩ := trodAll_cons r0
  obtain ⟨v2, vs2, d2, ds2, p2, q2, rfl, rfl, rfl, h2, r2⟩ := trodAll_cons r1
  obtain ⟨v3, vs3, d3, ds3, p3, q3, rfl, rfl, rfl, h3, r3⟩ := trodAll_cons r2
  obtain ⟨rfl, rfl, rfl⟩ := trodAll_nil r3
  obtain rfl : args = #[v0, v1, v2, v3] := by cases args; simp_all
  obtain ⟨rfl, rfl⟩ := trodVars_none hV
  have k0 := h0
  have lt0 : ∀ x ∈ p0, x.block < W.heap.size := by obtain ⟨m, hm⟩ := k0; exact DataW.trod_lt m _ _ _ hm
  have k1 := h1
  have lt1 : ∀ x ∈ p1, x.block < W.heap.size := by obtain ⟨m, hm⟩ := k1; exact DataW.trod_lt m _ _ _ hm
  have k2 := h2
  have lt2 : ∀ x ∈ p2, x.block < W.heap.size := by obtain ⟨m, hm⟩ := k2; exact DataW.trod_lt m _ _ _ hm
  have k3 := h3
  have lt3 : ∀ x ∈ p3, x.block < W.heap.size := by obtain ⟨m, hm⟩ := k3; exact DataW.trod_lt m _ _ _ hm
  obtain ⟨c00, c10, y00, y10, m0, rfl, rfl, rfl, hy00, hy10⟩ := open_agg2 Try.underlying23 (by kernel_rfl) (by kernel_rfl) (hval 0 23 v0 rfl rfl) h0
  obtain ⟨a0, e00, rfl, wa0⟩ := DataW.trod_int Try.underlying3 hy00
  obtain ⟨b0, e10, rfl, wb0⟩ := DataW.trod_int Try.underlying3 hy10
  simp at e00 e10
  subst e00 e10
  obtain ⟨a1, rfl, rfl, rfl, w1⟩ := open_int Try.underlying3 (hval 1 3 v1 rfl rfl) h1
  obtain ⟨a2, rfl, rfl, rfl, w2⟩ := open_int Try.underlying3 (hval 2 3 v2 rfl rfl) h2
  obtain ⟨a3, rfl, rfl, rfl, w3⟩ := open_int Try.underlying3 (hval 3 3 v3 rfl rfl) h3
  clear hA0 hval0
  refine (walk a0 b0 a1 a2 a3 W wa0 wb0 w1 w2 w3).mono fun e W' ⟨he, bel⟩ => ?_
  subst he
  exact ⟨_, rfl, _, _, _, [], _, [], hW', trodAll_mk1 (shut_bool Try.underlying4 _), (trodAll_cons_mk (Below.trod laidOut (by kernel_rfl) (of_decide_eq_true (by kernel_rfl)) k0 bel lt0) (trodAll_cons_mk (Below.trod laidOut (by kernel_rfl) (of_decide_eq_true (by kernel_rfl)) k1 bel lt1) (trodAll_cons_mk (Below.trod laidOut (by kernel_rfl) (of_decide_eq_true (by kernel_rfl)) k2 bel lt2) (trodAll_cons_mk (Below.trod laidOut (by kernel_rfl) (of_decide_eq_true (by kernel_rfl)) k3 bel lt3) trodAll_mk0)))), rfl, bel.frame _, fun h => by cases h⟩

theorem over : Rows.ClockRightSaid :=
  OpenClaim.holds_of_wide 8 Try.f8 rfl rfl rfl rfl rfl rfl rfl ⟨rfl, rfl, rfl, rfl, rfl⟩ rfl rfl rfl rfl rfl (by kernel_rfl) Try.func8 (by kernel_rfl)
    (of_decide_eq_true (by kernel_rfl)) (by unfold Func.isWrapper; rw [if_neg (of_decide_eq_false (by kernel_rfl))]; exact ⟨rfl, rfl⟩)
    (fun os started H enc _ => lifted os started H enc)

end Right
theorem clockRight_holds : Rows.ClockRightSaid := Right.over
end Go.Proofs.Ytllobkppehlgbab
