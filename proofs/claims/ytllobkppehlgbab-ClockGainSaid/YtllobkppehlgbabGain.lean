/- ClockGain of layer 24 is true for every clock and every time, and leaves its arguments as they were; no condition. -/
import Derived.Test.YtllobkppehlgbabC4
import Derived.ProofKit
import Derived.OpenShut
import Derived.ShutString
import Derived.ChangeOld
import Derived.Lib.SmallJoins
namespace Go.Proofs.Ytllobkppehlgbab
open Go.ChangeShapes Go.WideShapes Go.ChangeAt Go.RowKit Go.Joins
open Go.ChangeMaps (open_string shut_string)

set_option maxHeartbeats 400000 in
theorem abs_gen (n : Int) (w : World) :
    Calls Try.prog 21 #[.int .i64 n] w fun e w' => (∃ m : Int, e = .returned (.int .i64 m) ∧ (-10000000 ≤ n → n ≤ 10000000 → m = if n < 0 then -n else n)) ∧ w = w' := by
  by_cases h : -10000000 ≤ n ∧ n ≤ 10000000
  · exact (abs_any n w (by omega) (by omega)).mono fun e w' ⟨he, hw⟩ => ⟨⟨_, he, fun _ _ => rfl⟩, hw⟩
  · have H := Lib.hid h
    clear h
    by_cases h2 : n < 0
    · go_enter Try.func21, Try.ntmps21
      go_wp2
      go_ret
      exact ⟨⟨_, rfl, fun p q => absurd (And.intro p q) H.out⟩, rfl⟩
    · go_enter Try.func21, Try.ntmps21
      go_wp2
      go_ret
      exact ⟨⟨_, rfl, fun p q => absurd (And.intro p q) H.out⟩, rfl⟩

/-- What the walks carry from call to call: the clock stands where it was laid. -/
def KeptC (off ev : Int) (w W : World) : Prop := Below w.heap.size w W ∧ w.heap.size < W.heap.size ∧ W.cell? ⟨w.heap.size, 0, none⟩ = some (.int .i64 off) ∧ W.cell? ⟨w.heap.size, 1, none⟩ = some (.int .i64 ev)
theorem nextC {off ev : Int} {w W W' : World} (k : KeptC off ev w W) (h : Below W.heap.size W W') : Hid (KeptC off ev w W') ∧ W'.cell? ⟨w.heap.size, 0, none⟩ = some (.int .i64 off) ∧ W'.cell? ⟨w.heap.size, 1, none⟩ = some (.int .i64 ev) := by
  obtain ⟨b, z, c, d⟩ := k
  have c' := (h.cell (p := ⟨w.heap.size, 0, none⟩) z).trans c
  have d' := (h.cell (p := ⟨w.heap.size, 1, none⟩) z).trans d
  exact ⟨Lib.hid ⟨b.trans (h.mono (by omega)), by have := h.size; omega, c', d'⟩, c', d'⟩
theorem startC (off ev : Int) (w : World) : Hid (KeptC off ev w (w.alloc (.cells #[.int .i64 off, .int .i64 ev] 23))) :=
  Lib.hid ⟨(Below.refl _ _).alloc (Nat.le_refl _) _, by simp, (cell_new2 w _ _ 23).1, (cell_new2 w _ _ 23).2⟩

namespace Gain
theorem shw_gain (off ev t k : Int) (hv : vldB off ev = true) (h0 : 0 ≤ t) (hk : k = if ev < 0 then -ev else ev) :
    shw off ev (t + k) = if ev = 0 then t + off else if 0 < ev then shw off ev t + k + 1 else shw off ev t + k - 1 := by
  have hev : ev = 0 ∨ 2 ≤ ev ∨ ev ≤ -2 := by simp [vldB] at hv; omega
  unfold shw
  rcases hev with rfl | h2 | h2
  · simp at hk; subst hk; simp
  · rw [if_neg (by omega)] at hk
    subst hk
    rw [if_neg (by omega), if_neg (by omega), if_pos (by omega), if_neg (by omega), Int.tdiv_eq_ediv_of_nonneg h0, Int.tdiv_eq_ediv_of_nonneg (by omega)]
    have := Int.add_mul_ediv_right t 1 (show k ≠ 0 by omega)
    rw [Int.one_mul] at this
    omega
  · rw [if_pos (by omega)] at hk
    obtain rfl : ev = -k := by omega
    rw [if_neg (by omega), if_neg (by omega), if_neg (by omega), if_neg (by omega), Int.tdiv_neg, Int.tdiv_neg, Int.tdiv_eq_ediv_of_nonneg h0, Int.tdiv_eq_ediv_of_nonneg (by omega)]
    have := Int.add_mul_ediv_right t 1 (show k ≠ 0 by omega)
    rw [Int.one_mul] at this
    omega

set_option maxHeartbeats 1000000 in
theorem walk (off ev t : Int) (w : World) (_wo : (Lit.int .i64 off).wf = true) (_we : (Lit.int .i64 ev).wf = true) (_wt : (Lit.int .i64 t).wf = true) :
    Calls Try.prog 7 #[.agg #[.int .i64 off, .int .i64 ev], .int .i64 t] w fun e w' => e = .returned (.bool true) ∧ Below w.heap.size w w' := by
  have k := startC off ev w
  cases hv : vldB off ev
  · have hc := rvalid_any off ev
    rw [hv] at hc
    have HC := Lib.hid hc
    clear hc hv
    go_enter Try.func7, Try.ntmps7
    go_wp2_with (first | (go_at_call 9; refine (head_any _).mono ?_; rintro e w1 ⟨rfl, hb⟩; obtain ⟨k, p, q⟩ := nextC k.out hb; clear hb) | (go_at_call 21; refine (abs_gen _ _).mono ?_; rintro e w2 ⟨⟨m, rfl, hm⟩, rfl⟩; have HM := Lib.hid hm; clear hm) | (go_at_call 18; refine (HC.out _).mono ?_; rintro e w3 ⟨rfl, hb⟩; obtain ⟨k, p, q⟩ := nextC k.out hb; clear hb))
    go_ret
    exact ⟨rfl, k.out.1⟩
  · have hc := rvalid_any off ev
    rw [hv] at hc
    have HC := Lib.hid hc
    clear hc
    have hr : -10000000 ≤ ev ∧ ev ≤ 10000000 := by simp [vldB] at hv; omega
    have hev : ev = 0 ∨ 2 ≤ ev ∨ ev ≤ -2 := by simp [vldB] at hv; omega
    obtain ⟨n, hn⟩ : ∃ n, n = if ev < 0 then -ev else ev := ⟨_, rfl⟩
    have hn1 : 0 ≤ n ∧ n ≤ 10000000 := by rw [hn]; split <;> omega
    have ha := fun W => (abs_any ev W (by omega) (by omega))
    rw [← hn] at ha
    have HA := Lib.hid ha
    clear ha
    have HN := Lib.hid hn
    clear hn
    by_cases h1 : 0 ≤ t
    · by_cases h2 : t ≤ 20000000 - n
      · have hs1 := fun W => show_ok off ev t W hv h1 (by omega)
        have hs2 := fun W => show_ok off ev (t + n) W hv (by omega) (by omega)
        have hg := shw_gain off ev t n hv h1 HN.out
        have hq : -30000000 ≤ shw off ev t ∧ shw off ev t ≤ 50000000 := by
          have := Int.natAbs_tdiv_le_natAbs t ev
          have := vld_off hv
          unfold shw; split <;> omega
        have h0 : ev = 0 → shw off ev t = t + off := fun e => by unfold shw; rw [if_pos e]
        generalize shw off ev t = x at *
        generalize shw off ev (t + n) = y at *
        have hov := vld_off hv
        have HS1 := Lib.hid hs1
        have HS2 := Lib.hid hs2
        clear hs1 hs2 hv
        rcases hev with h | h | h
        · have hx := h0 h
          have z1 : (x == t + off) = true := beq_iff_eq.2 hx
          have z0 : (ev == 0) = true := beq_iff_eq.2 h
          clear h0 hg hx h
          go_enter Try.func7, Try.ntmps7
          go_wp2_with (first | (go_at_call 9; refine (head_any _).mono ?_; rintro e w1 ⟨rfl, hb⟩; obtain ⟨k, p, q⟩ := nextC k.out hb; clear hb) | (go_at_call 21; refine (HA.out _).mono ?_; rintro e w2 ⟨rfl, rfl⟩) | (go_at_call 18; refine (HC.out _).mono ?_; rintro e w3 ⟨rfl, hb⟩; obtain ⟨k, p, q⟩ := nextC k.out hb; clear hb) | (go_at_call 11; (first | ((with_reducible refine (HS1.out _).mono ?_); rintro e w3 ⟨rfl, hb⟩) | ((with_reducible refine (HS2.out _).mono ?_); rintro e w3 ⟨rfl, hb⟩)); obtain ⟨k, p, q⟩ := nextC k.out hb; clear hb))
          go_ret
          exact ⟨rfl, k.out.1⟩
        · rw [if_neg (by omega), if_pos (by omega)] at hg
          have z1 : (y == x + n + 1) = true := beq_iff_eq.2 hg
          have z0 : (ev == 0) = false := beq_eq_false_iff_ne.2 (by omega)
          clear h0 hg
          go_enter Try.func7, Try.ntmps7
          go_wp2_with (first | (go_at_call 9; refine (head_any _).mono ?_; rintro e w1 ⟨rfl, hb⟩; obtain ⟨k, p, q⟩ := nextC k.out hb; clear hb) | (go_at_call 21; refine (HA.out _).mono ?_; rintro e w2 ⟨rfl, rfl⟩) | (go_at_call 18; refine (HC.out _).mono ?_; rintro e w3 ⟨rfl, hb⟩; obtain ⟨k, p, q⟩ := nextC k.out hb; clear hb) | (go_at_call 11; (first | ((with_reducible refine (HS1.out _).mono ?_); rintro e w3 ⟨rfl, hb⟩) | ((with_reducible refine (HS2.out _).mono ?_); rintro e w3 ⟨rfl, hb⟩)); obtain ⟨k, p, q⟩ := nextC k.out hb; clear hb))
          go_ret
          exact ⟨rfl, k.out.1⟩
        · rw [if_neg (by omega), if_neg (by omega)] at hg
          have z1 : (y == x + n - 1) = true := beq_iff_eq.2 hg
          have z0 : (ev == 0) = false := beq_eq_false_iff_ne.2 (by omega)
          clear h0 hg
          go_enter Try.func7, Try.ntmps7
          go_wp2_with (first | (go_at_call 9; refine (head_any _).mono ?_; rintro e w1 ⟨rfl, hb⟩; obtain ⟨k, p, q⟩ := nextC k.out hb; clear hb) | (go_at_call 21; refine (HA.out _).mono ?_; rintro e w2 ⟨rfl, rfl⟩) | (go_at_call 18; refine (HC.out _).mono ?_; rintro e w3 ⟨rfl, hb⟩; obtain ⟨k, p, q⟩ := nextC k.out hb; clear hb) | (go_at_call 11; (first | ((with_reducible refine (HS1.out _).mono ?_); rintro e w3 ⟨rfl, hb⟩) | ((with_reducible refine (HS2.out _).mono ?_); rintro e w3 ⟨rfl, hb⟩)); obtain ⟨k, p, q⟩ := nextC k.out hb; clear hb))
          go_ret
          exact ⟨rfl, k.out.1⟩
      · go_enter Try.func7, Try.ntmps7
        go_wp2_with (first | (go_at_call 9; refine (head_any _).mono ?_; rintro e w1 ⟨rfl, hb⟩; obtain ⟨k, p, q⟩ := nextC k.out hb; clear hb) | (go_at_call 21; refine (HA.out _).mono ?_; rintro e w2 ⟨rfl, rfl⟩) | (go_at_call 18; refine (HC.out _).mono ?_; rintro e w3 ⟨rfl, hb⟩; obtain ⟨k, p, q⟩ := nextC k.out hb; clear hb))
        go_ret
        exact ⟨rfl, k.out.1⟩
    · go_enter Try.func7, Try.ntmps7
      go_wp2_with (first | (go_at_call 9; refine (head_any _).mono ?_; rintro e w1 ⟨rfl, hb⟩; obtain ⟨k, p, q⟩ := nextC k.out hb; clear hb) | (go_at_call 21; refine (HA.out _).mono ?_; rintro e w2 ⟨rfl, rfl⟩) | (go_at_call 18; refine (HC.out _).mono ?_; rintro e w3 ⟨rfl, hb⟩; obtain ⟨k, p, q⟩ := nextC k.out hb; clear hb))
      go_ret
      exact ⟨rfl, k.out.1⟩

theorem own : ownKnob Try.prog.godebug = none := by kernel_rfl
theorem laidOut : laidOutB Try.prog = true := by kernel_rfl

set_option maxRecDepth 100000 in
theorem lifted (os : Os) (started : os.Started) (H : Type) (enc : TypeId × Value → H) :
    ReturnsInHanded {} Try.checked os 7 .any (Rows.clockGainSpec.pre6 enc Try.prog Try.f7 Rows.clockGainRow.domain false) (Rows.clockGainSpec.post enc Try.prog Try.f7 false true false false) := by
  refine returnsInHanded_of_change (C := Try.checked) own started (by kernel_rfl) Try.func7
    (ChangeSpec.witness6 (enc := enc) (C := Try.checked) false ⟨#[], #[.agg #[.int .i64 0, .int .i64 0], .int .i64 0], []⟩ 8 (by kernel_rfl) (by kernel_rfl) (by kernel_rfl) (by kernel_rfl)) ?_
  intro W base args ds gs before hval0 hW hcnd _
  have hval : ∀ (j : Nat) t v, Try.f7.params[j]? = some t → args[j]? = some v → Value.okWide Try.prog W .any base t v := hval0
  have hW' := hW
  obtain ⟨p, q, hA0, hV, rfl, hfz, hnd⟩ := hW
  have hA : DataW.TrodAll enc Try.prog W 0 (fun _ => true) true Try.f7.params.toList args.toList ds p := hA0
  rw [Try.params7] at hA hval
  obtain ⟨v0, vs0, d0, ds0, p0, q0, hargs, rfl, rfl, h0, r0⟩ := trodAll_cons hA
  obtain ⟨v1, vs1, d1, ds1, p1, q1, rfl, rfl, rfl, h1, r1⟩ := trodAll_cons r0
  obtain ⟨rfl, rfl, rfl⟩ := trodAll_nil r1
  obtain rfl : args = #[v0, v1] := by cases args; simp_all
  obtain ⟨rfl, rfl⟩ := trodVars_none hV
  have k0 := h0
  have lt0 : ∀ x ∈ p0, x.block < W.heap.size := by obtain ⟨m, hm⟩ := k0; exact DataW.trod_lt m _ _ _ hm
  have k1 := h1
  have lt1 : ∀ x ∈ p1, x.block < W.heap.size := by obtain ⟨m, hm⟩ := k1; exact DataW.trod_lt m _ _ _ hm
  obtain ⟨c00, c10, y00, y10, m0, rfl, rfl, rfl, hy00, hy10⟩ := open_agg2 Try.underlying23 (by kernel_rfl) (by kernel_rfl) (hval 0 23 v0 rfl rfl) h0
  obtain ⟨a0, e00, rfl, wa0⟩ := DataW.trod_int Try.underlying3 hy00
  obtain ⟨b0, e10, rfl, wb0⟩ := DataW.trod_int Try.underlying3 hy10
  simp at e00 e10
  subst e00 e10
  obtain ⟨a1, rfl, rfl, rfl, w1⟩ := open_int Try.underlying3 (hval 1 3 v1 rfl rfl) h1
  clear hA0 hval0
  refine (walk a0 b0 a1 W wa0 wb0 w1).mono fun e W' ⟨he, bel⟩ => ?_
  subst he
  exact ⟨_, rfl, _, _, _, [], _, [], hW', trodAll_mk1 (shut_bool Try.underlying4 _), (trodAll_cons_mk (Below.trod laidOut (by kernel_rfl) (of_decide_eq_true (by kernel_rfl)) k0 bel lt0) (trodAll_cons_mk (Below.trod laidOut (by kernel_rfl) (of_decide_eq_true (by kernel_rfl)) k1 bel lt1) trodAll_mk0)), rfl, bel.frame _, fun h => by cases h⟩

theorem over : Rows.ClockGainSaid :=
  OpenClaim.holds_of_wide 7 Try.f7 rfl rfl rfl rfl rfl rfl rfl ⟨rfl, rfl, rfl, rfl, rfl⟩ rfl rfl rfl rfl rfl (by kernel_rfl) Try.func7 (by kernel_rfl)
    (of_decide_eq_true (by kernel_rfl)) (by unfold Func.isWrapper; rw [if_neg (of_decide_eq_false (by kernel_rfl))]; exact ⟨rfl, rfl⟩)
    (fun os started H enc _ => lifted os started H enc)

end Gain
theorem clockGain_holds : Rows.ClockGainSaid := Gain.over
end Go.Proofs.Ytllobkppehlgbab
