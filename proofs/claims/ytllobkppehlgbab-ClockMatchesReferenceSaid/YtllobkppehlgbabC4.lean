/- The examples that each statement of layer 24 begins with come out as true; no condition. -/
import Derived.Test.YtllobkppehlgbabC3
namespace Go.Proofs.Ytllobkppehlgbab
open Go.RowKit

theorem ex1 (w : World) : Calls Try.prog 13 #[.agg #[.int .i64 2, .int .i64 (-10)], .int .i64 11, .int .i64 100] w fun e w' => e = .returned (.tuple #[.int .i64 9, .int .i64 11, .bool true, .int .i64 0]) ∧ Below w.heap.size w w' := by
  refine (times_ok 100 2 (-10) 11 w (by decide) (by omega) (by omega)).mono ?_
  rintro e w' ⟨⟨f, b, hf, hb, h1, h2, h3, h4, rfl⟩, hB⟩
  have v8 : shw 2 (-10) (8 : Nat) = 10 := by decide
  have v9 : shw 2 (-10) (9 : Nat) = 11 := by decide
  have v10 : shw 2 (-10) (10 : Nat) = 11 := by decide
  have v11 : shw 2 (-10) (11 : Nat) = 12 := by decide
  obtain rfl : f = 9 := by
    rcases Nat.lt_trichotomy f 9 with h | h | h
    · have := h2 8 (by omega) (by omega); omega
    · exact h
    · have := h1 9 h; omega
  obtain rfl : b = 11 := by
    rcases Nat.lt_trichotomy b 11 with h | h | h
    · have := h4 10 (by omega) (by omega); omega
    · exact h
    · have := h3 11 h; omega
  exact ⟨rfl, hB⟩
theorem ex2 (w : World) : Calls Try.prog 13 #[.agg #[.int .i64 0, .int .i64 10], .int .i64 10, .int .i64 100] w fun e w' => e = .returned (.tuple #[.int .i64 0, .int .i64 0, .bool false, .int .i64 0]) ∧ Below w.heap.size w w' := by
  refine (times_ok 100 0 10 10 w (by decide) (by omega) (by omega)).mono ?_
  rintro e w' ⟨⟨f, b, hf, hb, h1, h2, h3, h4, rfl⟩, hB⟩
  have v9 : shw 0 10 (9 : Nat) = 9 := by decide
  have v10 : shw 0 10 (10 : Nat) = 11 := by decide
  obtain rfl : f = 10 := by
    rcases Nat.lt_trichotomy f 10 with h | h | h
    · have := h2 9 (by omega) (by omega); omega
    · exact h
    · have := h1 10 h; omega
  obtain rfl : b = 10 := by
    rcases Nat.lt_trichotomy b 10 with h | h | h
    · have := h4 9 (by omega) (by omega); omega
    · exact h
    · have := h3 10 h; omega
  exact ⟨rfl, hB⟩
theorem ex3 (w : World) : Calls Try.prog 15 #[.agg #[.int .i64 2, .int .i64 (-10)], .int .i64 2, .int .i64 50] w fun e w' => e = .returned (.tuple #[.bool true, .int .i64 0]) ∧ Below w.heap.size w w' := by
  refine (within_ok 2 (-10) 2 50 w (by decide) (by omega) (by omega) (by omega) (by omega)).mono ?_
  rintro e w' ⟨rfl, hB⟩
  exact ⟨by rw [show (inB 2 (-10) 2 0 && inB 2 (-10) 2 (50 - 1)) = true by decide], hB⟩
theorem ex4 (w : World) : Calls Try.prog 15 #[.agg #[.int .i64 2, .int .i64 (-10)], .int .i64 2, .int .i64 51] w fun e w' => e = .returned (.tuple #[.bool false, .int .i64 0]) ∧ Below w.heap.size w w' := by
  refine (within_ok 2 (-10) 2 51 w (by decide) (by omega) (by omega) (by omega) (by omega)).mono ?_
  rintro e w' ⟨rfl, hB⟩
  exact ⟨by rw [show (inB 2 (-10) 2 0 && inB 2 (-10) 2 (51 - 1)) = false by decide], hB⟩
theorem ex5 (w : World) : Calls Try.prog 11 #[.agg #[.int .i64 0, .int .i64 1], .int .i64 0] w fun e w' => e = .returned (.tuple #[.int .i64 0, .int .i64 1]) ∧ Below w.heap.size w w' :=
  show_err 0 1 0 w (by decide)
theorem ex6 (t want : Int) (w : World) (h0 : 0 ≤ t) (h1 : t ≤ 20000000) (h : (shw 2 (-10) t == want) = true) : Calls Try.prog 19 #[.agg #[.int .i64 2, .int .i64 (-10)], .int .i64 t, .int .i64 want] w fun e w' => e = .returned (.bool true) ∧ Below w.heap.size w w' := by
  refine (shows_ok 2 (-10) t want w (by decide) h0 h1).mono ?_
  rintro e w' ⟨rfl, hB⟩
  exact ⟨by rw [h], hB⟩

/-- What the walk of the examples carries from call to call: the first clock stands where it was laid. -/
def Kept (w W : World) : Prop := Below w.heap.size w W ∧ w.heap.size < W.heap.size ∧ W.cell? ⟨w.heap.size, 0, none⟩ = some (.int .i64 2) ∧ W.cell? ⟨w.heap.size, 1, none⟩ = some (.int .i64 (-10))
theorem next {w W W' : World} (k : Kept w W) (h : Below W.heap.size W W') : Hid (Kept w W') ∧ W'.cell? ⟨w.heap.size, 0, none⟩ = some (.int .i64 2) ∧ W'.cell? ⟨w.heap.size, 1, none⟩ = some (.int .i64 (-10)) := by
  obtain ⟨b, z, c, d⟩ := k
  have c' := (h.cell (p := ⟨w.heap.size, 0, none⟩) z).trans c
  have d' := (h.cell (p := ⟨w.heap.size, 1, none⟩) z).trans d
  exact ⟨Lib.hid ⟨b.trans (h.mono (by omega)), by have := h.size; omega, c', d'⟩, c', d'⟩

set_option maxHeartbeats 1000000 in
theorem head_any (w : World) : Calls Try.prog 9 #[] w fun e w' => e = .returned (.bool true) ∧ Below w.heap.size w w' := by
  have n2 := cell_new2 w (.int .i64 2) (.int .i64 (-10)) 23
  have k0 := Lib.hid (show Kept w (w.alloc (.cells #[.int .i64 2, .int .i64 (-10)] 23)) from ⟨(Below.refl _ _).alloc (Nat.le_refl _) _, by simp, n2.1, n2.2⟩)
  clear n2
  go_enter Try.func9, Try.ntmps9
  go_wp2_with fail
  refine (ex1 _).mono ?_
  rintro e w1 ⟨rfl, hB⟩
  obtain ⟨k1, p1, q1⟩ := next k0.out hB
  clear hB
  go_wp2_with fail
  refine (ex2 _).mono ?_
  rintro e w2 ⟨rfl, hB⟩
  obtain ⟨k2, p2, q2⟩ := next k1.out hB
  clear hB p1 q1
  go_wp2_with fail
  refine (ex3 _).mono ?_
  rintro e w3 ⟨rfl, hB⟩
  obtain ⟨k3, p3, q3⟩ := next k2.out hB
  clear hB p2 q2
  go_wp2_with fail
  refine (ex4 _).mono ?_
  rintro e w4 ⟨rfl, hB⟩
  obtain ⟨k4, p4, q4⟩ := next k3.out hB
  clear hB p3 q3
  go_wp2_with fail
  refine (ex5 _).mono ?_
  rintro e w5 ⟨rfl, hB⟩
  obtain ⟨k5, p5, q5⟩ := next k4.out hB
  clear hB p4 q4
  go_wp2_with fail
  refine (ex6 0 2 _ (by decide) (by decide) (by decide)).mono ?_
  rintro e w6 ⟨rfl, hB⟩
  obtain ⟨k6, p6, q6⟩ := next k5.out hB
  clear hB p5 q5
  go_wp2_with fail
  refine (ex6 9 11 _ (by decide) (by decide) (by decide)).mono ?_
  rintro e w7 ⟨rfl, hB⟩
  obtain ⟨k7, p7, q7⟩ := next k6.out hB
  clear hB p6 q6
  go_wp2_with fail
  refine (ex6 10 11 _ (by decide) (by decide) (by decide)).mono ?_
  rintro e w8 ⟨rfl, hB⟩
  obtain ⟨k8, p8, q8⟩ := next k7.out hB
  clear hB p7 q7
  go_wp2_with fail
  refine (ex6 49 47 _ (by decide) (by decide) (by decide)).mono ?_
  rintro e w9 ⟨rfl, hB⟩
  obtain ⟨k9, p9, q9⟩ := next k8.out hB
  clear hB p8 q8
  go_wp2_with fail
  refine (ex6 50 47 _ (by decide) (by decide) (by decide)).mono ?_
  rintro e w10 ⟨rfl, hB⟩
  obtain ⟨k10, p10, q10⟩ := next k9.out hB
  clear hB p9 q9
  go_wp2
  go_ret
  exact ⟨rfl, k10.out.1⟩
end Go.Proofs.Ytllobkppehlgbab
