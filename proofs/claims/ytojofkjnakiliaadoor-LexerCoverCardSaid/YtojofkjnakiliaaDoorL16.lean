/- The contract of head of the statements about package lexer: the examples hold; no condition. -/
import Derived.Test.YtojofkjnakiliaaDoorL15
namespace Go.Proofs.YtojofkjnakiliaaDoor
set_option linter.unusedSimpArgs false
set_option linter.unusedVariables false
open Go.RowKit Go.Maps Go.Shelf
open NmP

set_option maxHeartbeats 4000000 in
set_option maxRecDepth 100000 in
theorem head_any (w : World) : Calls Tryd.prog 4 #[] w fun e w' => e = .returned (.bool true) ∧ Below w.heap.size w w' := by
  have hL1 := fun W => Lex_lit hs1 ht1 hr1 (by decide) W
  have hL2 := fun W => Lex_lit hs2 ht2 hr2 (by decide) W
  have f1 : ∀ W, Calls Tryd.prog 12 #[.string ⟨#[45, 97]⟩, .int .i64 10, .int .i64 0] W fun e w' => e = .returned (.bool true) ∧ Below W.heap.size W w' := fun W => fails_lit [45, 97] 10 0 hr3 (by decide) W
  have f2 : ∀ W, Calls Tryd.prog 12 #[.string ⟨#[32, 46, 97]⟩, .int .i64 10, .int .i64 1] W fun e w' => e = .returned (.bool true) ∧ Below W.heap.size W w' := fun W => fails_lit [32, 46, 97] 10 1 hr4 (by decide) W
  have f3 : ∀ W, Calls Tryd.prog 12 #[.string ⟨#[97, 32, 48, 49]⟩, .int .i64 10, .int .i64 2] W fun e w' => e = .returned (.bool true) ∧ Below W.heap.size W w' := fun W => fails_lit [97, 32, 48, 49] 10 2 hr5 (by decide) W
  have f4 : ∀ W, Calls Tryd.prog 12 #[.string ⟨#[49, 48, 48, 48, 48, 48, 48, 48, 48, 49]⟩, .int .i64 3, .int .i64 0] W fun e w' => e = .returned (.bool true) ∧ Below W.heap.size W w' := fun W => fails_lit [49, 48, 48, 48, 48, 48, 48, 48, 48, 49] 3 0 hr6 (by decide) W
  have f5 : ∀ W, Calls Tryd.prog 12 #[.string ⟨#[34, 34]⟩, .int .i64 10, .int .i64 0] W fun e w' => e = .returned (.bool true) ∧ Below W.heap.size W w' := fun W => fails_lit [34, 34] 10 0 hr7 (by decide) W
  have HL1 := Lib.hid hL1
  have HL2 := Lib.hid hL2
  have F1 := Lib.hid f1
  have F2 := Lib.hid f2
  have F3 := Lib.hid f3
  have F4 := Lib.hid f4
  have F5 := Lib.hid f5
  clear hL1 hL2 f1 f2 f3 f4 f5
  go_enter Tryd.func4, Tryd.ntmps4
  go_wp2_with (go_at_call 5; fail)
  refine (HL1.out _).mono ?_
  rintro e w1 ⟨v1, rfl, hs, hb⟩
  obtain ⟨p1, c1, rfl⟩ := hs.form
  have HS1 := Lib.hid hs
  have HB := Lib.hid hb
  clear hs hb HL1
  go_wp2_with (first | (go_at_call 5; fail) | (go_at_call 9; refine (word_mk _ _ _).mono ?_; rintro e w2 ⟨rfl, hb⟩; replace HS1 := Lib.hid (HS1.out.keep hb); replace HB := Lib.hid (HB.out.trans (hb.mono HB.out.size)); clear hb) | (go_at_call 10; refine (sign_mk _ _ _).mono ?_; rintro e w2 ⟨rfl, hb⟩; replace HS1 := Lib.hid (HS1.out.keep hb); replace HB := Lib.hid (HB.out.trans (hb.mono HB.out.size)); clear hb))
  have HW1 := Lib.hid (SlT.built w2 ht1 _ rfl 8 rfl 8)
  replace HS1 := Lib.hid (HS1.out.keep (below_1 w2 (.cells (rowT ht1).toArray 28)))
  replace HB := Lib.hid (HB.out.trans ((below_1 w2 (.cells (rowT ht1).toArray 28)).mono HB.out.size))
  refine (HL2.out _).mono ?_
  rintro e w3 ⟨v2, rfl, hs, hb0⟩
  have hb : Below (w2.alloc (.cells (rowT ht1).toArray 28)).heap.size (w2.alloc (.cells (rowT ht1).toArray 28)) w3 := hb0
  clear hb0
  obtain ⟨p2, c2, rfl⟩ := hs.form
  have HS2 := Lib.hid hs
  replace HW1 := Lib.hid (HW1.out.keep hb)
  replace HS1 := Lib.hid (HS1.out.keep hb)
  replace HB := Lib.hid (HB.out.trans (hb.mono HB.out.size))
  clear hs hb HL2
  generalize w2.heap.size = b1 at *
  clear w2
  go_wp2_with (first | (go_at_call 11; fail) | (go_at_call 9; refine (word_mk _ _ _).mono ?_; rintro e w4 ⟨rfl, hb⟩; replace HS2 := Lib.hid (HS2.out.keep hb); replace HW1 := Lib.hid (HW1.out.keep hb); replace HS1 := Lib.hid (HS1.out.keep hb); replace HB := Lib.hid (HB.out.trans (hb.mono HB.out.size)); clear hb) | (go_at_call 10; refine (sign_mk _ _ _).mono ?_; rintro e w4 ⟨rfl, hb⟩; replace HS2 := Lib.hid (HS2.out.keep hb); replace HW1 := Lib.hid (HW1.out.keep hb); replace HS1 := Lib.hid (HS1.out.keep hb); replace HB := Lib.hid (HB.out.trans (hb.mono HB.out.size)); clear hb))
  have HW2 := Lib.hid (SlT.built w4 ht2 _ rfl 4 rfl 4)
  replace HS2 := Lib.hid (HS2.out.keep (below_1 w4 (.cells (rowT ht2).toArray 28)))
  replace HW1 := Lib.hid (HW1.out.keep (below_1 w4 (.cells (rowT ht2).toArray 28)))
  replace HS1 := Lib.hid (HS1.out.keep (below_1 w4 (.cells (rowT ht2).toArray 28)))
  replace HB := Lib.hid (HB.out.trans ((below_1 w4 (.cells (rowT ht2).toArray 28)).mono HB.out.size))
  refine (same_lit HS1.out HW1.out small1).mono ?_
  rintro e w5 ⟨rfl, hb⟩
  replace HS2 := Lib.hid (HS2.out.keep hb)
  replace HW2 := Lib.hid (HW2.out.keep hb)
  replace HB := Lib.hid (HB.out.trans (hb.mono HB.out.size))
  clear hb HS1 HW1
  generalize w4.heap.size = b2 at *
  clear w4
  go_wp2_with (first | (go_at_call 11; refine (same_lit HS2.out HW2.out small2).mono ?_; rintro e w6 ⟨rfl, hb⟩; replace HB := Lib.hid (HB.out.trans (hb.mono HB.out.size)); clear hb) | (go_at_call 12; first | ((with_reducible refine (F1.out _).mono ?_); rintro e w3 ⟨rfl, hb⟩; replace HB := Lib.hid (HB.out.trans (hb.mono HB.out.size)); clear hb) | ((with_reducible refine (F2.out _).mono ?_); rintro e w3 ⟨rfl, hb⟩; replace HB := Lib.hid (HB.out.trans (hb.mono HB.out.size)); clear hb) | ((with_reducible refine (F3.out _).mono ?_); rintro e w3 ⟨rfl, hb⟩; replace HB := Lib.hid (HB.out.trans (hb.mono HB.out.size)); clear hb) | ((with_reducible refine (F4.out _).mono ?_); rintro e w3 ⟨rfl, hb⟩; replace HB := Lib.hid (HB.out.trans (hb.mono HB.out.size)); clear hb) | ((with_reducible refine (F5.out _).mono ?_); rintro e w3 ⟨rfl, hb⟩; replace HB := Lib.hid (HB.out.trans (hb.mono HB.out.size)); clear hb)))
  go_ret
  exact ⟨rfl, HB.out⟩
end Go.Proofs.YtojofkjnakiliaaDoor
