/- SpanTimes of layer 20 is true for every input, and leaves its arguments as they were; no condition. (Written by wip/tools/genspantimes.py.) -/
import Derived.Test.YtojofkjnakiliaaS14
namespace Go.Proofs.Ytojofkjnakiliaa
open Go.ChangeShapes Go.WideShapes Go.ChangeAt Go.RowKit Go.Joins Go.Shelf
open Go.ChangeMaps (open_string shut_string)
open SpP
namespace Times
set_option linter.unusedVariables false

theorem walk_1 {va vb : Value} {a b : List Sp} (t : Int) {w : World} (ha : SlS va a w) (hb : SlS vb b w) (LA : Hid (a.length ≤ maxLen)) (FA : Hid (decide (a.length ≤ 60) = false)) :
    Calls Try.prog 5 #[va, vb, .int .i64 t] w fun e w' => e = .returned (.bool true) ∧ RowKit.Below w.heap.size w w' := by
  have H0 := Lib.hid (((AllS.start w).add ha).add hb)
  obtain ⟨pa, ca, rfl⟩ := ha.form
  obtain ⟨pb, cb, rfl⟩ := hb.form
  clear ha hb
  go_enter Try.func5, Try.ntmps5
  go_wp2_with fail
  refine (head_any _).mono ?_
  rintro e w1 ⟨rfl, hb⟩
  have H2 := Lib.hid (H0.out.step hb)
  clear H0
  clear hb
  go_wp2_with fail
  have hN := few_sl (H2.out.nth 1 rfl) LA.out
  rw [FA.out] at hN
  refine hN.mono ?_
  clear hN
  rintro e w3 ⟨rfl, hb⟩
  have H4 := Lib.hid (H2.out.step hb)
  clear H2
  clear hb
  go_wp2
  go_ret
  exact ⟨rfl, H4.out.1⟩
theorem walk_2 {va vb : Value} {a b : List Sp} (t : Int) {w : World} (ha : SlS va a w) (hb : SlS vb b w) (LA : Hid (a.length ≤ maxLen)) (LB : Hid (b.length ≤ maxLen)) (FA : Hid (decide (a.length ≤ 60) = true)) (FB : Hid (decide (b.length ≤ 60) = false)) :
    Calls Try.prog 5 #[va, vb, .int .i64 t] w fun e w' => e = .returned (.bool true) ∧ RowKit.Below w.heap.size w w' := by
  have H0 := Lib.hid (((AllS.start w).add ha).add hb)
  obtain ⟨pa, ca, rfl⟩ := ha.form
  obtain ⟨pb, cb, rfl⟩ := hb.form
  clear ha hb
  go_enter Try.func5, Try.ntmps5
  go_wp2_with fail
  refine (head_any _).mono ?_
  rintro e w1 ⟨rfl, hb⟩
  have H2 := Lib.hid (H0.out.step hb)
  clear H0
  clear hb
  go_wp2_with fail
  have hN := few_sl (H2.out.nth 1 rfl) LA.out
  rw [FA.out] at hN
  refine hN.mono ?_
  clear hN
  rintro e w3 ⟨rfl, hb⟩
  have H4 := Lib.hid (H2.out.step hb)
  clear H2
  clear hb
  go_wp2_with fail
  have hN := few_sl (H4.out.nth 0 rfl) LB.out
  rw [FB.out] at hN
  refine hN.mono ?_
  clear hN
  rintro e w5 ⟨rfl, hb⟩
  have H6 := Lib.hid (H4.out.step hb)
  clear H4
  clear hb
  go_wp2
  go_ret
  exact ⟨rfl, H6.out.1⟩
theorem walk_3 {va vb : Value} {a b : List Sp} (t : Int) {w : World} (ha : SlS va a w) (hb : SlS vb b w) (LA : Hid (a.length ≤ maxLen)) (LB : Hid (b.length ≤ maxLen)) (FA : Hid (decide (a.length ≤ 60) = true)) (FB : Hid (decide (b.length ≤ 60) = true)) (VA : Hid (validB a = false)) :
    Calls Try.prog 5 #[va, vb, .int .i64 t] w fun e w' => e = .returned (.bool true) ∧ RowKit.Below w.heap.size w w' := by
  have H0 := Lib.hid (((AllS.start w).add ha).add hb)
  obtain ⟨pa, ca, rfl⟩ := ha.form
  obtain ⟨pb, cb, rfl⟩ := hb.form
  clear ha hb
  go_enter Try.func5, Try.ntmps5
  go_wp2_with fail
  refine (head_any _).mono ?_
  rintro e w1 ⟨rfl, hb⟩
  have H2 := Lib.hid (H0.out.step hb)
  clear H0
  clear hb
  go_wp2_with fail
  have hN := few_sl (H2.out.nth 1 rfl) LA.out
  rw [FA.out] at hN
  refine hN.mono ?_
  clear hN
  rintro e w3 ⟨rfl, hb⟩
  have H4 := Lib.hid (H2.out.step hb)
  clear H2
  clear hb
  go_wp2_with fail
  have hN := few_sl (H4.out.nth 0 rfl) LB.out
  rw [FB.out] at hN
  refine hN.mono ?_
  clear hN
  rintro e w5 ⟨rfl, hb⟩
  have H6 := Lib.hid (H4.out.step hb)
  clear H4
  clear hb
  go_wp2_with fail
  have hN := rvalid_any (H6.out.nth 1 rfl) LA.out
  rw [VA.out] at hN
  refine hN.mono ?_
  clear hN
  rintro e w7 ⟨rfl, hb⟩
  have H8 := Lib.hid (H6.out.step hb)
  clear H6
  clear hb
  go_wp2
  go_ret
  exact ⟨rfl, H8.out.1⟩
theorem walk_4 {va vb : Value} {a b : List Sp} (t : Int) {w : World} (ha : SlS va a w) (hb : SlS vb b w) (LA : Hid (a.length ≤ maxLen)) (LB : Hid (b.length ≤ maxLen)) (FA : Hid (decide (a.length ≤ 60) = true)) (FB : Hid (decide (b.length ≤ 60) = true)) (VA : Hid (validB a = true)) (VB : Hid (validB b = false)) :
    Calls Try.prog 5 #[va, vb, .int .i64 t] w fun e w' => e = .returned (.bool true) ∧ RowKit.Below w.heap.size w w' := by
  have H0 := Lib.hid (((AllS.start w).add ha).add hb)
  obtain ⟨pa, ca, rfl⟩ := ha.form
  obtain ⟨pb, cb, rfl⟩ := hb.form
  clear ha hb
  go_enter Try.func5, Try.ntmps5
  go_wp2_with fail
  refine (head_any _).mono ?_
  rintro e w1 ⟨rfl, hb⟩
  have H2 := Lib.hid (H0.out.step hb)
  clear H0
  clear hb
  go_wp2_with fail
  have hN := few_sl (H2.out.nth 1 rfl) LA.out
  rw [FA.out] at hN
  refine hN.mono ?_
  clear hN
  rintro e w3 ⟨rfl, hb⟩
  have H4 := Lib.hid (H2.out.step hb)
  clear H2
  clear hb
  go_wp2_with fail
  have hN := few_sl (H4.out.nth 0 rfl) LB.out
  rw [FB.out] at hN
  refine hN.mono ?_
  clear hN
  rintro e w5 ⟨rfl, hb⟩
  have H6 := Lib.hid (H4.out.step hb)
  clear H4
  clear hb
  go_wp2_with fail
  have hN := rvalid_any (H6.out.nth 1 rfl) LA.out
  rw [VA.out] at hN
  refine hN.mono ?_
  clear hN
  rintro e w7 ⟨rfl, hb⟩
  have H8 := Lib.hid (H6.out.step hb)
  clear H6
  clear hb
  go_wp2_with fail
  have hN := rvalid_any (H8.out.nth 0 rfl) LB.out
  rw [VB.out] at hN
  refine hN.mono ?_
  clear hN
  rintro e w9 ⟨rfl, hb⟩
  have H10 := Lib.hid (H8.out.step hb)
  clear H8
  clear hb
  go_wp2
  go_ret
  exact ⟨rfl, H10.out.1⟩

set_option maxHeartbeats 4000000 in
set_option maxRecDepth 100000 in
theorem main_00 {va vb : Value} {a b u x m : List Sp} (t : Int) {w : World} (ha : SlS va a w) (hb : SlS vb b w) (LA : Hid (a.length ≤ maxLen)) (LB : Hid (b.length ≤ maxLen)) (FA : Hid (decide (a.length ≤ 60) = true)) (FB : Hid (decide (b.length ≤ 60) = true)) (VA : Hid (validB a = true)) (VB : Hid (validB b = true))
    (HU : Hid (bothR cU a b = (u, 0))) (HX : Hid (bothR cX a b = (x, 0))) (HM : Hid (bothR cM a b = (m, 0))) (LU : Hid (u.length ≤ maxLen)) (LX : Hid (x.length ≤ maxLen)) (LM : Hid (m.length ≤ maxLen)) (VU : Hid (validB u = true)) (VX : Hid (validB x = true)) (VM : Hid (validB m = true))
    (TA : Hid (hasS a t = false)) (TB : Hid (hasS b t = false)) (TU : Hid (hasS u t = false)) (TX : Hid (hasS x t = false)) (TM : Hid (hasS m t = false)) :
    Calls Try.prog 5 #[va, vb, .int .i64 t] w fun e w' => e = .returned (.bool true) ∧ RowKit.Below w.heap.size w w' := by
    have H0 := Lib.hid (((AllS.start w).add ha).add hb)
    obtain ⟨pa, ca, rfl⟩ := ha.form
    obtain ⟨pb, cb, rfl⟩ := hb.form
    clear ha hb
    go_enter Try.func5, Try.ntmps5
    go_wp2_with fail
    refine (head_any _).mono ?_
    rintro e w1 ⟨rfl, hb⟩
    have H2 := Lib.hid (H0.out.step hb)
    clear H0
    clear hb
    go_wp2_with fail
    have hN := few_sl (H2.out.nth 1 rfl) LA.out
    rw [FA.out] at hN
    refine hN.mono ?_
    clear hN
    rintro e w3 ⟨rfl, hb⟩
    have H4 := Lib.hid (H2.out.step hb)
    clear H2
    clear hb
    go_wp2_with fail
    have hN := few_sl (H4.out.nth 0 rfl) LB.out
    rw [FB.out] at hN
    refine hN.mono ?_
    clear hN
    rintro e w5 ⟨rfl, hb⟩
    have H6 := Lib.hid (H4.out.step hb)
    clear H4
    clear hb
    go_wp2_with fail
    have hN := rvalid_any (H6.out.nth 1 rfl) LA.out
    rw [VA.out] at hN
    refine hN.mono ?_
    clear hN
    rintro e w7 ⟨rfl, hb⟩
    have H8 := Lib.hid (H6.out.step hb)
    clear H6
    clear hb
    go_wp2_with fail
    have hN := rvalid_any (H8.out.nth 0 rfl) LB.out
    rw [VB.out] at hN
    refine hN.mono ?_
    clear hN
    rintro e w9 ⟨rfl, hb⟩
    have H10 := Lib.hid (H8.out.step hb)
    clear H8
    clear hb
    go_wp2_with fail
    have hN := union_any (H10.out.nth 1 rfl) (H10.out.nth 0 rfl) LA.out LB.out
    rw [HU.out] at hN
    refine hN.mono ?_
    clear hN
    rintro e w11 ⟨sl11, rfl, hs, hb⟩
    obtain ⟨p11, c11, rfl⟩ := hs.form
    have H12 := Lib.hid ((H10.out.step hb).add hs)
    clear H10
    clear hs hb
    go_wp2_with fail
    have hN := cross_any (H12.out.nth 2 rfl) (H12.out.nth 1 rfl) LA.out LB.out
    rw [HX.out] at hN
    refine hN.mono ?_
    clear hN
    rintro e w13 ⟨sl13, rfl, hs, hb⟩
    obtain ⟨p13, c13, rfl⟩ := hs.form
    have H14 := Lib.hid ((H12.out.step hb).add hs)
    clear H12
    clear hs hb
    go_wp2_with fail
    have hN := minus_any (H14.out.nth 3 rfl) (H14.out.nth 2 rfl) LA.out LB.out
    rw [HM.out] at hN
    refine hN.mono ?_
    clear hN
    rintro e w15 ⟨sl15, rfl, hs, hb⟩
    obtain ⟨p15, c15, rfl⟩ := hs.form
    have H16 := Lib.hid ((H14.out.step hb).add hs)
    clear H14
    clear hs hb
    go_wp2_with fail
    have hN := valid_any (H16.out.nth 2 rfl) LU.out
    rw [VU.out] at hN
    refine hN.mono ?_
    clear hN
    rintro e w17 ⟨rfl, hb⟩
    have H18 := Lib.hid (H16.out.step hb)
    clear H16
    clear hb
    go_wp2_with fail
    have hN := valid_any (H18.out.nth 1 rfl) LX.out
    rw [VX.out] at hN
    refine hN.mono ?_
    clear hN
    rintro e w19 ⟨rfl, hb⟩
    have H20 := Lib.hid (H18.out.step hb)
    clear H18
    clear hb
    go_wp2_with fail
    have hN := valid_any (H20.out.nth 0 rfl) LM.out
    rw [VM.out] at hN
    refine hN.mono ?_
    clear hN
    rintro e w21 ⟨rfl, hb⟩
    have H22 := Lib.hid (H20.out.step hb)
    clear H20
    clear hb
    go_wp2_with fail
    have hN := has_any (H22.out.nth 4 rfl) LA.out t
    rw [TA.out] at hN
    refine hN.mono ?_
    clear hN
    rintro e w23 ⟨rfl, hb⟩
    have H24 := Lib.hid (H22.out.step hb)
    clear H22
    clear hb
    go_wp2_with fail
    have hN := has_any (H24.out.nth 3 rfl) LB.out t
    rw [TB.out] at hN
    refine hN.mono ?_
    clear hN
    rintro e w25 ⟨rfl, hb⟩
    have H26 := Lib.hid (H24.out.step hb)
    clear H24
    clear hb
    go_wp2_with fail
    have hN := has_any (H26.out.nth 2 rfl) LU.out t
    rw [TU.out] at hN
    refine hN.mono ?_
    clear hN
    rintro e w27 ⟨rfl, hb⟩
    have H28 := Lib.hid (H26.out.step hb)
    clear H26
    clear hb
    go_wp2_with fail
    have hN := has_any (H28.out.nth 1 rfl) LX.out t
    rw [TX.out] at hN
    refine hN.mono ?_
    clear hN
    rintro e w29 ⟨rfl, hb⟩
    have H30 := Lib.hid (H28.out.step hb)
    clear H28
    clear hb
    go_wp2_with fail
    have hN := has_any (H30.out.nth 0 rfl) LM.out t
    rw [TM.out] at hN
    refine hN.mono ?_
    clear hN
    rintro e w31 ⟨rfl, hb⟩
    have H32 := Lib.hid (H30.out.step hb)
    clear H30
    clear hb
    go_wp2
    go_ret
    exact ⟨rfl, H32.out.1⟩

set_option maxHeartbeats 4000000 in
set_option maxRecDepth 100000 in
theorem main_01 {va vb : Value} {a b u x m : List Sp} (t : Int) {w : World} (ha : SlS va a w) (hb : SlS vb b w) (LA : Hid (a.length ≤ maxLen)) (LB : Hid (b.length ≤ maxLen)) (FA : Hid (decide (a.length ≤ 60) = true)) (FB : Hid (decide (b.length ≤ 60) = true)) (VA : Hid (validB a = true)) (VB : Hid (validB b = true))
    (HU : Hid (bothR cU a b = (u, 0))) (HX : Hid (bothR cX a b = (x, 0))) (HM : Hid (bothR cM a b = (m, 0))) (LU : Hid (u.length ≤ maxLen)) (LX : Hid (x.length ≤ maxLen)) (LM : Hid (m.length ≤ maxLen)) (VU : Hid (validB u = true)) (VX : Hid (validB x = true)) (VM : Hid (validB m = true))
    (TA : Hid (hasS a t = false)) (TB : Hid (hasS b t = true)) (TU : Hid (hasS u t = true)) (TX : Hid (hasS x t = false)) (TM : Hid (hasS m t = false)) :
    Calls Try.prog 5 #[va, vb, .int .i64 t] w fun e w' => e = .returned (.bool true) ∧ RowKit.Below w.heap.size w w' := by
    have H0 := Lib.hid (((AllS.start w).add ha).add hb)
    obtain ⟨pa, ca, rfl⟩ := ha.form
    obtain ⟨pb, cb, rfl⟩ := hb.form
    clear ha hb
    go_enter Try.func5, Try.ntmps5
    go_wp2_with fail
    refine (head_any _).mono ?_
    rintro e w1 ⟨rfl, hb⟩
    have H2 := Lib.hid (H0.out.step hb)
    clear H0
    clear hb
    go_wp2_with fail
    have hN := few_sl (H2.out.nth 1 rfl) LA.out
    rw [FA.out] at hN
    refine hN.mono ?_
    clear hN
    rintro e w3 ⟨rfl, hb⟩
    have H4 := Lib.hid (H2.out.step hb)
    clear H2
    clear hb
    go_wp2_with fail
    have hN := few_sl (H4.out.nth 0 rfl) LB.out
    rw [FB.out] at hN
    refine hN.mono ?_
    clear hN
    rintro e w5 ⟨rfl, hb⟩
    have H6 := Lib.hid (H4.out.step hb)
    clear H4
    clear hb
    go_wp2_with fail
    have hN := rvalid_any (H6.out.nth 1 rfl) LA.out
    rw [VA.out] at hN
    refine hN.mono ?_
    clear hN
    rintro e w7 ⟨rfl, hb⟩
    have H8 := Lib.hid (H6.out.step hb)
    clear H6
    clear hb
    go_wp2_with fail
    have hN := rvalid_any (H8.out.nth 0 rfl) LB.out
    rw [VB.out] at hN
    refine hN.mono ?_
    clear hN
    rintro e w9 ⟨rfl, hb⟩
    have H10 := Lib.hid (H8.out.step hb)
    clear H8
    clear hb
    go_wp2_with fail
    have hN := union_any (H10.out.nth 1 rfl) (H10.out.nth 0 rfl) LA.out LB.out
    rw [HU.out] at hN
    refine hN.mono ?_
    clear hN
    rintro e w11 ⟨sl11, rfl, hs, hb⟩
    obtain ⟨p11, c11, rfl⟩ := hs.form
    have H12 := Lib.hid ((H10.out.step hb).add hs)
    clear H10
    clear hs hb
    go_wp2_with fail
    have hN := cross_any (H12.out.nth 2 rfl) (H12.out.nth 1 rfl) LA.out LB.out
    rw [HX.out] at hN
    refine hN.mono ?_
    clear hN
    rintro e w13 ⟨sl13, rfl, hs, hb⟩
    obtain ⟨p13, c13, rfl⟩ := hs.form
    have H14 := Lib.hid ((H12.out.step hb).add hs)
    clear H12
    clear hs hb
    go_wp2_with fail
    have hN := minus_any (H14.out.nth 3 rfl) (H14.out.nth 2 rfl) LA.out LB.out
    rw [HM.out] at hN
    refine hN.mono ?_
    clear hN
    rintro e w15 ⟨sl15, rfl, hs, hb⟩
    obtain ⟨p15, c15, rfl⟩ := hs.form
    have H16 := Lib.hid ((H14.out.step hb).add hs)
    clear H14
    clear hs hb
    go_wp2_with fail
    have hN := valid_any (H16.out.nth 2 rfl) LU.out
    rw [VU.out] at hN
    refine hN.mono ?_
    clear hN
    rintro e w17 ⟨rfl, hb⟩
    have H18 := Lib.hid (H16.out.step hb)
    clear H16
    clear hb
    go_wp2_with fail
    have hN := valid_any (H18.out.nth 1 rfl) LX.out
    rw [VX.out] at hN
    refine hN.mono ?_
    clear hN
    rintro e w19 ⟨rfl, hb⟩
    have H20 := Lib.hid (H18.out.step hb)
    clear H18
    clear hb
    go_wp2_with fail
    have hN := valid_any (H20.out.nth 0 rfl) LM.out
    rw [VM.out] at hN
    refine hN.mono ?_
    clear hN
    rintro e w21 ⟨rfl, hb⟩
    have H22 := Lib.hid (H20.out.step hb)
    clear H20
    clear hb
    go_wp2_with fail
    have hN := has_any (H22.out.nth 4 rfl) LA.out t
    rw [TA.out] at hN
    refine hN.mono ?_
    clear hN
    rintro e w23 ⟨rfl, hb⟩
    have H24 := Lib.hid (H22.out.step hb)
    clear H22
    clear hb
    go_wp2_with fail
    have hN := has_any (H24.out.nth 3 rfl) LB.out t
    rw [TB.out] at hN
    refine hN.mono ?_
    clear hN
    rintro e w25 ⟨rfl, hb⟩
    have H26 := Lib.hid (H24.out.step hb)
    clear H24
    clear hb
    go_wp2_with fail
    have hN := has_any (H26.out.nth 2 rfl) LU.out t
    rw [TU.out] at hN
    refine hN.mono ?_
    clear hN
    rintro e w27 ⟨rfl, hb⟩
    have H28 := Lib.hid (H26.out.step hb)
    clear H26
    clear hb
    go_wp2_with fail
    have hN := has_any (H28.out.nth 1 rfl) LX.out t
    rw [TX.out] at hN
    refine hN.mono ?_
    clear hN
    rintro e w29 ⟨rfl, hb⟩
    have H30 := Lib.hid (H28.out.step hb)
    clear H28
    clear hb
    go_wp2_with fail
    have hN := has_any (H30.out.nth 0 rfl) LM.out t
    rw [TM.out] at hN
    refine hN.mono ?_
    clear hN
    rintro e w31 ⟨rfl, hb⟩
    have H32 := Lib.hid (H30.out.step hb)
    clear H30
    clear hb
    go_wp2
    go_ret
    exact ⟨rfl, H32.out.1⟩

set_option maxHeartbeats 4000000 in
set_option maxRecDepth 100000 in
theorem main_10 {va vb : Value} {a b u x m : List Sp} (t : Int) {w : World} (ha : SlS va a w) (hb : SlS vb b w) (LA : Hid (a.length ≤ maxLen)) (LB : Hid (b.length ≤ maxLen)) (FA : Hid (decide (a.length ≤ 60) = true)) (FB : Hid (decide (b.length ≤ 60) = true)) (VA : Hid (validB a = true)) (VB : Hid (validB b = true))
    (HU : Hid (bothR cU a b = (u, 0))) (HX : Hid (bothR cX a b = (x, 0))) (HM : Hid (bothR cM a b = (m, 0))) (LU : Hid (u.length ≤ maxLen)) (LX : Hid (x.length ≤ maxLen)) (LM : Hid (m.length ≤ maxLen)) (VU : Hid (validB u = true)) (VX : Hid (validB x = true)) (VM : Hid (validB m = true))
    (TA : Hid (hasS a t = true)) (TB : Hid (hasS b t = false)) (TU : Hid (hasS u t = true)) (TX : Hid (hasS x t = false)) (TM : Hid (hasS m t = true)) :
    Calls Try.prog 5 #[va, vb, .int .i64 t] w fun e w' => e = .returned (.bool true) ∧ RowKit.Below w.heap.size w w' := by
    have H0 := Lib.hid (((AllS.start w).add ha).add hb)
    obtain ⟨pa, ca, rfl⟩ := ha.form
    obtain ⟨pb, cb, rfl⟩ := hb.form
    clear ha hb
    go_enter Try.func5, Try.ntmps5
    go_wp2_with fail
    refine (head_any _).mono ?_
    rintro e w1 ⟨rfl, hb⟩
    have H2 := Lib.hid (H0.out.step hb)
    clear H0
    clear hb
    go_wp2_with fail
    have hN := few_sl (H2.out.nth 1 rfl) LA.out
    rw [FA.out] at hN
    refine hN.mono ?_
    clear hN
    rintro e w3 ⟨rfl, hb⟩
    have H4 := Lib.hid (H2.out.step hb)
    clear H2
    clear hb
    go_wp2_with fail
    have hN := few_sl (H4.out.nth 0 rfl) LB.out
    rw [FB.out] at hN
    refine hN.mono ?_
    clear hN
    rintro e w5 ⟨rfl, hb⟩
    have H6 := Lib.hid (H4.out.step hb)
    clear H4
    clear hb
    go_wp2_with fail
    have hN := rvalid_any (H6.out.nth 1 rfl) LA.out
    rw [VA.out] at hN
    refine hN.mono ?_
    clear hN
    rintro e w7 ⟨rfl, hb⟩
    have H8 := Lib.hid (H6.out.step hb)
    clear H6
    clear hb
    go_wp2_with fail
    have hN := rvalid_any (H8.out.nth 0 rfl) LB.out
    rw [VB.out] at hN
    refine hN.mono ?_
    clear hN
    rintro e w9 ⟨rfl, hb⟩
    have H10 := Lib.hid (H8.out.step hb)
    clear H8
    clear hb
    go_wp2_with fail
    have hN := union_any (H10.out.nth 1 rfl) (H10.out.nth 0 rfl) LA.out LB.out
    rw [HU.out] at hN
    refine hN.mono ?_
    clear hN
    rintro e w11 ⟨sl11, rfl, hs, hb⟩
    obtain ⟨p11, c11, rfl⟩ := hs.form
    have H12 := Lib.hid ((H10.out.step hb).add hs)
    clear H10
    clear hs hb
    go_wp2_with fail
    have hN := cross_any (H12.out.nth 2 rfl) (H12.out.nth 1 rfl) LA.out LB.out
    rw [HX.out] at hN
    refine hN.mono ?_
    clear hN
    rintro e w13 ⟨sl13, rfl, hs, hb⟩
    obtain ⟨p13, c13, rfl⟩ := hs.form
    have H14 := Lib.hid ((H12.out.step hb).add hs)
    clear H12
    clear hs hb
    go_wp2_with fail
    have hN := minus_any (H14.out.nth 3 rfl) (H14.out.nth 2 rfl) LA.out LB.out
    rw [HM.out] at hN
    refine hN.mono ?_
    clear hN
    rintro e w15 ⟨sl15, rfl, hs, hb⟩
    obtain ⟨p15, c15, rfl⟩ := hs.form
    have H16 := Lib.hid ((H14.out.step hb).add hs)
    clear H14
    clear hs hb
    go_wp2_with fail
    have hN := valid_any (H16.out.nth 2 rfl) LU.out
    rw [VU.out] at hN
    refine hN.mono ?_
    clear hN
    rintro e w17 ⟨rfl, hb⟩
    have H18 := Lib.hid (H16.out.step hb)
    clear H16
    clear hb
    go_wp2_with fail
    have hN := valid_any (H18.out.nth 1 rfl) LX.out
    rw [VX.out] at hN
    refine hN.mono ?_
    clear hN
    rintro e w19 ⟨rfl, hb⟩
    have H20 := Lib.hid (H18.out.step hb)
    clear H18
    clear hb
    go_wp2_with fail
    have hN := valid_any (H20.out.nth 0 rfl) LM.out
    rw [VM.out] at hN
    refine hN.mono ?_
    clear hN
    rintro e w21 ⟨rfl, hb⟩
    have H22 := Lib.hid (H20.out.step hb)
    clear H20
    clear hb
    go_wp2_with fail
    have hN := has_any (H22.out.nth 4 rfl) LA.out t
    rw [TA.out] at hN
    refine hN.mono ?_
    clear hN
    rintro e w23 ⟨rfl, hb⟩
    have H24 := Lib.hid (H22.out.step hb)
    clear H22
    clear hb
    go_wp2_with fail
    have hN := has_any (H24.out.nth 3 rfl) LB.out t
    rw [TB.out] at hN
    refine hN.mono ?_
    clear hN
    rintro e w25 ⟨rfl, hb⟩
    have H26 := Lib.hid (H24.out.step hb)
    clear H24
    clear hb
    go_wp2_with fail
    have hN := has_any (H26.out.nth 2 rfl) LU.out t
    rw [TU.out] at hN
    refine hN.mono ?_
    clear hN
    rintro e w27 ⟨rfl, hb⟩
    have H28 := Lib.hid (H26.out.step hb)
    clear H26
    clear hb
    go_wp2_with fail
    have hN := has_any (H28.out.nth 1 rfl) LX.out t
    rw [TX.out] at hN
    refine hN.mono ?_
    clear hN
    rintro e w29 ⟨rfl, hb⟩
    have H30 := Lib.hid (H28.out.step hb)
    clear H28
    clear hb
    go_wp2_with fail
    have hN := has_any (H30.out.nth 0 rfl) LM.out t
    rw [TM.out] at hN
    refine hN.mono ?_
    clear hN
    rintro e w31 ⟨rfl, hb⟩
    have H32 := Lib.hid (H30.out.step hb)
    clear H30
    clear hb
    go_wp2
    go_ret
    exact ⟨rfl, H32.out.1⟩

set_option maxHeartbeats 4000000 in
set_option maxRecDepth 100000 in
theorem main_11 {va vb : Value} {a b u x m : List Sp} (t : Int) {w : World} (ha : SlS va a w) (hb : SlS vb b w) (LA : Hid (a.length ≤ maxLen)) (LB : Hid (b.length ≤ maxLen)) (FA : Hid (decide (a.length ≤ 60) = true)) (FB : Hid (decide (b.length ≤ 60) = true)) (VA : Hid (validB a = true)) (VB : Hid (validB b = true))
    (HU : Hid (bothR cU a b = (u, 0))) (HX : Hid (bothR cX a b = (x, 0))) (HM : Hid (bothR cM a b = (m, 0))) (LU : Hid (u.length ≤ maxLen)) (LX : Hid (x.length ≤ maxLen)) (LM : Hid (m.length ≤ maxLen)) (VU : Hid (validB u = true)) (VX : Hid (validB x = true)) (VM : Hid (validB m = true))
    (TA : Hid (hasS a t = true)) (TB : Hid (hasS b t = true)) (TU : Hid (hasS u t = true)) (TX : Hid (hasS x t = true)) (TM : Hid (hasS m t = false)) :
    Calls Try.prog 5 #[va, vb, .int .i64 t] w fun e w' => e = .returned (.bool true) ∧ RowKit.Below w.heap.size w w' := by
    have H0 := Lib.hid (((AllS.start w).add ha).add hb)
    obtain ⟨pa, ca, rfl⟩ := ha.form
    obtain ⟨pb, cb, rfl⟩ := hb.form
    clear ha hb
    go_enter Try.func5, Try.ntmps5
    go_wp2_with fail
    refine (head_any _).mono ?_
    rintro e w1 ⟨rfl, hb⟩
    have H2 := Lib.hid (H0.out.step hb)
    clear H0
    clear hb
    go_wp2_with fail
    have hN := few_sl (H2.out.nth 1 rfl) LA.out
    rw [FA.out] at hN
    refine hN.mono ?_
    clear hN
    rintro e w3 ⟨rfl, hb⟩
    have H4 := Lib.hid (H2.out.step hb)
    clear H2
    clear hb
    go_wp2_with fail
    have hN := few_sl (H4.out.nth 0 rfl) LB.out
    rw [FB.out] at hN
    refine hN.mono ?_
    clear hN
    rintro e w5 ⟨rfl, hb⟩
    have H6 := Lib.hid (H4.out.step hb)
    clear H4
    clear hb
    go_wp2_with fail
    have hN := rvalid_any (H6.out.nth 1 rfl) LA.out
    rw [VA.out] at hN
    refine hN.mono ?_
    clear hN
    rintro e w7 ⟨rfl, hb⟩
    have H8 := Lib.hid (H6.out.step hb)
    clear H6
    clear hb
    go_wp2_with fail
    have hN := rvalid_any (H8.out.nth 0 rfl) LB.out
    rw [VB.out] at hN
    refine hN.mono ?_
    clear hN
    rintro e w9 ⟨rfl, hb⟩
    have H10 := Lib.hid (H8.out.step hb)
    clear H8
    clear hb
    go_wp2_with fail
    have hN := union_any (H10.out.nth 1 rfl) (H10.out.nth 0 rfl) LA.out LB.out
    rw [HU.out] at hN
    refine hN.mono ?_
    clear hN
    rintro e w11 ⟨sl11, rfl, hs, hb⟩
    obtain ⟨p11, c11, rfl⟩ := hs.form
    have H12 := Lib.hid ((H10.out.step hb).add hs)
    clear H10
    clear hs hb
    go_wp2_with fail
    have hN := cross_any (H12.out.nth 2 rfl) (H12.out.nth 1 rfl) LA.out LB.out
    rw [HX.out] at hN
    refine hN.mono ?_
    clear hN
    rintro e w13 ⟨sl13, rfl, hs, hb⟩
    obtain ⟨p13, c13, rfl⟩ := hs.form
    have H14 := Lib.hid ((H12.out.step hb).add hs)
    clear H12
    clear hs hb
    go_wp2_with fail
    have hN := minus_any (H14.out.nth 3 rfl) (H14.out.nth 2 rfl) LA.out LB.out
    rw [HM.out] at hN
    refine hN.mono ?_
    clear hN
    rintro e w15 ⟨sl15, rfl, hs, hb⟩
    obtain ⟨p15, c15, rfl⟩ := hs.form
    have H16 := Lib.hid ((H14.out.step hb).add hs)
    clear H14
    clear hs hb
    go_wp2_with fail
    have hN := valid_any (H16.out.nth 2 rfl) LU.out
    rw [VU.out] at hN
    refine hN.mono ?_
    clear hN
    rintro e w17 ⟨rfl, hb⟩
    have H18 := Lib.hid (H16.out.step hb)
    clear H16
    clear hb
    go_wp2_with fail
    have hN := valid_any (H18.out.nth 1 rfl) LX.out
    rw [VX.out] at hN
    refine hN.mono ?_
    clear hN
    rintro e w19 ⟨rfl, hb⟩
    have H20 := Lib.hid (H18.out.step hb)
    clear H18
    clear hb
    go_wp2_with fail
    have hN := valid_any (H20.out.nth 0 rfl) LM.out
    rw [VM.out] at hN
    refine hN.mono ?_
    clear hN
    rintro e w21 ⟨rfl, hb⟩
    have H22 := Lib.hid (H20.out.step hb)
    clear H20
    clear hb
    go_wp2_with fail
    have hN := has_any (H22.out.nth 4 rfl) LA.out t
    rw [TA.out] at hN
    refine hN.mono ?_
    clear hN
    rintro e w23 ⟨rfl, hb⟩
    have H24 := Lib.hid (H22.out.step hb)
    clear H22
    clear hb
    go_wp2_with fail
    have hN := has_any (H24.out.nth 3 rfl) LB.out t
    rw [TB.out] at hN
    refine hN.mono ?_
    clear hN
    rintro e w25 ⟨rfl, hb⟩
    have H26 := Lib.hid (H24.out.step hb)
    clear H24
    clear hb
    go_wp2_with fail
    have hN := has_any (H26.out.nth 2 rfl) LU.out t
    rw [TU.out] at hN
    refine hN.mono ?_
    clear hN
    rintro e w27 ⟨rfl, hb⟩
    have H28 := Lib.hid (H26.out.step hb)
    clear H26
    clear hb
    go_wp2_with fail
    have hN := has_any (H28.out.nth 1 rfl) LX.out t
    rw [TX.out] at hN
    refine hN.mono ?_
    clear hN
    rintro e w29 ⟨rfl, hb⟩
    have H30 := Lib.hid (H28.out.step hb)
    clear H28
    clear hb
    go_wp2_with fail
    have hN := has_any (H30.out.nth 0 rfl) LM.out t
    rw [TM.out] at hN
    refine hN.mono ?_
    clear hN
    rintro e w31 ⟨rfl, hb⟩
    have H32 := Lib.hid (H30.out.step hb)
    clear H30
    clear hb
    go_wp2
    go_ret
    exact ⟨rfl, H32.out.1⟩

theorem walk (a : Option Addr) (na ca : Nat) (b : Option Addr) (nb cb : Nat) (t : Int) (w : World) (ha : ∃ l : List Sp, l.length = na ∧ SlS (.slice a na ca) l w ∧ l.length ≤ maxLen) (hb : ∃ l : List Sp, l.length = nb ∧ SlS (.slice b nb cb) l w ∧ l.length ≤ maxLen) (wt : (Lit.int .i64 t).wf = true) :
    Calls Try.prog 5 #[.slice a na ca, .slice b nb cb, .int .i64 t] w fun e w' => e = .returned (.bool true) ∧ RowKit.Below w.heap.size w w' := by
  obtain ⟨la, _, sa, ma⟩ := ha
  obtain ⟨lb, _, sb, mb⟩ := hb
  have LA := Lib.hid ma
  have LB := Lib.hid mb
  cases fa : decide (la.length ≤ 60)
  · exact walk_1 t sa sb LA (Lib.hid fa)
  · cases fb : decide (lb.length ≤ 60)
    · exact walk_2 t sa sb LA LB (Lib.hid fa) (Lib.hid fb)
    · cases va : validB la
      · exact walk_3 t sa sb LA LB (Lib.hid fa) (Lib.hid fb) (Lib.hid va)
      · cases vb : validB lb
        · exact walk_4 t sa sb LA LB (Lib.hid fa) (Lib.hid fb) (Lib.hid va) (Lib.hid vb)
        · have hla := of_decide_eq_true fa
          have hlb := of_decide_eq_true fb
          have xa := ((validB_iff la).1 va).2
          have xb := ((validB_iff lb).1 vb).2
          obtain ⟨u1, u2, u3⟩ := both_ok (c := cU) rfl xa xb (by omega) (by omega)
          obtain ⟨x1, x2, x3⟩ := both_ok (c := cX) rfl xa xb (by omega) (by omega)
          obtain ⟨m1, m2, m3⟩ := both_ok (c := cM) rfl xa xb (by omega) (by omega)
          have hu := uni_has xa.inR xb.inR t
          have hx := crs_has xa.inR xb.inR t
          have hm := min_has xa.inR xb.inR t
          have LU := Lib.hid (lenS (n := 240) (by omega) (by omega) : (swp cU la lb).length ≤ maxLen)
          have LX := Lib.hid (lenS (n := 240) (by omega) (by omega) : (swp cX la lb).length ≤ maxLen)
          have LM := Lib.hid (lenS (n := 240) (by omega) (by omega) : (swp cM la lb).length ≤ maxLen)
          have VU := Lib.hid (val_ok u3 (by omega))
          have VX := Lib.hid (val_ok x3 (by omega))
          have VM := Lib.hid (val_ok m3 (by omega))
          cases p : hasS la t
          · cases q : hasS lb t
            · rw [p, q] at hu hx hm
              exact main_00 t sa sb LA LB (Lib.hid fa) (Lib.hid fb) (Lib.hid va) (Lib.hid vb) (Lib.hid u1) (Lib.hid x1) (Lib.hid m1) LU LX LM VU VX VM (Lib.hid p) (Lib.hid q) (Lib.hid hu) (Lib.hid hx) (Lib.hid hm)
            · rw [p, q] at hu hx hm
              exact main_01 t sa sb LA LB (Lib.hid fa) (Lib.hid fb) (Lib.hid va) (Lib.hid vb) (Lib.hid u1) (Lib.hid x1) (Lib.hid m1) LU LX LM VU VX VM (Lib.hid p) (Lib.hid q) (Lib.hid hu) (Lib.hid hx) (Lib.hid hm)
          · cases q : hasS lb t
            · rw [p, q] at hu hx hm
              exact main_10 t sa sb LA LB (Lib.hid fa) (Lib.hid fb) (Lib.hid va) (Lib.hid vb) (Lib.hid u1) (Lib.hid x1) (Lib.hid m1) LU LX LM VU VX VM (Lib.hid p) (Lib.hid q) (Lib.hid hu) (Lib.hid hx) (Lib.hid hm)
            · rw [p, q] at hu hx hm
              exact main_11 t sa sb LA LB (Lib.hid fa) (Lib.hid fb) (Lib.hid va) (Lib.hid vb) (Lib.hid u1) (Lib.hid x1) (Lib.hid m1) LU LX LM VU VX VM (Lib.hid p) (Lib.hid q) (Lib.hid hu) (Lib.hid hx) (Lib.hid hm)

theorem own : ownKnob Try.prog.godebug = none := by kernel_rfl
theorem laidOut : laidOutB Try.prog = true := by kernel_rfl

set_option maxRecDepth 100000 in
theorem lifted (os : Os) (started : os.Started) (H : Type) (enc : TypeId × Value → H) :
    ReturnsInHanded {} Try.checked os 5 .any (Rows.spanTimesSpec.pre6 enc Try.prog Try.f5 Rows.spanTimesRow.domain false) (Rows.spanTimesSpec.post enc Try.prog Try.f5 false true false false) := by
  refine returnsInHanded_of_change (C := Try.checked) own started (by kernel_rfl) Try.func5
    (ChangeSpec.witness6 (enc := enc) (C := Try.checked) false ⟨#[], #[.slice none 0 0, .slice none 0 0, .int .i64 0], []⟩ 8 (by kernel_rfl) (by kernel_rfl) (by kernel_rfl) (by kernel_rfl)) ?_
  intro W base args ds gs before hval0 hW hcnd _
  have hval : ∀ (j : Nat) t v, Try.f5.params[j]? = some t → args[j]? = some v → Value.okWide Try.prog W .any base t v := hval0
  have hW' := hW
  obtain ⟨p, q, hA0, hV, rfl, hfz, hnd⟩ := hW
  have hA : DataW.TrodAll enc Try.prog W 0 (fun _ => true) true Try.f5.params.toList args.toList ds p := hA0
  rw [Try.params5] at hA hval
  obtain ⟨v0, vs0, d0, ds0, p0, q0, hargs, rfl, rfl, h0, r0⟩ := trodAll_cons hA
  obtain ⟨v1, vs1, d1, ds1, p1, q1, rfl, rfl, rfl, h1, r1⟩ := trodAll_cons r0
  obtain ⟨v2, vs2, d2, ds2, p2, q2, rfl, rfl, rfl, h2, r2⟩ := trodAll_cons r1
  obtain ⟨rfl, rfl, rfl⟩ := trodAll_nil r2
  obtain rfl : args = #[v0, v1, v2] := by cases args; simp_all
  obtain ⟨rfl, rfl⟩ := trodVars_none hV
  have k0 := h0
  have lt0 : ∀ x ∈ p0, x.block < W.heap.size := by obtain ⟨m, hm⟩ := k0; exact DataW.trod_lt m _ _ _ hm
  have k1 := h1
  have lt1 : ∀ x ∈ p1, x.block < W.heap.size := by obtain ⟨m, hm⟩ := k1; exact DataW.trod_lt m _ _ _ hm
  have k2 := h2
  have lt2 : ∀ x ∈ p2, x.block < W.heap.size := by obtain ⟨m, hm⟩ := k2; exact DataW.trod_lt m _ _ _ hm
  obtain ⟨a0, len0, cap0, rfl⟩ := okWide_slice Try.underlying22 (hval 0 22 v0 rfl rfl)
  have w0 := open_spans h0
  obtain ⟨a1, len1, cap1, rfl⟩ := okWide_slice Try.underlying22 (hval 1 22 v1 rfl rfl)
  have w1 := open_spans h1
  obtain ⟨a2, rfl, rfl, rfl, w2⟩ := open_int Try.underlying3 (hval 2 3 v2 rfl rfl) h2
  clear hA0 hval0
  refine (walk a0 len0 cap0 a1 len1 cap1 a2 W w0 w1 w2).mono fun e W' ⟨he, bel⟩ => ?_
  subst he
  exact ⟨_, rfl, _, _, _, [], _, [], hW', trodAll_mk1 (shut_bool Try.underlying4 _), (trodAll_cons_mk (Below.trod laidOut (by kernel_rfl) (of_decide_eq_true (by kernel_rfl)) k0 bel lt0) (trodAll_cons_mk (Below.trod laidOut (by kernel_rfl) (of_decide_eq_true (by kernel_rfl)) k1 bel lt1) (trodAll_cons_mk (Below.trod laidOut (by kernel_rfl) (of_decide_eq_true (by kernel_rfl)) k2 bel lt2) trodAll_mk0))), rfl, bel.frame _, fun h => by cases h⟩

theorem over : Rows.SpanTimesSaid :=
  OpenClaim.holds_of_wide 5 Try.f5 rfl rfl rfl rfl rfl rfl rfl ⟨rfl, rfl, rfl, rfl, rfl⟩ rfl rfl rfl rfl rfl (by kernel_rfl) Try.func5 (by kernel_rfl)
    (of_decide_eq_true (by kernel_rfl)) (by unfold Func.isWrapper; rw [if_neg (of_decide_eq_false (by kernel_rfl))]; exact ⟨rfl, rfl⟩)
    (fun os started H enc _ => lifted os started H enc)


end Times
theorem spanTimes_holds : Rows.SpanTimesSaid := Times.over
end Go.Proofs.Ytojofkjnakiliaa
