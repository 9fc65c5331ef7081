/- SpanParts of layer 20 is true for every input, and leaves its arguments as they were; no condition. (Written by wip/tools/genspanparts.py.) -/
import Derived.Test.YtojofkjnakiliaaS14
namespace Go.Proofs.Ytojofkjnakiliaa
open Go.ChangeShapes Go.WideShapes Go.ChangeAt Go.RowKit Go.Joins Go.Shelf
open Go.ChangeMaps (open_string shut_string)
open SpP
namespace Parts
set_option linter.unusedVariables false

set_option maxHeartbeats 1000000 in
set_option maxRecDepth 100000 in
theorem walk_1 {va vb vc : Value} {a b c : List Sp} {w : World} (ha : SlS va a w) (hb : SlS vb b w) (hc : SlS vc c w) (LA : Hid (a.length ≤ maxLen)) (LB : Hid (b.length ≤ maxLen)) (LC : Hid (c.length ≤ maxLen)) (FA : Hid (decide (a.length ≤ 60) = false)) :
    Calls Try.prog 6 #[va, vb, vc] w fun e w' => e = .returned (.bool true) ∧ RowKit.Below w.heap.size w w' := by
  have H0 := Lib.hid ((((AllS.start w).add ha).add hb).add hc)
  obtain ⟨pa, ca, rfl⟩ := ha.form
  obtain ⟨pb, cb, rfl⟩ := hb.form
  obtain ⟨pc, cc, rfl⟩ := hc.form
  clear ha hb hc
  go_enter Try.func6, Try.ntmps6
  go_wp2_with fail
  refine (head_any _).mono ?_
  rintro e w1 ⟨rfl, hb⟩
  have H2 := Lib.hid (H0.out.step hb)
  clear H0
  clear hb
  go_wp2_with fail
  have hN := few_sl (H2.out.nth 2 rfl) LA.out
  rw [FA.out] at hN
  refine hN.mono ?_
  clear hN
  rintro e w3 ⟨rfl, hb⟩
  have H4 := Lib.hid (H2.out.step hb)
  clear H2
  clear hb
  go_wp2
  go_ret
  exact ⟨rfl, H4.out.1⟩
set_option maxHeartbeats 1000000 in
set_option maxRecDepth 100000 in
theorem walk_2 {va vb vc : Value} {a b c : List Sp} {w : World} (ha : SlS va a w) (hb : SlS vb b w) (hc : SlS vc c w) (LA : Hid (a.length ≤ maxLen)) (LB : Hid (b.length ≤ maxLen)) (LC : Hid (c.length ≤ maxLen)) (FA : Hid (decide (a.length ≤ 60) = true)) (FB : Hid (decide (b.length ≤ 60) = false)) :
    Calls Try.prog 6 #[va, vb, vc] w fun e w' => e = .returned (.bool true) ∧ RowKit.Below w.heap.size w w' := by
  have H0 := Lib.hid ((((AllS.start w).add ha).add hb).add hc)
  obtain ⟨pa, ca, rfl⟩ := ha.form
  obtain ⟨pb, cb, rfl⟩ := hb.form
  obtain ⟨pc, cc, rfl⟩ := hc.form
  clear ha hb hc
  go_enter Try.func6, Try.ntmps6
  go_wp2_with fail
  refine (head_any _).mono ?_
  rintro e w1 ⟨rfl, hb⟩
  have H2 := Lib.hid (H0.out.step hb)
  clear H0
  clear hb
  go_wp2_with fail
  have hN := few_sl (H2.out.nth 2 rfl) LA.out
  rw [FA.out] at hN
  refine hN.mono ?_
  clear hN
  rintro e w3 ⟨rfl, hb⟩
  have H4 := Lib.hid (H2.out.step hb)
  clear H2
  clear hb
  go_wp2_with fail
  have hN := few_sl (H4.out.nth 1 rfl) LB.out
  rw [FB.out] at hN
  refine hN.mono ?_
  clear hN
  rintro e w5 ⟨rfl, hb⟩
  have H6 := Lib.hid (H4.out.step hb)
  clear H4
  clear hb
  go_wp2
  go_ret
  exact ⟨rfl, H6.out.1⟩
set_option maxHeartbeats 1000000 in
set_option maxRecDepth 100000 in
theorem walk_3 {va vb vc : Value} {a b c : List Sp} {w : World} (ha : SlS va a w) (hb : SlS vb b w) (hc : SlS vc c w) (LA : Hid (a.length ≤ maxLen)) (LB : Hid (b.length ≤ maxLen)) (LC : Hid (c.length ≤ maxLen)) (FA : Hid (decide (a.length ≤ 60) = true)) (FB : Hid (decide (b.length ≤ 60) = true)) (FC : Hid (decide (c.length ≤ 60) = false)) :
    Calls Try.prog 6 #[va, vb, vc] w fun e w' => e = .returned (.bool true) ∧ RowKit.Below w.heap.size w w' := by
  have H0 := Lib.hid ((((AllS.start w).add ha).add hb).add hc)
  obtain ⟨pa, ca, rfl⟩ := ha.form
  obtain ⟨pb, cb, rfl⟩ := hb.form
  obtain ⟨pc, cc, rfl⟩ := hc.form
  clear ha hb hc
  go_enter Try.func6, Try.ntmps6
  go_wp2_with fail
  refine (head_any _).mono ?_
  rintro e w1 ⟨rfl, hb⟩
  have H2 := Lib.hid (H0.out.step hb)
  clear H0
  clear hb
  go_wp2_with fail
  have hN := few_sl (H2.out.nth 2 rfl) LA.out
  rw [FA.out] at hN
  refine hN.mono ?_
  clear hN
  rintro e w3 ⟨rfl, hb⟩
  have H4 := Lib.hid (H2.out.step hb)
  clear H2
  clear hb
  go_wp2_with fail
  have hN := few_sl (H4.out.nth 1 rfl) LB.out
  rw [FB.out] at hN
  refine hN.mono ?_
  clear hN
  rintro e w5 ⟨rfl, hb⟩
  have H6 := Lib.hid (H4.out.step hb)
  clear H4
  clear hb
  go_wp2_with fail
  have hN := few_sl (H6.out.nth 0 rfl) LC.out
  rw [FC.out] at hN
  refine hN.mono ?_
  clear hN
  rintro e w7 ⟨rfl, hb⟩
  have H8 := Lib.hid (H6.out.step hb)
  clear H6
  clear hb
  go_wp2
  go_ret
  exact ⟨rfl, H8.out.1⟩
set_option maxHeartbeats 1000000 in
set_option maxRecDepth 100000 in
theorem walk_4 {va vb vc : Value} {a b c : List Sp} {w : World} (ha : SlS va a w) (hb : SlS vb b w) (hc : SlS vc c w) (LA : Hid (a.length ≤ maxLen)) (LB : Hid (b.length ≤ maxLen)) (LC : Hid (c.length ≤ maxLen)) (FA : Hid (decide (a.length ≤ 60) = true)) (FB : Hid (decide (b.length ≤ 60) = true)) (FC : Hid (decide (c.length ≤ 60) = true)) (VA : Hid (validB a = false)) :
    Calls Try.prog 6 #[va, vb, vc] w fun e w' => e = .returned (.bool true) ∧ RowKit.Below w.heap.size w w' := by
  have H0 := Lib.hid ((((AllS.start w).add ha).add hb).add hc)
  obtain ⟨pa, ca, rfl⟩ := ha.form
  obtain ⟨pb, cb, rfl⟩ := hb.form
  obtain ⟨pc, cc, rfl⟩ := hc.form
  clear ha hb hc
  go_enter Try.func6, Try.ntmps6
  go_wp2_with fail
  refine (head_any _).mono ?_
  rintro e w1 ⟨rfl, hb⟩
  have H2 := Lib.hid (H0.out.step hb)
  clear H0
  clear hb
  go_wp2_with fail
  have hN := few_sl (H2.out.nth 2 rfl) LA.out
  rw [FA.out] at hN
  refine hN.mono ?_
  clear hN
  rintro e w3 ⟨rfl, hb⟩
  have H4 := Lib.hid (H2.out.step hb)
  clear H2
  clear hb
  go_wp2_with fail
  have hN := few_sl (H4.out.nth 1 rfl) LB.out
  rw [FB.out] at hN
  refine hN.mono ?_
  clear hN
  rintro e w5 ⟨rfl, hb⟩
  have H6 := Lib.hid (H4.out.step hb)
  clear H4
  clear hb
  go_wp2_with fail
  have hN := few_sl (H6.out.nth 0 rfl) LC.out
  rw [FC.out] at hN
  refine hN.mono ?_
  clear hN
  rintro e w7 ⟨rfl, hb⟩
  have H8 := Lib.hid (H6.out.step hb)
  clear H6
  clear hb
  go_wp2_with fail
  have hN := rvalid_any (H8.out.nth 2 rfl) LA.out
  rw [VA.out] at hN
  refine hN.mono ?_
  clear hN
  rintro e w9 ⟨rfl, hb⟩
  have H10 := Lib.hid (H8.out.step hb)
  clear H8
  clear hb
  go_wp2
  go_ret
  exact ⟨rfl, H10.out.1⟩
set_option maxHeartbeats 1000000 in
set_option maxRecDepth 100000 in
theorem walk_5 {va vb vc : Value} {a b c : List Sp} {w : World} (ha : SlS va a w) (hb : SlS vb b w) (hc : SlS vc c w) (LA : Hid (a.length ≤ maxLen)) (LB : Hid (b.length ≤ maxLen)) (LC : Hid (c.length ≤ maxLen)) (FA : Hid (decide (a.length ≤ 60) = true)) (FB : Hid (decide (b.length ≤ 60) = true)) (FC : Hid (decide (c.length ≤ 60) = true)) (VA : Hid (validB a = true)) (VB : Hid (validB b = false)) :
    Calls Try.prog 6 #[va, vb, vc] w fun e w' => e = .returned (.bool true) ∧ RowKit.Below w.heap.size w w' := by
  have H0 := Lib.hid ((((AllS.start w).add ha).add hb).add hc)
  obtain ⟨pa, ca, rfl⟩ := ha.form
  obtain ⟨pb, cb, rfl⟩ := hb.form
  obtain ⟨pc, cc, rfl⟩ := hc.form
  clear ha hb hc
  go_enter Try.func6, Try.ntmps6
  go_wp2_with fail
  refine (head_any _).mono ?_
  rintro e w1 ⟨rfl, hb⟩
  have H2 := Lib.hid (H0.out.step hb)
  clear H0
  clear hb
  go_wp2_with fail
  have hN := few_sl (H2.out.nth 2 rfl) LA.out
  rw [FA.out] at hN
  refine hN.mono ?_
  clear hN
  rintro e w3 ⟨rfl, hb⟩
  have H4 := Lib.hid (H2.out.step hb)
  clear H2
  clear hb
  go_wp2_with fail
  have hN := few_sl (H4.out.nth 1 rfl) LB.out
  rw [FB.out] at hN
  refine hN.mono ?_
  clear hN
  rintro e w5 ⟨rfl, hb⟩
  have H6 := Lib.hid (H4.out.step hb)
  clear H4
  clear hb
  go_wp2_with fail
  have hN := few_sl (H6.out.nth 0 rfl) LC.out
  rw [FC.out] at hN
  refine hN.mono ?_
  clear hN
  rintro e w7 ⟨rfl, hb⟩
  have H8 := Lib.hid (H6.out.step hb)
  clear H6
  clear hb
  go_wp2_with fail
  have hN := rvalid_any (H8.out.nth 2 rfl) LA.out
  rw [VA.out] at hN
  refine hN.mono ?_
  clear hN
  rintro e w9 ⟨rfl, hb⟩
  have H10 := Lib.hid (H8.out.step hb)
  clear H8
  clear hb
  go_wp2_with fail
  have hN := rvalid_any (H10.out.nth 1 rfl) LB.out
  rw [VB.out] at hN
  refine hN.mono ?_
  clear hN
  rintro e w11 ⟨rfl, hb⟩
  have H12 := Lib.hid (H10.out.step hb)
  clear H10
  clear hb
  go_wp2
  go_ret
  exact ⟨rfl, H12.out.1⟩
set_option maxHeartbeats 1000000 in
set_option maxRecDepth 100000 in
theorem walk_6 {va vb vc : Value} {a b c : List Sp} {w : World} (ha : SlS va a w) (hb : SlS vb b w) (hc : SlS vc c w) (LA : Hid (a.length ≤ maxLen)) (LB : Hid (b.length ≤ maxLen)) (LC : Hid (c.length ≤ maxLen)) (FA : Hid (decide (a.length ≤ 60) = true)) (FB : Hid (decide (b.length ≤ 60) = true)) (FC : Hid (decide (c.length ≤ 60) = true)) (VA : Hid (validB a = true)) (VB : Hid (validB b = true)) (VC : Hid (validB c = false)) :
    Calls Try.prog 6 #[va, vb, vc] w fun e w' => e = .returned (.bool true) ∧ RowKit.Below w.heap.size w w' := by
  have H0 := Lib.hid ((((AllS.start w).add ha).add hb).add hc)
  obtain ⟨pa, ca, rfl⟩ := ha.form
  obtain ⟨pb, cb, rfl⟩ := hb.form
  obtain ⟨pc, cc, rfl⟩ := hc.form
  clear ha hb hc
  go_enter Try.func6, Try.ntmps6
  go_wp2_with fail
  refine (head_any _).mono ?_
  rintro e w1 ⟨rfl, hb⟩
  have H2 := Lib.hid (H0.out.step hb)
  clear H0
  clear hb
  go_wp2_with fail
  have hN := few_sl (H2.out.nth 2 rfl) LA.out
  rw [FA.out] at hN
  refine hN.mono ?_
  clear hN
  rintro e w3 ⟨rfl, hb⟩
  have H4 := Lib.hid (H2.out.step hb)
  clear H2
  clear hb
  go_wp2_with fail
  have hN := few_sl (H4.out.nth 1 rfl) LB.out
  rw [FB.out] at hN
  refine hN.mono ?_
  clear hN
  rintro e w5 ⟨rfl, hb⟩
  have H6 := Lib.hid (H4.out.step hb)
  clear H4
  clear hb
  go_wp2_with fail
  have hN := few_sl (H6.out.nth 0 rfl) LC.out
  rw [FC.out] at hN
  refine hN.mono ?_
  clear hN
  rintro e w7 ⟨rfl, hb⟩
  have H8 := Lib.hid (H6.out.step hb)
  clear H6
  clear hb
  go_wp2_with fail
  have hN := rvalid_any (H8.out.nth 2 rfl) LA.out
  rw [VA.out] at hN
  refine hN.mono ?_
  clear hN
  rintro e w9 ⟨rfl, hb⟩
  have H10 := Lib.hid (H8.out.step hb)
  clear H8
  clear hb
  go_wp2_with fail
  have hN := rvalid_any (H10.out.nth 1 rfl) LB.out
  rw [VB.out] at hN
  refine hN.mono ?_
  clear hN
  rintro e w11 ⟨rfl, hb⟩
  have H12 := Lib.hid (H10.out.step hb)
  clear H10
  clear hb
  go_wp2_with fail
  have hN := rvalid_any (H12.out.nth 0 rfl) LC.out
  rw [VC.out] at hN
  refine hN.mono ?_
  clear hN
  rintro e w13 ⟨rfl, hb⟩
  have H14 := Lib.hid (H12.out.step hb)
  clear H12
  clear hb
  go_wp2
  go_ret
  exact ⟨rfl, H14.out.1⟩

set_option maxHeartbeats 4000000 in
set_option maxRecDepth 100000 in
theorem main {va vb vc : Value} {a b c x m y q : List Sp} {w : World} (ha : SlS va a w) (hb : SlS vb b w) (hc : SlS vc c w) (LA : Hid (a.length ≤ maxLen)) (LB : Hid (b.length ≤ maxLen)) (LC : Hid (c.length ≤ maxLen)) (FA : Hid (decide (a.length ≤ 60) = true)) (FB : Hid (decide (b.length ≤ 60) = true)) (FC : Hid (decide (c.length ≤ 60) = true)) (VA : Hid (validB a = true)) (VB : Hid (validB b = true)) (VC : Hid (validB c = true))
    (LX : Hid (x.length ≤ maxLen)) (LM : Hid (m.length ≤ maxLen)) (LY : Hid (y.length ≤ maxLen)) (LQ : Hid (q.length ≤ maxLen))
    (HX : Hid (bothR cX a b = (x, 0))) (HM : Hid (bothR cM a b = (m, 0))) (HALL : Hid (bothR cU x m = (a, 0))) (HNO : Hid (bothR cX x m = ([], 0))) (HY : Hid (bothR cU b c = (y, 0))) (HY2 : Hid (bothR cU c b = (y, 0))) (HZ : Hid (bothR cX b a = (x, 0))) (HP : Hid (bothR cM a y = (q, 0))) (HQ : Hid (bothR cM m c = (q, 0))) :
    Calls Try.prog 6 #[va, vb, vc] w fun e w' => e = .returned (.bool true) ∧ RowKit.Below w.heap.size w w' := by
  have H0 := Lib.hid ((((AllS.start w).add ha).add hb).add hc)
  obtain ⟨pa, ca, rfl⟩ := ha.form
  obtain ⟨pb, cb, rfl⟩ := hb.form
  obtain ⟨pc, cc, rfl⟩ := hc.form
  clear ha hb hc
  go_enter Try.func6, Try.ntmps6
  go_wp2_with fail
  refine (head_any _).mono ?_
  rintro e w1 ⟨rfl, hb⟩
  have H2 := Lib.hid (H0.out.step hb)
  clear H0
  clear hb
  go_wp2_with fail
  have hN := few_sl (H2.out.nth 2 rfl) LA.out
  rw [FA.out] at hN
  refine hN.mono ?_
  clear hN
  rintro e w3 ⟨rfl, hb⟩
  have H4 := Lib.hid (H2.out.step hb)
  clear H2
  clear hb
  go_wp2_with fail
  have hN := few_sl (H4.out.nth 1 rfl) LB.out
  rw [FB.out] at hN
  refine hN.mono ?_
  clear hN
  rintro e w5 ⟨rfl, hb⟩
  have H6 := Lib.hid (H4.out.step hb)
  clear H4
  clear hb
  go_wp2_with fail
  have hN := few_sl (H6.out.nth 0 rfl) LC.out
  rw [FC.out] at hN
  refine hN.mono ?_
  clear hN
  rintro e w7 ⟨rfl, hb⟩
  have H8 := Lib.hid (H6.out.step hb)
  clear H6
  clear hb
  go_wp2_with fail
  have hN := rvalid_any (H8.out.nth 2 rfl) LA.out
  rw [VA.out] at hN
  refine hN.mono ?_
  clear hN
  rintro e w9 ⟨rfl, hb⟩
  have H10 := Lib.hid (H8.out.step hb)
  clear H8
  clear hb
  go_wp2_with fail
  have hN := rvalid_any (H10.out.nth 1 rfl) LB.out
  rw [VB.out] at hN
  refine hN.mono ?_
  clear hN
  rintro e w11 ⟨rfl, hb⟩
  have H12 := Lib.hid (H10.out.step hb)
  clear H10
  clear hb
  go_wp2_with fail
  have hN := rvalid_any (H12.out.nth 0 rfl) LC.out
  rw [VC.out] at hN
  refine hN.mono ?_
  clear hN
  rintro e w13 ⟨rfl, hb⟩
  have H14 := Lib.hid (H12.out.step hb)
  clear H12
  clear hb
  go_wp2_with fail
  have hN := cross_any (H14.out.nth 2 rfl) (H14.out.nth 1 rfl) LA.out LB.out
  rw [HX.out] at hN
  refine hN.mono ?_
  clear hN
  rintro e w15 ⟨sl15, rfl, hs, hb⟩
  obtain ⟨p15, c15, rfl⟩ := hs.form
  have H16 := Lib.hid ((H14.out.step hb).add hs)
  clear H14
  clear hs hb
  go_wp2_with fail
  have hN := minus_any (H16.out.nth 3 rfl) (H16.out.nth 2 rfl) LA.out LB.out
  rw [HM.out] at hN
  refine hN.mono ?_
  clear hN
  rintro e w17 ⟨sl17, rfl, hs, hb⟩
  obtain ⟨p17, c17, rfl⟩ := hs.form
  have H18 := Lib.hid ((H16.out.step hb).add hs)
  clear H16
  clear hs hb
  go_wp2_with fail
  have hN := union_any (H18.out.nth 1 rfl) (H18.out.nth 0 rfl) LX.out LM.out
  rw [HALL.out] at hN
  refine hN.mono ?_
  clear hN
  rintro e w19 ⟨sl19, rfl, hs, hb⟩
  obtain ⟨p19, c19, rfl⟩ := hs.form
  have H20 := Lib.hid ((H18.out.step hb).add hs)
  clear H18
  clear hs hb
  go_wp2_with fail
  have hN := cross_any (H20.out.nth 2 rfl) (H20.out.nth 1 rfl) LX.out LM.out
  rw [HNO.out] at hN
  refine hN.mono ?_
  clear hN
  rintro e w21 ⟨sl21, rfl, hs, hb⟩
  obtain ⟨p21, c21, rfl⟩ := hs.formN 0 rfl
  have H22 := Lib.hid ((H20.out.step hb).add hs)
  clear H20
  clear hs hb
  go_wp2_with fail
  have hN := same_any (H22.out.nth 1 rfl) (H22.out.nth 6 rfl) LA.out
  rw [show decide (a = a) = true from decide_eq_true rfl] at hN
  refine hN.mono ?_
  clear hN
  rintro e w23 ⟨rfl, hb⟩
  have H24 := Lib.hid (H22.out.step hb)
  clear H22
  clear hb
  go_wp2_with fail
  have hN := union_any (H24.out.nth 5 rfl) (H24.out.nth 4 rfl) LB.out LC.out
  rw [HY.out] at hN
  refine hN.mono ?_
  clear hN
  rintro e w25 ⟨sl25, rfl, hs, hb⟩
  obtain ⟨p25, c25, rfl⟩ := hs.form
  have H26 := Lib.hid ((H24.out.step hb).add hs)
  clear H24
  clear hs hb
  go_wp2_with fail
  have hN := union_any (H26.out.nth 5 rfl) (H26.out.nth 6 rfl) LC.out LB.out
  rw [HY2.out] at hN
  refine hN.mono ?_
  clear hN
  rintro e w27 ⟨sl27, rfl, hs, hb⟩
  obtain ⟨p27, c27, rfl⟩ := hs.form
  have H28 := Lib.hid ((H26.out.step hb).add hs)
  clear H26
  clear hs hb
  go_wp2_with fail
  have hN := cross_any (H28.out.nth 7 rfl) (H28.out.nth 8 rfl) LB.out LA.out
  rw [HZ.out] at hN
  refine hN.mono ?_
  clear hN
  rintro e w29 ⟨sl29, rfl, hs, hb⟩
  obtain ⟨p29, c29, rfl⟩ := hs.form
  have H30 := Lib.hid ((H28.out.step hb).add hs)
  clear H28
  clear hs hb
  go_wp2_with fail
  have hN := minus_any (H30.out.nth 9 rfl) (H30.out.nth 2 rfl) LA.out LY.out
  rw [HP.out] at hN
  refine hN.mono ?_
  clear hN
  rintro e w31 ⟨sl31, rfl, hs, hb⟩
  obtain ⟨p31, c31, rfl⟩ := hs.form
  have H32 := Lib.hid ((H30.out.step hb).add hs)
  clear H30
  clear hs hb
  go_wp2_with fail
  have hN := minus_any (H32.out.nth 6 rfl) (H32.out.nth 8 rfl) LM.out LC.out
  rw [HQ.out] at hN
  refine hN.mono ?_
  clear hN
  rintro e w33 ⟨sl33, rfl, hs, hb⟩
  obtain ⟨p33, c33, rfl⟩ := hs.form
  have H34 := Lib.hid ((H32.out.step hb).add hs)
  clear H32
  clear hs hb
  go_wp2_with fail
  have hN := same_any (H34.out.nth 4 rfl) (H34.out.nth 3 rfl) LY.out
  rw [show decide (y = y) = true from decide_eq_true rfl] at hN
  refine hN.mono ?_
  clear hN
  rintro e w35 ⟨rfl, hb⟩
  have H36 := Lib.hid (H34.out.step hb)
  clear H34
  clear hb
  go_wp2_with fail
  have hN := same_any (H36.out.nth 2 rfl) (H36.out.nth 8 rfl) LX.out
  rw [show decide (x = x) = true from decide_eq_true rfl] at hN
  refine hN.mono ?_
  clear hN
  rintro e w37 ⟨rfl, hb⟩
  have H38 := Lib.hid (H36.out.step hb)
  clear H36
  clear hb
  go_wp2_with fail
  have hN := same_any (H38.out.nth 1 rfl) (H38.out.nth 0 rfl) LQ.out
  rw [show decide (q = q) = true from decide_eq_true rfl] at hN
  refine hN.mono ?_
  clear hN
  rintro e w39 ⟨rfl, hb⟩
  have H40 := Lib.hid (H38.out.step hb)
  clear H38
  clear hb
  go_wp2
  go_ret
  exact ⟨rfl, H40.out.1⟩

theorem walk (a : Option Addr) (na ca : Nat) (b : Option Addr) (nb cb : Nat) (c : Option Addr) (nc cc : Nat) (w : World) (ha : ∃ l : List Sp, l.length = na ∧ SlS (.slice a na ca) l w ∧ l.length ≤ maxLen) (hb : ∃ l : List Sp, l.length = nb ∧ SlS (.slice b nb cb) l w ∧ l.length ≤ maxLen) (hc : ∃ l : List Sp, l.length = nc ∧ SlS (.slice c nc cc) l w ∧ l.length ≤ maxLen) :
    Calls Try.prog 6 #[.slice a na ca, .slice b nb cb, .slice c nc cc] w fun e w' => e = .returned (.bool true) ∧ RowKit.Below w.heap.size w w' := by
  obtain ⟨la, _, sa, ma⟩ := ha
  obtain ⟨lb, _, sb, mb⟩ := hb
  obtain ⟨lc, _, sc, mc⟩ := hc
  have LA := Lib.hid ma
  have LB := Lib.hid mb
  have LC := Lib.hid mc
  cases fa : decide (la.length ≤ 60)
  · exact walk_1 sa sb sc LA LB LC (Lib.hid fa)
  cases fb : decide (lb.length ≤ 60)
  · exact walk_2 sa sb sc LA LB LC (Lib.hid fa) (Lib.hid fb)
  cases fc : decide (lc.length ≤ 60)
  · exact walk_3 sa sb sc LA LB LC (Lib.hid fa) (Lib.hid fb) (Lib.hid fc)
  cases va : validB la
  · exact walk_4 sa sb sc LA LB LC (Lib.hid fa) (Lib.hid fb) (Lib.hid fc) (Lib.hid va)
  cases vb : validB lb
  · exact walk_5 sa sb sc LA LB LC (Lib.hid fa) (Lib.hid fb) (Lib.hid fc) (Lib.hid va) (Lib.hid vb)
  cases vc : validB lc
  · exact walk_6 sa sb sc LA LB LC (Lib.hid fa) (Lib.hid fb) (Lib.hid fc) (Lib.hid va) (Lib.hid vb) (Lib.hid vc)
  have hla := of_decide_eq_true fa
  have hlb := of_decide_eq_true fb
  have hlc := of_decide_eq_true fc
  have xa := ((validB_iff la).1 va).2
  have xb := ((validB_iff lb).1 vb).2
  have xc := ((validB_iff lc).1 vc).2
  obtain ⟨x1, x2, x3⟩ := both_ok (c := cX) rfl xa xb (by omega) (by omega)
  obtain ⟨m1, m2, m3⟩ := both_ok (c := cM) rfl xa xb (by omega) (by omega)
  obtain ⟨a1, a2, a3⟩ := both_ok (c := cU) rfl x3 m3 (by omega) (by omega)
  obtain ⟨n1, n2, n3⟩ := both_ok (c := cX) rfl x3 m3 (by omega) (by omega)
  obtain ⟨y1, y2, y3⟩ := both_ok (c := cU) rfl xb xc (by omega) (by omega)
  obtain ⟨d1, d2, d3⟩ := both_ok (c := cU) rfl xc xb (by omega) (by omega)
  obtain ⟨z1, z2, z3⟩ := both_ok (c := cX) rfl xb xa (by omega) (by omega)
  obtain ⟨p1, p2, p3⟩ := both_ok (c := cM) rfl xa y3 (by omega) (by omega)
  obtain ⟨q1, q2, q3⟩ := both_ok (c := cM) rfl m3 xc (by omega) (by omega)
  rw [parts_all xa xb] at a1
  rw [parts_none xa xb] at n1
  rw [uni_comm xc xb] at d1
  rw [crs_comm xb xa] at z1
  rw [minus_uni xa xb xc] at p1 p2
  exact main sa sb sc LA LB LC (Lib.hid fa) (Lib.hid fb) (Lib.hid fc) (Lib.hid va) (Lib.hid vb) (Lib.hid vc) (Lib.hid (lenS (n := 240) (by omega) (by omega))) (Lib.hid (lenS (n := 240) (by omega) (by omega))) (Lib.hid (lenS (n := 240) (by omega) (by omega))) (Lib.hid (lenS (n := 1000) (by omega) (by omega))) (Lib.hid x1) (Lib.hid m1) (Lib.hid a1) (Lib.hid n1) (Lib.hid y1) (Lib.hid d1) (Lib.hid z1) (Lib.hid p1) (Lib.hid q1)

theorem own : ownKnob Try.prog.godebug = none := by kernel_rfl
theorem laidOut : laidOutB Try.prog = true := by kernel_rfl

set_option maxRecDepth 100000 in
theorem lifted (os : Os) (started : os.Started) (H : Type) (enc : TypeId × Value → H) :
    ReturnsInHanded {} Try.checked os 6 .any (Rows.spanPartsSpec.pre6 enc Try.prog Try.f6 Rows.spanPartsRow.domain false) (Rows.spanPartsSpec.post enc Try.prog Try.f6 false true false false) := by
  refine returnsInHanded_of_change (C := Try.checked) own started (by kernel_rfl) Try.func6
    (ChangeSpec.witness6 (enc := enc) (C := Try.checked) false ⟨#[], #[.slice none 0 0, .slice none 0 0, .slice none 0 0], []⟩ 8 (by kernel_rfl) (by kernel_rfl) (by kernel_rfl) (by kernel_rfl)) ?_
  intro W base args ds gs before hval0 hW hcnd _
  have hval : ∀ (j : Nat) t v, Try.f6.params[j]? = some t → args[j]? = some v → Value.okWide Try.prog W .any base t v := hval0
  have hW' := hW
  obtain ⟨p, q, hA0, hV, rfl, hfz, hnd⟩ := hW
  have hA : DataW.TrodAll enc Try.prog W 0 (fun _ => true) true Try.f6.params.toList args.toList ds p := hA0
  rw [Try.params6] at hA hval
  obtain ⟨v0, vs0, d0, ds0, p0, q0, hargs, rfl, rfl, h0, r0⟩ := trodAll_cons hA
  obtain ⟨v1, vs1, d1, ds1, p1, q1, rfl, rfl, rfl, h1, r1⟩ := trodAll_cons r0
  obtain ⟨v2, vs2, d2, ds2, p2, q2, rfl, rfl, rfl, h2, r2⟩ := trodAll_cons r1
  obtain ⟨rfl, rfl, rfl⟩ := trodAll_nil r2
  obtain rfl : args = #[v0, v1, v2] := by cases args; simp_all
  obtain ⟨rfl, rfl⟩ := trodVars_none hV
  have k0 := h0
  have lt0 : ∀ x ∈ p0, x.block < W.heap.size := by obtain ⟨m, hm⟩ := k0; exact DataW.trod_lt m _ _ _ hm
  have k1 := h1
  have lt1 : ∀ x ∈ p1, x.block < W.heap.size := by obtain ⟨m, hm⟩ := k1; exact DataW.trod_lt m _ _ _ hm
  have k2 := h2
  have lt2 : ∀ x ∈ p2, x.block < W.heap.size := by obtain ⟨m, hm⟩ := k2; exact DataW.trod_lt m _ _ _ hm
  obtain ⟨a0, len0, cap0, rfl⟩ := okWide_slice Try.underlying22 (hval 0 22 v0 rfl rfl)
  have w0 := open_spans h0
  obtain ⟨a1, len1, cap1, rfl⟩ := okWide_slice Try.underlying22 (hval 1 22 v1 rfl rfl)
  have w1 := open_spans h1
  obtain ⟨a2, len2, cap2, rfl⟩ := okWide_slice Try.underlying22 (hval 2 22 v2 rfl rfl)
  have w2 := open_spans h2
  clear hA0 hval0
  refine (walk a0 len0 cap0 a1 len1 cap1 a2 len2 cap2 W w0 w1 w2).mono fun e W' ⟨he, bel⟩ => ?_
  subst he
  exact ⟨_, rfl, _, _, _, [], _, [], hW', trodAll_mk1 (shut_bool Try.underlying4 _), (trodAll_cons_mk (Below.trod laidOut (by kernel_rfl) (of_decide_eq_true (by kernel_rfl)) k0 bel lt0) (trodAll_cons_mk (Below.trod laidOut (by kernel_rfl) (of_decide_eq_true (by kernel_rfl)) k1 bel lt1) (trodAll_cons_mk (Below.trod laidOut (by kernel_rfl) (of_decide_eq_true (by kernel_rfl)) k2 bel lt2) trodAll_mk0))), rfl, bel.frame _, fun h => by cases h⟩

theorem over : Rows.SpanPartsSaid :=
  OpenClaim.holds_of_wide 6 Try.f6 rfl rfl rfl rfl rfl rfl rfl ⟨rfl, rfl, rfl, rfl, rfl⟩ rfl rfl rfl rfl rfl (by kernel_rfl) Try.func6 (by kernel_rfl)
    (of_decide_eq_true (by kernel_rfl)) (by unfold Func.isWrapper; rw [if_neg (of_decide_eq_false (by kernel_rfl))]; exact ⟨rfl, rfl⟩)
    (fun os started H enc _ => lifted os started H enc)


end Parts
theorem spanParts_holds : Rows.SpanPartsSaid := Parts.over
end Go.Proofs.Ytojofkjnakiliaa
