/- SpanMatchesReference of layer 20 is true for every input, and leaves its arguments as they were; no condition. (Written by wip/tools/genspanmatch.py.) -/
import Derived.Test.YtojofkjnakiliaaS21
namespace Go.Proofs.Ytojofkjnakiliaa
open Go.ChangeShapes Go.WideShapes Go.ChangeAt Go.RowKit Go.Joins Go.Shelf
open Go.ChangeMaps (open_string shut_string)
open SpP
namespace MatchesReference
set_option linter.unusedVariables false

set_option maxHeartbeats 1000000 in
set_option maxRecDepth 100000 in
theorem walk_1 {va vb : Value} {a b : List Sp} {w : World} (ha : SlS va a w) (hb : SlS vb b w) (x y t : Int) (LA : Hid (a.length ≤ maxLen)) (LB : Hid (b.length ≤ maxLen)) (FA : Hid (decide (a.length ≤ 60) = false)) :
    Calls Try.prog 3 #[va, vb, .int .i64 x, .int .i64 y, .int .i64 t] w fun e w' => e = .returned (.bool true) ∧ RowKit.Below w.heap.size w w' := by
  have H0 := Lib.hid (((AllS.start w).add ha).add hb)
  obtain ⟨pa, ca, rfl⟩ := ha.form
  obtain ⟨pb, cb, rfl⟩ := hb.form
  clear ha hb
  go_enter Try.func3, Try.ntmps3
  go_wp2_with fail
  refine (head_any _).mono ?_
  rintro e w1 ⟨rfl, hb⟩
  have H2 := Lib.hid (H0.out.step hb)
  clear H0
  clear hb
  go_wp2_with fail
  have hN := few_sl (H2.out.nth 1 rfl) LA.out
  rw [FA.out] at hN
  refine hN.mono ?_
  clear hN
  rintro e w3 ⟨rfl, hb⟩
  have H4 := Lib.hid (H2.out.step hb)
  clear H2
  clear hb
  go_wp2
  go_ret
  exact ⟨rfl, H4.out.1⟩
set_option maxHeartbeats 1000000 in
set_option maxRecDepth 100000 in
theorem walk_2 {va vb : Value} {a b : List Sp} {w : World} (ha : SlS va a w) (hb : SlS vb b w) (x y t : Int) (LA : Hid (a.length ≤ maxLen)) (LB : Hid (b.length ≤ maxLen)) (FA : Hid (decide (a.length ≤ 60) = true)) (FB : Hid (decide (b.length ≤ 60) = false)) :
    Calls Try.prog 3 #[va, vb, .int .i64 x, .int .i64 y, .int .i64 t] w fun e w' => e = .returned (.bool true) ∧ RowKit.Below w.heap.size w w' := by
  have H0 := Lib.hid (((AllS.start w).add ha).add hb)
  obtain ⟨pa, ca, rfl⟩ := ha.form
  obtain ⟨pb, cb, rfl⟩ := hb.form
  clear ha hb
  go_enter Try.func3, Try.ntmps3
  go_wp2_with fail
  refine (head_any _).mono ?_
  rintro e w1 ⟨rfl, hb⟩
  have H2 := Lib.hid (H0.out.step hb)
  clear H0
  clear hb
  go_wp2_with fail
  have hN := few_sl (H2.out.nth 1 rfl) LA.out
  rw [FA.out] at hN
  refine hN.mono ?_
  clear hN
  rintro e w3 ⟨rfl, hb⟩
  have H4 := Lib.hid (H2.out.step hb)
  clear H2
  clear hb
  go_wp2_with fail
  have hN := few_sl (H4.out.nth 0 rfl) LB.out
  rw [FB.out] at hN
  refine hN.mono ?_
  clear hN
  rintro e w5 ⟨rfl, hb⟩
  have H6 := Lib.hid (H4.out.step hb)
  clear H4
  clear hb
  go_wp2
  go_ret
  exact ⟨rfl, H6.out.1⟩

set_option maxHeartbeats 4000000 in
set_option maxRecDepth 100000 in
theorem main_00 {va vb : Value} {a b n u c m g : List Sp} {kn ku kc km kg : Nat} {w : World} (ha : SlS va a w) (hb : SlS vb b w) (x y t : Int) (LA : Hid (a.length ≤ maxLen)) (LB : Hid (b.length ≤ maxLen)) (FA : Hid (decide (a.length ≤ 60) = true)) (FB : Hid (decide (b.length ≤ 60) = true)) (KA : Hid (a.length ≤ 900)) (KB : Hid (b.length ≤ 900))
    (LN : Hid (n.length ≤ maxLen)) (LU : Hid (u.length ≤ maxLen)) (LC : Hid (c.length ≤ maxLen)) (LM : Hid (m.length ≤ maxLen)) (LG : Hid (g.length ≤ maxLen))
    (HN : Hid (normR a = (n, kn))) (HU : Hid (bothR cU a b = (u, ku))) (HC : Hid (bothR cX a b = (c, kc))) (HM : Hid (bothR cM a b = (m, km))) (HG : Hid (growR a x y = (g, kg))) (VA : Hid (validB a = false)) (TA : Hid (hasS a t = false)) :
    Calls Try.prog 3 #[va, vb, .int .i64 x, .int .i64 y, .int .i64 t] w fun e w' => e = .returned (.bool true) ∧ RowKit.Below w.heap.size w w' := by
  have H0 := Lib.hid (((AllS.start w).add ha).add hb)
  obtain ⟨pa, ca, rfl⟩ := ha.form
  obtain ⟨pb, cb, rfl⟩ := hb.form
  clear ha hb
  go_enter Try.func3, Try.ntmps3
  go_wp2_with fail
  refine (head_any _).mono ?_
  rintro e w1 ⟨rfl, hb⟩
  have H2 := Lib.hid (H0.out.step hb)
  clear H0
  clear hb
  go_wp2_with fail
  have hN := few_sl (H2.out.nth 1 rfl) LA.out
  rw [FA.out] at hN
  refine hN.mono ?_
  clear hN
  rintro e w3 ⟨rfl, hb⟩
  have H4 := Lib.hid (H2.out.step hb)
  clear H2
  clear hb
  go_wp2_with fail
  have hN := few_sl (H4.out.nth 0 rfl) LB.out
  rw [FB.out] at hN
  refine hN.mono ?_
  clear hN
  rintro e w5 ⟨rfl, hb⟩
  have H6 := Lib.hid (H4.out.step hb)
  clear H4
  clear hb
  go_wp2_with fail
  have hN := normal_any (H6.out.nth 1 rfl) LA.out
  rw [HN.out] at hN
  refine hN.mono ?_
  clear hN
  rintro e w7 ⟨sl7, rfl, hs, hb⟩
  obtain ⟨p7, c7, rfl⟩ := hs.form
  have H8 := Lib.hid ((H6.out.step hb).add hs)
  clear H6
  clear hs hb
  go_wp2_with fail
  have hN := rnormal_any (H8.out.nth 2 rfl) KA.out
  rw [HN.out] at hN
  refine hN.mono ?_
  clear hN
  rintro e w9 ⟨sl9, rfl, hs, hb⟩
  obtain ⟨p9, c9, rfl⟩ := hs.form
  have H10 := Lib.hid ((H8.out.step hb).add hs)
  clear H8
  clear hs hb
  go_wp2_with fail
  have hN := same_any (H10.out.nth 1 rfl) (H10.out.nth 0 rfl) LN.out
  rw [show decide (n = n) = true from decide_eq_true rfl] at hN
  refine hN.mono ?_
  clear hN
  rintro e w11 ⟨rfl, hb⟩
  have H12 := Lib.hid (H10.out.step hb)
  clear H10
  clear hb
  go_wp2_with fail
  have hN := union_any (H12.out.nth 3 rfl) (H12.out.nth 2 rfl) LA.out LB.out
  rw [HU.out] at hN
  refine hN.mono ?_
  clear hN
  rintro e w13 ⟨sl13, rfl, hs, hb⟩
  obtain ⟨p13, c13, rfl⟩ := hs.form
  have H14 := Lib.hid ((H12.out.step hb).add hs)
  clear H12
  clear hs hb
  go_wp2_with fail
  have hN := runion_any (H14.out.nth 4 rfl) (H14.out.nth 3 rfl) KA.out KB.out
  rw [HU.out] at hN
  refine hN.mono ?_
  clear hN
  rintro e w15 ⟨sl15, rfl, hs, hb⟩
  obtain ⟨p15, c15, rfl⟩ := hs.form
  have H16 := Lib.hid ((H14.out.step hb).add hs)
  clear H14
  clear hs hb
  go_wp2_with fail
  have hN := same_any (H16.out.nth 1 rfl) (H16.out.nth 0 rfl) LU.out
  rw [show decide (u = u) = true from decide_eq_true rfl] at hN
  refine hN.mono ?_
  clear hN
  rintro e w17 ⟨rfl, hb⟩
  have H18 := Lib.hid (H16.out.step hb)
  clear H16
  clear hb
  go_wp2_with fail
  have hN := cross_any (H18.out.nth 5 rfl) (H18.out.nth 4 rfl) LA.out LB.out
  rw [HC.out] at hN
  refine hN.mono ?_
  clear hN
  rintro e w19 ⟨sl19, rfl, hs, hb⟩
  obtain ⟨p19, c19, rfl⟩ := hs.form
  have H20 := Lib.hid ((H18.out.step hb).add hs)
  clear H18
  clear hs hb
  go_wp2_with fail
  have hN := rcross_any (H20.out.nth 6 rfl) (H20.out.nth 5 rfl) KA.out KB.out
  rw [HC.out] at hN
  refine hN.mono ?_
  clear hN
  rintro e w21 ⟨sl21, rfl, hs, hb⟩
  obtain ⟨p21, c21, rfl⟩ := hs.form
  have H22 := Lib.hid ((H20.out.step hb).add hs)
  clear H20
  clear hs hb
  go_wp2_with fail
  have hN := same_any (H22.out.nth 1 rfl) (H22.out.nth 0 rfl) LC.out
  rw [show decide (c = c) = true from decide_eq_true rfl] at hN
  refine hN.mono ?_
  clear hN
  rintro e w23 ⟨rfl, hb⟩
  have H24 := Lib.hid (H22.out.step hb)
  clear H22
  clear hb
  go_wp2_with fail
  have hN := minus_any (H24.out.nth 7 rfl) (H24.out.nth 6 rfl) LA.out LB.out
  rw [HM.out] at hN
  refine hN.mono ?_
  clear hN
  rintro e w25 ⟨sl25, rfl, hs, hb⟩
  obtain ⟨p25, c25, rfl⟩ := hs.form
  have H26 := Lib.hid ((H24.out.step hb).add hs)
  clear H24
  clear hs hb
  go_wp2_with fail
  have hN := rminus_any (H26.out.nth 8 rfl) (H26.out.nth 7 rfl) KA.out KB.out
  rw [HM.out] at hN
  refine hN.mono ?_
  clear hN
  rintro e w27 ⟨sl27, rfl, hs, hb⟩
  obtain ⟨p27, c27, rfl⟩ := hs.form
  have H28 := Lib.hid ((H26.out.step hb).add hs)
  clear H26
  clear hs hb
  go_wp2_with fail
  have hN := same_any (H28.out.nth 1 rfl) (H28.out.nth 0 rfl) LM.out
  rw [show decide (m = m) = true from decide_eq_true rfl] at hN
  refine hN.mono ?_
  clear hN
  rintro e w29 ⟨rfl, hb⟩
  have H30 := Lib.hid (H28.out.step hb)
  clear H28
  clear hb
  go_wp2_with fail
  have hN := grow_any (H30.out.nth 9 rfl) LA.out x y
  rw [HG.out] at hN
  refine hN.mono ?_
  clear hN
  rintro e w31 ⟨sl31, rfl, hs, hb⟩
  obtain ⟨p31, c31, rfl⟩ := hs.form
  have H32 := Lib.hid ((H30.out.step hb).add hs)
  clear H30
  clear hs hb
  go_wp2_with fail
  have hN := rgrow_any (H32.out.nth 10 rfl) KA.out x y
  rw [HG.out] at hN
  refine hN.mono ?_
  clear hN
  rintro e w33 ⟨sl33, rfl, hs, hb⟩
  obtain ⟨p33, c33, rfl⟩ := hs.form
  have H34 := Lib.hid ((H32.out.step hb).add hs)
  clear H32
  clear hs hb
  go_wp2_with fail
  have hN := same_any (H34.out.nth 1 rfl) (H34.out.nth 0 rfl) LG.out
  rw [show decide (g = g) = true from decide_eq_true rfl] at hN
  refine hN.mono ?_
  clear hN
  rintro e w35 ⟨rfl, hb⟩
  have H36 := Lib.hid (H34.out.step hb)
  clear H34
  clear hb
  go_wp2_with fail
  have hN := valid_any (H36.out.nth 11 rfl) LA.out
  rw [VA.out] at hN
  refine hN.mono ?_
  clear hN
  rintro e w37 ⟨rfl, hb⟩
  have H38 := Lib.hid (H36.out.step hb)
  clear H36
  clear hb
  go_wp2_with fail
  have hN := rvalid_any (H38.out.nth 11 rfl) LA.out
  rw [VA.out] at hN
  refine hN.mono ?_
  clear hN
  rintro e w39 ⟨rfl, hb⟩
  have H40 := Lib.hid (H38.out.step hb)
  clear H38
  clear hb
  go_wp2_with fail
  have hN := has_any (H40.out.nth 11 rfl) LA.out t
  rw [TA.out] at hN
  refine hN.mono ?_
  clear hN
  rintro e w41 ⟨rfl, hb⟩
  have H42 := Lib.hid (H40.out.step hb)
  clear H40
  clear hb
  go_wp2_with fail
  have hN := rhas_any (H42.out.nth 11 rfl) LA.out t
  rw [TA.out] at hN
  refine hN.mono ?_
  clear hN
  rintro e w43 ⟨rfl, hb⟩
  have H44 := Lib.hid (H42.out.step hb)
  clear H42
  clear hb
  go_wp2
  go_ret
  exact ⟨rfl, H44.out.1⟩

set_option maxHeartbeats 4000000 in
set_option maxRecDepth 100000 in
theorem main_01 {va vb : Value} {a b n u c m g : List Sp} {kn ku kc km kg : Nat} {w : World} (ha : SlS va a w) (hb : SlS vb b w) (x y t : Int) (LA : Hid (a.length ≤ maxLen)) (LB : Hid (b.length ≤ maxLen)) (FA : Hid (decide (a.length ≤ 60) = true)) (FB : Hid (decide (b.length ≤ 60) = true)) (KA : Hid (a.length ≤ 900)) (KB : Hid (b.length ≤ 900))
    (LN : Hid (n.length ≤ maxLen)) (LU : Hid (u.length ≤ maxLen)) (LC : Hid (c.length ≤ maxLen)) (LM : Hid (m.length ≤ maxLen)) (LG : Hid (g.length ≤ maxLen))
    (HN : Hid (normR a = (n, kn))) (HU : Hid (bothR cU a b = (u, ku))) (HC : Hid (bothR cX a b = (c, kc))) (HM : Hid (bothR cM a b = (m, km))) (HG : Hid (growR a x y = (g, kg))) (VA : Hid (validB a = false)) (TA : Hid (hasS a t = true)) :
    Calls Try.prog 3 #[va, vb, .int .i64 x, .int .i64 y, .int .i64 t] w fun e w' => e = .returned (.bool true) ∧ RowKit.Below w.heap.size w w' := by
  have H0 := Lib.hid (((AllS.start w).add ha).add hb)
  obtain ⟨pa, ca, rfl⟩ := ha.form
  obtain ⟨pb, cb, rfl⟩ := hb.form
  clear ha hb
  go_enter Try.func3, Try.ntmps3
  go_wp2_with fail
  refine (head_any _).mono ?_
  rintro e w1 ⟨rfl, hb⟩
  have H2 := Lib.hid (H0.out.step hb)
  clear H0
  clear hb
  go_wp2_with fail
  have hN := few_sl (H2.out.nth 1 rfl) LA.out
  rw [FA.out] at hN
  refine hN.mono ?_
  clear hN
  rintro e w3 ⟨rfl, hb⟩
  have H4 := Lib.hid (H2.out.step hb)
  clear H2
  clear hb
  go_wp2_with fail
  have hN := few_sl (H4.out.nth 0 rfl) LB.out
  rw [FB.out] at hN
  refine hN.mono ?_
  clear hN
  rintro e w5 ⟨rfl, hb⟩
  have H6 := Lib.hid (H4.out.step hb)
  clear H4
  clear hb
  go_wp2_with fail
  have hN := normal_any (H6.out.nth 1 rfl) LA.out
  rw [HN.out] at hN
  refine hN.mono ?_
  clear hN
  rintro e w7 ⟨sl7, rfl, hs, hb⟩
  obtain ⟨p7, c7, rfl⟩ := hs.form
  have H8 := Lib.hid ((H6.out.step hb).add hs)
  clear H6
  clear hs hb
  go_wp2_with fail
  have hN := rnormal_any (H8.out.nth 2 rfl) KA.out
  rw [HN.out] at hN
  refine hN.mono ?_
  clear hN
  rintro e w9 ⟨sl9, rfl, hs, hb⟩
  obtain ⟨p9, c9, rfl⟩ := hs.form
  have H10 := Lib.hid ((H8.out.step hb).add hs)
  clear H8
  clear hs hb
  go_wp2_with fail
  have hN := same_any (H10.out.nth 1 rfl) (H10.out.nth 0 rfl) LN.out
  rw [show decide (n = n) = true from decide_eq_true rfl] at hN
  refine hN.mono ?_
  clear hN
  rintro e w11 ⟨rfl, hb⟩
  have H12 := Lib.hid (H10.out.step hb)
  clear H10
  clear hb
  go_wp2_with fail
  have hN := union_any (H12.out.nth 3 rfl) (H12.out.nth 2 rfl) LA.out LB.out
  rw [HU.out] at hN
  refine hN.mono ?_
  clear hN
  rintro e w13 ⟨sl13, rfl, hs, hb⟩
  obtain ⟨p13, c13, rfl⟩ := hs.form
  have H14 := Lib.hid ((H12.out.step hb).add hs)
  clear H12
  clear hs hb
  go_wp2_with fail
  have hN := runion_any (H14.out.nth 4 rfl) (H14.out.nth 3 rfl) KA.out KB.out
  rw [HU.out] at hN
  refine hN.mono ?_
  clear hN
  rintro e w15 ⟨sl15, rfl, hs, hb⟩
  obtain ⟨p15, c15, rfl⟩ := hs.form
  have H16 := Lib.hid ((H14.out.step hb).add hs)
  clear H14
  clear hs hb
  go_wp2_with fail
  have hN := same_any (H16.out.nth 1 rfl) (H16.out.nth 0 rfl) LU.out
  rw [show decide (u = u) = true from decide_eq_true rfl] at hN
  refine hN.mono ?_
  clear hN
  rintro e w17 ⟨rfl, hb⟩
  have H18 := Lib.hid (H16.out.step hb)
  clear H16
  clear hb
  go_wp2_with fail
  have hN := cross_any (H18.out.nth 5 rfl) (H18.out.nth 4 rfl) LA.out LB.out
  rw [HC.out] at hN
  refine hN.mono ?_
  clear hN
  rintro e w19 ⟨sl19, rfl, hs, hb⟩
  obtain ⟨p19, c19, rfl⟩ := hs.form
  have H20 := Lib.hid ((H18.out.step hb).add hs)
  clear H18
  clear hs hb
  go_wp2_with fail
  have hN := rcross_any (H20.out.nth 6 rfl) (H20.out.nth 5 rfl) KA.out KB.out
  rw [HC.out] at hN
  refine hN.mono ?_
  clear hN
  rintro e w21 ⟨sl21, rfl, hs, hb⟩
  obtain ⟨p21, c21, rfl⟩ := hs.form
  have H22 := Lib.hid ((H20.out.step hb).add hs)
  clear H20
  clear hs hb
  go_wp2_with fail
  have hN := same_any (H22.out.nth 1 rfl) (H22.out.nth 0 rfl) LC.out
  rw [show decide (c = c) = true from decide_eq_true rfl] at hN
  refine hN.mono ?_
  clear hN
  rintro e w23 ⟨rfl, hb⟩
  have H24 := Lib.hid (H22.out.step hb)
  clear H22
  clear hb
  go_wp2_with fail
  have hN := minus_any (H24.out.nth 7 rfl) (H24.out.nth 6 rfl) LA.out LB.out
  rw [HM.out] at hN
  refine hN.mono ?_
  clear hN
  rintro e w25 ⟨sl25, rfl, hs, hb⟩
  obtain ⟨p25, c25, rfl⟩ := hs.form
  have H26 := Lib.hid ((H24.out.step hb).add hs)
  clear H24
  clear hs hb
  go_wp2_with fail
  have hN := rminus_any (H26.out.nth 8 rfl) (H26.out.nth 7 rfl) KA.out KB.out
  rw [HM.out] at hN
  refine hN.mono ?_
  clear hN
  rintro e w27 ⟨sl27, rfl, hs, hb⟩
  obtain ⟨p27, c27, rfl⟩ := hs.form
  have H28 := Lib.hid ((H26.out.step hb).add hs)
  clear H26
  clear hs hb
  go_wp2_with fail
  have hN := same_any (H28.out.nth 1 rfl) (H28.out.nth 0 rfl) LM.out
  rw [show decide (m = m) = true from decide_eq_true rfl] at hN
  refine hN.mono ?_
  clear hN
  rintro e w29 ⟨rfl, hb⟩
  have H30 := Lib.hid (H28.out.step hb)
  clear H28
  clear hb
  go_wp2_with fail
  have hN := grow_any (H30.out.nth 9 rfl) LA.out x y
  rw [HG.out] at hN
  refine hN.mono ?_
  clear hN
  rintro e w31 ⟨sl31, rfl, hs, hb⟩
  obtain ⟨p31, c31, rfl⟩ := hs.form
  have H32 := Lib.hid ((H30.out.step hb).add hs)
  clear H30
  clear hs hb
  go_wp2_with fail
  have hN := rgrow_any (H32.out.nth 10 rfl) KA.out x y
  rw [HG.out] at hN
  refine hN.mono ?_
  clear hN
  rintro e w33 ⟨sl33, rfl, hs, hb⟩
  obtain ⟨p33, c33, rfl⟩ := hs.form
  have H34 := Lib.hid ((H32.out.step hb).add hs)
  clear H32
  clear hs hb
  go_wp2_with fail
  have hN := same_any (H34.out.nth 1 rfl) (H34.out.nth 0 rfl) LG.out
  rw [show decide (g = g) = true from decide_eq_true rfl] at hN
  refine hN.mono ?_
  clear hN
  rintro e w35 ⟨rfl, hb⟩
  have H36 := Lib.hid (H34.out.step hb)
  clear H34
  clear hb
  go_wp2_with fail
  have hN := valid_any (H36.out.nth 11 rfl) LA.out
  rw [VA.out] at hN
  refine hN.mono ?_
  clear hN
  rintro e w37 ⟨rfl, hb⟩
  have H38 := Lib.hid (H36.out.step hb)
  clear H36
  clear hb
  go_wp2_with fail
  have hN := rvalid_any (H38.out.nth 11 rfl) LA.out
  rw [VA.out] at hN
  refine hN.mono ?_
  clear hN
  rintro e w39 ⟨rfl, hb⟩
  have H40 := Lib.hid (H38.out.step hb)
  clear H38
  clear hb
  go_wp2_with fail
  have hN := has_any (H40.out.nth 11 rfl) LA.out t
  rw [TA.out] at hN
  refine hN.mono ?_
  clear hN
  rintro e w41 ⟨rfl, hb⟩
  have H42 := Lib.hid (H40.out.step hb)
  clear H40
  clear hb
  go_wp2_with fail
  have hN := rhas_any (H42.out.nth 11 rfl) LA.out t
  rw [TA.out] at hN
  refine hN.mono ?_
  clear hN
  rintro e w43 ⟨rfl, hb⟩
  have H44 := Lib.hid (H42.out.step hb)
  clear H42
  clear hb
  go_wp2
  go_ret
  exact ⟨rfl, H44.out.1⟩

set_option maxHeartbeats 4000000 in
set_option maxRecDepth 100000 in
theorem main_10 {va vb : Value} {a b n u c m g : List Sp} {kn ku kc km kg : Nat} {w : World} (ha : SlS va a w) (hb : SlS vb b w) (x y t : Int) (LA : Hid (a.length ≤ maxLen)) (LB : Hid (b.length ≤ maxLen)) (FA : Hid (decide (a.length ≤ 60) = true)) (FB : Hid (decide (b.length ≤ 60) = true)) (KA : Hid (a.length ≤ 900)) (KB : Hid (b.length ≤ 900))
    (LN : Hid (n.length ≤ maxLen)) (LU : Hid (u.length ≤ maxLen)) (LC : Hid (c.length ≤ maxLen)) (LM : Hid (m.length ≤ maxLen)) (LG : Hid (g.length ≤ maxLen))
    (HN : Hid (normR a = (n, kn))) (HU : Hid (bothR cU a b = (u, ku))) (HC : Hid (bothR cX a b = (c, kc))) (HM : Hid (bothR cM a b = (m, km))) (HG : Hid (growR a x y = (g, kg))) (VA : Hid (validB a = true)) (TA : Hid (hasS a t = false)) :
    Calls Try.prog 3 #[va, vb, .int .i64 x, .int .i64 y, .int .i64 t] w fun e w' => e = .returned (.bool true) ∧ RowKit.Below w.heap.size w w' := by
  have H0 := Lib.hid (((AllS.start w).add ha).add hb)
  obtain ⟨pa, ca, rfl⟩ := ha.form
  obtain ⟨pb, cb, rfl⟩ := hb.form
  clear ha hb
  go_enter Try.func3, Try.ntmps3
  go_wp2_with fail
  refine (head_any _).mono ?_
  rintro e w1 ⟨rfl, hb⟩
  have H2 := Lib.hid (H0.out.step hb)
  clear H0
  clear hb
  go_wp2_with fail
  have hN := few_sl (H2.out.nth 1 rfl) LA.out
  rw [FA.out] at hN
  refine hN.mono ?_
  clear hN
  rintro e w3 ⟨rfl, hb⟩
  have H4 := Lib.hid (H2.out.step hb)
  clear H2
  clear hb
  go_wp2_with fail
  have hN := few_sl (H4.out.nth 0 rfl) LB.out
  rw [FB.out] at hN
  refine hN.mono ?_
  clear hN
  rintro e w5 ⟨rfl, hb⟩
  have H6 := Lib.hid (H4.out.step hb)
  clear H4
  clear hb
  go_wp2_with fail
  have hN := normal_any (H6.out.nth 1 rfl) LA.out
  rw [HN.out] at hN
  refine hN.mono ?_
  clear hN
  rintro e w7 ⟨sl7, rfl, hs, hb⟩
  obtain ⟨p7, c7, rfl⟩ := hs.form
  have H8 := Lib.hid ((H6.out.step hb).add hs)
  clear H6
  clear hs hb
  go_wp2_with fail
  have hN := rnormal_any (H8.out.nth 2 rfl) KA.out
  rw [HN.out] at hN
  refine hN.mono ?_
  clear hN
  rintro e w9 ⟨sl9, rfl, hs, hb⟩
  obtain ⟨p9, c9, rfl⟩ := hs.form
  have H10 := Lib.hid ((H8.out.step hb).add hs)
  clear H8
  clear hs hb
  go_wp2_with fail
  have hN := same_any (H10.out.nth 1 rfl) (H10.out.nth 0 rfl) LN.out
  rw [show decide (n = n) = true from decide_eq_true rfl] at hN
  refine hN.mono ?_
  clear hN
  rintro e w11 ⟨rfl, hb⟩
  have H12 := Lib.hid (H10.out.step hb)
  clear H10
  clear hb
  go_wp2_with fail
  have hN := union_any (H12.out.nth 3 rfl) (H12.out.nth 2 rfl) LA.out LB.out
  rw [HU.out] at hN
  refine hN.mono ?_
  clear hN
  rintro e w13 ⟨sl13, rfl, hs, hb⟩
  obtain ⟨p13, c13, rfl⟩ := hs.form
  have H14 := Lib.hid ((H12.out.step hb).add hs)
  clear H12
  clear hs hb
  go_wp2_with fail
  have hN := runion_any (H14.out.nth 4 rfl) (H14.out.nth 3 rfl) KA.out KB.out
  rw [HU.out] at hN
  refine hN.mono ?_
  clear hN
  rintro e w15 ⟨sl15, rfl, hs, hb⟩
  obtain ⟨p15, c15, rfl⟩ := hs.form
  have H16 := Lib.hid ((H14.out.step hb).add hs)
  clear H14
  clear hs hb
  go_wp2_with fail
  have hN := same_any (H16.out.nth 1 rfl) (H16.out.nth 0 rfl) LU.out
  rw [show decide (u = u) = true from decide_eq_true rfl] at hN
  refine hN.mono ?_
  clear hN
  rintro e w17 ⟨rfl, hb⟩
  have H18 := Lib.hid (H16.out.step hb)
  clear H16
  clear hb
  go_wp2_with fail
  have hN := cross_any (H18.out.nth 5 rfl) (H18.out.nth 4 rfl) LA.out LB.out
  rw [HC.out] at hN
  refine hN.mono ?_
  clear hN
  rintro e w19 ⟨sl19, rfl, hs, hb⟩
  obtain ⟨p19, c19, rfl⟩ := hs.form
  have H20 := Lib.hid ((H18.out.step hb).add hs)
  clear H18
  clear hs hb
  go_wp2_with fail
  have hN := rcross_any (H20.out.nth 6 rfl) (H20.out.nth 5 rfl) KA.out KB.out
  rw [HC.out] at hN
  refine hN.mono ?_
  clear hN
  rintro e w21 ⟨sl21, rfl, hs, hb⟩
  obtain ⟨p21, c21, rfl⟩ := hs.form
  have H22 := Lib.hid ((H20.out.step hb).add hs)
  clear H20
  clear hs hb
  go_wp2_with fail
  have hN := same_any (H22.out.nth 1 rfl) (H22.out.nth 0 rfl) LC.out
  rw [show decide (c = c) = true from decide_eq_true rfl] at hN
  refine hN.mono ?_
  clear hN
  rintro e w23 ⟨rfl, hb⟩
  have H24 := Lib.hid (H22.out.step hb)
  clear H22
  clear hb
  go_wp2_with fail
  have hN := minus_any (H24.out.nth 7 rfl) (H24.out.nth 6 rfl) LA.out LB.out
  rw [HM.out] at hN
  refine hN.mono ?_
  clear hN
  rintro e w25 ⟨sl25, rfl, hs, hb⟩
  obtain ⟨p25, c25, rfl⟩ := hs.form
  have H26 := Lib.hid ((H24.out.step hb).add hs)
  clear H24
  clear hs hb
  go_wp2_with fail
  have hN := rminus_any (H26.out.nth 8 rfl) (H26.out.nth 7 rfl) KA.out KB.out
  rw [HM.out] at hN
  refine hN.mono ?_
  clear hN
  rintro e w27 ⟨sl27, rfl, hs, hb⟩
  obtain ⟨p27, c27, rfl⟩ := hs.form
  have H28 := Lib.hid ((H26.out.step hb).add hs)
  clear H26
  clear hs hb
  go_wp2_with fail
  have hN := same_any (H28.out.nth 1 rfl) (H28.out.nth 0 rfl) LM.out
  rw [show decide (m = m) = true from decide_eq_true rfl] at hN
  refine hN.mono ?_
  clear hN
  rintro e w29 ⟨rfl, hb⟩
  have H30 := Lib.hid (H28.out.step hb)
  clear H28
  clear hb
  go_wp2_with fail
  have hN := grow_any (H30.out.nth 9 rfl) LA.out x y
  rw [HG.out] at hN
  refine hN.mono ?_
  clear hN
  rintro e w31 ⟨sl31, rfl, hs, hb⟩
  obtain ⟨p31, c31, rfl⟩ := hs.form
  have H32 := Lib.hid ((H30.out.step hb).add hs)
  clear H30
  clear hs hb
  go_wp2_with fail
  have hN := rgrow_any (H32.out.nth 10 rfl) KA.out x y
  rw [HG.out] at hN
  refine hN.mono ?_
  clear hN
  rintro e w33 ⟨sl33, rfl, hs, hb⟩
  obtain ⟨p33, c33, rfl⟩ := hs.form
  have H34 := Lib.hid ((H32.out.step hb).add hs)
  clear H32
  clear hs hb
  go_wp2_with fail
  have hN := same_any (H34.out.nth 1 rfl) (H34.out.nth 0 rfl) LG.out
  rw [show decide (g = g) = true from decide_eq_true rfl] at hN
  refine hN.mono ?_
  clear hN
  rintro e w35 ⟨rfl, hb⟩
  have H36 := Lib.hid (H34.out.step hb)
  clear H34
  clear hb
  go_wp2_with fail
  have hN := valid_any (H36.out.nth 11 rfl) LA.out
  rw [VA.out] at hN
  refine hN.mono ?_
  clear hN
  rintro e w37 ⟨rfl, hb⟩
  have H38 := Lib.hid (H36.out.step hb)
  clear H36
  clear hb
  go_wp2_with fail
  have hN := rvalid_any (H38.out.nth 11 rfl) LA.out
  rw [VA.out] at hN
  refine hN.mono ?_
  clear hN
  rintro e w39 ⟨rfl, hb⟩
  have H40 := Lib.hid (H38.out.step hb)
  clear H38
  clear hb
  go_wp2_with fail
  have hN := has_any (H40.out.nth 11 rfl) LA.out t
  rw [TA.out] at hN
  refine hN.mono ?_
  clear hN
  rintro e w41 ⟨rfl, hb⟩
  have H42 := Lib.hid (H40.out.step hb)
  clear H40
  clear hb
  go_wp2_with fail
  have hN := rhas_any (H42.out.nth 11 rfl) LA.out t
  rw [TA.out] at hN
  refine hN.mono ?_
  clear hN
  rintro e w43 ⟨rfl, hb⟩
  have H44 := Lib.hid (H42.out.step hb)
  clear H42
  clear hb
  go_wp2
  go_ret
  exact ⟨rfl, H44.out.1⟩

set_option maxHeartbeats 4000000 in
set_option maxRecDepth 100000 in
theorem main_11 {va vb : Value} {a b n u c m g : List Sp} {kn ku kc km kg : Nat} {w : World} (ha : SlS va a w) (hb : SlS vb b w) (x y t : Int) (LA : Hid (a.length ≤ maxLen)) (LB : Hid (b.length ≤ maxLen)) (FA : Hid (decide (a.length ≤ 60) = true)) (FB : Hid (decide (b.length ≤ 60) = true)) (KA : Hid (a.length ≤ 900)) (KB : Hid (b.length ≤ 900))
    (LN : Hid (n.length ≤ maxLen)) (LU : Hid (u.length ≤ maxLen)) (LC : Hid (c.length ≤ maxLen)) (LM : Hid (m.length ≤ maxLen)) (LG : Hid (g.length ≤ maxLen))
    (HN : Hid (normR a = (n, kn))) (HU : Hid (bothR cU a b = (u, ku))) (HC : Hid (bothR cX a b = (c, kc))) (HM : Hid (bothR cM a b = (m, km))) (HG : Hid (growR a x y = (g, kg))) (VA : Hid (validB a = true)) (TA : Hid (hasS a t = true)) :
    Calls Try.prog 3 #[va, vb, .int .i64 x, .int .i64 y, .int .i64 t] w fun e w' => e = .returned (.bool true) ∧ RowKit.Below w.heap.size w w' := by
  have H0 := Lib.hid (((AllS.start w).add ha).add hb)
  obtain ⟨pa, ca, rfl⟩ := ha.form
  obtain ⟨pb, cb, rfl⟩ := hb.form
  clear ha hb
  go_enter Try.func3, Try.ntmps3
  go_wp2_with fail
  refine (head_any _).mono ?_
  rintro e w1 ⟨rfl, hb⟩
  have H2 := Lib.hid (H0.out.step hb)
  clear H0
  clear hb
  go_wp2_with fail
  have hN := few_sl (H2.out.nth 1 rfl) LA.out
  rw [FA.out] at hN
  refine hN.mono ?_
  clear hN
  rintro e w3 ⟨rfl, hb⟩
  have H4 := Lib.hid (H2.out.step hb)
  clear H2
  clear hb
  go_wp2_with fail
  have hN := few_sl (H4.out.nth 0 rfl) LB.out
  rw [FB.out] at hN
  refine hN.mono ?_
  clear hN
  rintro e w5 ⟨rfl, hb⟩
  have H6 := Lib.hid (H4.out.step hb)
  clear H4
  clear hb
  go_wp2_with fail
  have hN := normal_any (H6.out.nth 1 rfl) LA.out
  rw [HN.out] at hN
  refine hN.mono ?_
  clear hN
  rintro e w7 ⟨sl7, rfl, hs, hb⟩
  obtain ⟨p7, c7, rfl⟩ := hs.form
  have H8 := Lib.hid ((H6.out.step hb).add hs)
  clear H6
  clear hs hb
  go_wp2_with fail
  have hN := rnormal_any (H8.out.nth 2 rfl) KA.out
  rw [HN.out] at hN
  refine hN.mono ?_
  clear hN
  rintro e w9 ⟨sl9, rfl, hs, hb⟩
  obtain ⟨p9, c9, rfl⟩ := hs.form
  have H10 := Lib.hid ((H8.out.step hb).add hs)
  clear H8
  clear hs hb
  go_wp2_with fail
  have hN := same_any (H10.out.nth 1 rfl) (H10.out.nth 0 rfl) LN.out
  rw [show decide (n = n) = true from decide_eq_true rfl] at hN
  refine hN.mono ?_
  clear hN
  rintro e w11 ⟨rfl, hb⟩
  have H12 := Lib.hid (H10.out.step hb)
  clear H10
  clear hb
  go_wp2_with fail
  have hN := union_any (H12.out.nth 3 rfl) (H12.out.nth 2 rfl) LA.out LB.out
  rw [HU.out] at hN
  refine hN.mono ?_
  clear hN
  rintro e w13 ⟨sl13, rfl, hs, hb⟩
  obtain ⟨p13, c13, rfl⟩ := hs.form
  have H14 := Lib.hid ((H12.out.step hb).add hs)
  clear H12
  clear hs hb
  go_wp2_with fail
  have hN := runion_any (H14.out.nth 4 rfl) (H14.out.nth 3 rfl) KA.out KB.out
  rw [HU.out] at hN
  refine hN.mono ?_
  clear hN
  rintro e w15 ⟨sl15, rfl, hs, hb⟩
  obtain ⟨p15, c15, rfl⟩ := hs.form
  have H16 := Lib.hid ((H14.out.step hb).add hs)
  clear H14
  clear hs hb
  go_wp2_with fail
  have hN := same_any (H16.out.nth 1 rfl) (H16.out.nth 0 rfl) LU.out
  rw [show decide (u = u) = true from decide_eq_true rfl] at hN
  refine hN.mono ?_
  clear hN
  rintro e w17 ⟨rfl, hb⟩
  have H18 := Lib.hid (H16.out.step hb)
  clear H16
  clear hb
  go_wp2_with fail
  have hN := cross_any (H18.out.nth 5 rfl) (H18.out.nth 4 rfl) LA.out LB.out
  rw [HC.out] at hN
  refine hN.mono ?_
  clear hN
  rintro e w19 ⟨sl19, rfl, hs, hb⟩
  obtain ⟨p19, c19, rfl⟩ := hs.form
  have H20 := Lib.hid ((H18.out.step hb).add hs)
  clear H18
  clear hs hb
  go_wp2_with fail
  have hN := rcross_any (H20.out.nth 6 rfl) (H20.out.nth 5 rfl) KA.out KB.out
  rw [HC.out] at hN
  refine hN.mono ?_
  clear hN
  rintro e w21 ⟨sl21, rfl, hs, hb⟩
  obtain ⟨p21, c21, rfl⟩ := hs.form
  have H22 := Lib.hid ((H20.out.step hb).add hs)
  clear H20
  clear hs hb
  go_wp2_with fail
  have hN := same_any (H22.out.nth 1 rfl) (H22.out.nth 0 rfl) LC.out
  rw [show decide (c = c) = true from decide_eq_true rfl] at hN
  refine hN.mono ?_
  clear hN
  rintro e w23 ⟨rfl, hb⟩
  have H24 := Lib.hid (H22.out.step hb)
  clear H22
  clear hb
  go_wp2_with fail
  have hN := minus_any (H24.out.nth 7 rfl) (H24.out.nth 6 rfl) LA.out LB.out
  rw [HM.out] at hN
  refine hN.mono ?_
  clear hN
  rintro e w25 ⟨sl25, rfl, hs, hb⟩
  obtain ⟨p25, c25, rfl⟩ := hs.form
  have H26 := Lib.hid ((H24.out.step hb).add hs)
  clear H24
  clear hs hb
  go_wp2_with fail
  have hN := rminus_any (H26.out.nth 8 rfl) (H26.out.nth 7 rfl) KA.out KB.out
  rw [HM.out] at hN
  refine hN.mono ?_
  clear hN
  rintro e w27 ⟨sl27, rfl, hs, hb⟩
  obtain ⟨p27, c27, rfl⟩ := hs.form
  have H28 := Lib.hid ((H26.out.step hb).add hs)
  clear H26
  clear hs hb
  go_wp2_with fail
  have hN := same_any (H28.out.nth 1 rfl) (H28.out.nth 0 rfl) LM.out
  rw [show decide (m = m) = true from decide_eq_true rfl] at hN
  refine hN.mono ?_
  clear hN
  rintro e w29 ⟨rfl, hb⟩
  have H30 := Lib.hid (H28.out.step hb)
  clear H28
  clear hb
  go_wp2_with fail
  have hN := grow_any (H30.out.nth 9 rfl) LA.out x y
  rw [HG.out] at hN
  refine hN.mono ?_
  clear hN
  rintro e w31 ⟨sl31, rfl, hs, hb⟩
  obtain ⟨p31, c31, rfl⟩ := hs.form
  have H32 := Lib.hid ((H30.out.step hb).add hs)
  clear H30
  clear hs hb
  go_wp2_with fail
  have hN := rgrow_any (H32.out.nth 10 rfl) KA.out x y
  rw [HG.out] at hN
  refine hN.mono ?_
  clear hN
  rintro e w33 ⟨sl33, rfl, hs, hb⟩
  obtain ⟨p33, c33, rfl⟩ := hs.form
  have H34 := Lib.hid ((H32.out.step hb).add hs)
  clear H32
  clear hs hb
  go_wp2_with fail
  have hN := same_any (H34.out.nth 1 rfl) (H34.out.nth 0 rfl) LG.out
  rw [show decide (g = g) = true from decide_eq_true rfl] at hN
  refine hN.mono ?_
  clear hN
  rintro e w35 ⟨rfl, hb⟩
  have H36 := Lib.hid (H34.out.step hb)
  clear H34
  clear hb
  go_wp2_with fail
  have hN := valid_any (H36.out.nth 11 rfl) LA.out
  rw [VA.out] at hN
  refine hN.mono ?_
  clear hN
  rintro e w37 ⟨rfl, hb⟩
  have H38 := Lib.hid (H36.out.step hb)
  clear H36
  clear hb
  go_wp2_with fail
  have hN := rvalid_any (H38.out.nth 11 rfl) LA.out
  rw [VA.out] at hN
  refine hN.mono ?_
  clear hN
  rintro e w39 ⟨rfl, hb⟩
  have H40 := Lib.hid (H38.out.step hb)
  clear H38
  clear hb
  go_wp2_with fail
  have hN := has_any (H40.out.nth 11 rfl) LA.out t
  rw [TA.out] at hN
  refine hN.mono ?_
  clear hN
  rintro e w41 ⟨rfl, hb⟩
  have H42 := Lib.hid (H40.out.step hb)
  clear H40
  clear hb
  go_wp2_with fail
  have hN := rhas_any (H42.out.nth 11 rfl) LA.out t
  rw [TA.out] at hN
  refine hN.mono ?_
  clear hN
  rintro e w43 ⟨rfl, hb⟩
  have H44 := Lib.hid (H42.out.step hb)
  clear H42
  clear hb
  go_wp2
  go_ret
  exact ⟨rfl, H44.out.1⟩

theorem norm_small {l : List Sp} (h : l.length ≤ 60) : (normR l).1.length ≤ maxLen := by
  unfold normR
  split
  · rename_i q
    have := nrm_len ((inB_iff l).1 q.2)
    show (nrm l).length ≤ maxLen
    unfold maxLen
    omega
  · exact Nat.zero_le _
theorem both_small {k : Int → Int → Bool} (h0 : k 0 0 = false) {a b : List Sp} : (bothR k a b).1.length ≤ maxLen := by
  unfold bothR
  split
  · split
    · rename_i q
      exact lenS q (Nat.le_refl _)
    · exact Nat.zero_le _
  · exact Nat.zero_le _
theorem grow_small {l : List Sp} {x y : Int} (h : l.length ≤ 60) : (growR l x y).1.length ≤ maxLen := by
  unfold growR
  split
  · rename_i q
    have hv := ((validB_iff l).1 q.1).2
    have := nrm_len (grown_inR' hv.inR (b := x) (a := y) q.2.1.1 q.2.2.1)
    rw [grown_len] at this
    show (nrm (grown l x y)).length ≤ maxLen
    unfold maxLen
    omega
  · exact Nat.zero_le _
theorem walk (a : Option Addr) (na ca : Nat) (b : Option Addr) (nb cb : Nat) (x y t : Int) (w : World) (ha : ∃ l : List Sp, l.length = na ∧ SlS (.slice a na ca) l w ∧ l.length ≤ maxLen) (hb : ∃ l : List Sp, l.length = nb ∧ SlS (.slice b nb cb) l w ∧ l.length ≤ maxLen) (_ : (Lit.int .i64 x).wf = true) (_ : (Lit.int .i64 y).wf = true) (_ : (Lit.int .i64 t).wf = true) :
    Calls Try.prog 3 #[.slice a na ca, .slice b nb cb, .int .i64 x, .int .i64 y, .int .i64 t] w fun e w' => e = .returned (.bool true) ∧ RowKit.Below w.heap.size w w' := by
  obtain ⟨la, _, sa, ma⟩ := ha
  obtain ⟨lb, _, sb, mb⟩ := hb
  have LA := Lib.hid ma
  have LB := Lib.hid mb
  cases fa : decide (la.length ≤ 60)
  · exact walk_1 sa sb x y t LA LB (Lib.hid fa)
  cases fb : decide (lb.length ≤ 60)
  · exact walk_2 sa sb x y t LA LB (Lib.hid fa) (Lib.hid fb)
  have hla := of_decide_eq_true fa
  have hlb := of_decide_eq_true fb
  have KA := Lib.hid (show la.length ≤ 900 by omega)
  have KB := Lib.hid (show lb.length ≤ 900 by omega)
  have LN := Lib.hid (norm_small hla)
  have LU := Lib.hid (both_small (k := cU) rfl (a := la) (b := lb))
  have LC := Lib.hid (both_small (k := cX) rfl (a := la) (b := lb))
  have LM := Lib.hid (both_small (k := cM) rfl (a := la) (b := lb))
  have LG := Lib.hid (grow_small (x := x) (y := y) hla)
  cases va : validB la
  · cases ta : hasS la t
    · exact main_00 sa sb x y t LA LB (Lib.hid fa) (Lib.hid fb) KA KB LN LU LC LM LG (Lib.hid rfl) (Lib.hid rfl) (Lib.hid rfl) (Lib.hid rfl) (Lib.hid rfl) (Lib.hid va) (Lib.hid ta)
    · exact main_01 sa sb x y t LA LB (Lib.hid fa) (Lib.hid fb) KA KB LN LU LC LM LG (Lib.hid rfl) (Lib.hid rfl) (Lib.hid rfl) (Lib.hid rfl) (Lib.hid rfl) (Lib.hid va) (Lib.hid ta)
  · cases ta : hasS la t
    · exact main_10 sa sb x y t LA LB (Lib.hid fa) (Lib.hid fb) KA KB LN LU LC LM LG (Lib.hid rfl) (Lib.hid rfl) (Lib.hid rfl) (Lib.hid rfl) (Lib.hid rfl) (Lib.hid va) (Lib.hid ta)
    · exact main_11 sa sb x y t LA LB (Lib.hid fa) (Lib.hid fb) KA KB LN LU LC LM LG (Lib.hid rfl) (Lib.hid rfl) (Lib.hid rfl) (Lib.hid rfl) (Lib.hid rfl) (Lib.hid va) (Lib.hid ta)

theorem own : ownKnob Try.prog.godebug = none := by kernel_rfl
theorem laidOut : laidOutB Try.prog = true := by kernel_rfl

set_option maxRecDepth 100000 in
theorem lifted (os : Os) (started : os.Started) (H : Type) (enc : TypeId × Value → H) :
    ReturnsInHanded {} Try.checked os 3 .any (Rows.spanMatchesReferenceSpec.pre6 enc Try.prog Try.f3 Rows.spanMatchesReferenceRow.domain false) (Rows.spanMatchesReferenceSpec.post enc Try.prog Try.f3 false true false false) := by
  refine returnsInHanded_of_change (C := Try.checked) own started (by kernel_rfl) Try.func3
    (ChangeSpec.witness6 (enc := enc) (C := Try.checked) false ⟨#[], #[.slice none 0 0, .slice none 0 0, .int .i64 0, .int .i64 0, .int .i64 0], []⟩ 8 (by kernel_rfl) (by kernel_rfl) (by kernel_rfl) (by kernel_rfl)) ?_
  intro W base args ds gs before hval0 hW hcnd _
  have hval : ∀ (j : Nat) t v, Try.f3.params[j]? = some t → args[j]? = some v → Value.okWide Try.prog W .any base t v := hval0
  have hW' := hW
  obtain ⟨p, q, hA0, hV, rfl, hfz, hnd⟩ := hW
  have hA : DataW.TrodAll enc Try.prog W 0 (fun _ => true) true Try.f3.params.toList args.toList ds p := hA0
  rw [Try.params3] at hA hval
  obtain ⟨v0, vs0, d0, ds0, p0, q0, hargs, rfl, rfl, h0, r0⟩ := trodAll_cons hA
  obtain ⟨v1, vs1, d1, ds1, p1, q1, rfl, rfl, rfl, h1, r1⟩ := trodAll_cons r0
  obtain ⟨v2, vs2, d2, ds2, p2, q2, rfl, rfl, rfl, h2, r2⟩ := trodAll_cons r1
  obtain ⟨v3, vs3, d3, ds3, p3, q3, rfl, rfl, rfl, h3, r3⟩ := trodAll_cons r2
  obtain ⟨v4, vs4, d4, ds4, p4, q4, rfl, rfl, rfl, h4, r4⟩ := trodAll_cons r3
  obtain ⟨rfl, rfl, rfl⟩ := trodAll_nil r4
  obtain rfl : args = #[v0, v1, v2, v3, v4] := by cases args; simp_all
  obtain ⟨rfl, rfl⟩ := trodVars_none hV
  have k0 := h0
  have lt0 : ∀ x ∈ p0, x.block < W.heap.size := by obtain ⟨m, hm⟩ := k0; exact DataW.trod_lt m _ _ _ hm
  have k1 := h1
  have lt1 : ∀ x ∈ p1, x.block < W.heap.size := by obtain ⟨m, hm⟩ := k1; exact DataW.trod_lt m _ _ _ hm
  have k2 := h2
  have lt2 : ∀ x ∈ p2, x.block < W.heap.size := by obtain ⟨m, hm⟩ := k2; exact DataW.trod_lt m _ _ _ hm
  have k3 := h3
  have lt3 : ∀ x ∈ p3, x.block < W.heap.size := by obtain ⟨m, hm⟩ := k3; exact DataW.trod_lt m _ _ _ hm
  have k4 := h4
  have lt4 : ∀ x ∈ p4, x.block < W.heap.size := by obtain ⟨m, hm⟩ := k4; exact DataW.trod_lt m _ _ _ hm
  obtain ⟨a0, len0, cap0, rfl⟩ := okWide_slice Try.underlying22 (hval 0 22 v0 rfl rfl)
  have w0 := open_spans h0
  obtain ⟨a1, len1, cap1, rfl⟩ := okWide_slice Try.underlying22 (hval 1 22 v1 rfl rfl)
  have w1 := open_spans h1
  obtain ⟨a2, rfl, rfl, rfl, w2⟩ := open_int Try.underlying3 (hval 2 3 v2 rfl rfl) h2
  obtain ⟨a3, rfl, rfl, rfl, w3⟩ := open_int Try.underlying3 (hval 3 3 v3 rfl rfl) h3
  obtain ⟨a4, rfl, rfl, rfl, w4⟩ := open_int Try.underlying3 (hval 4 3 v4 rfl rfl) h4
  clear hA0 hval0
  refine (walk a0 len0 cap0 a1 len1 cap1 a2 a3 a4 W w0 w1 w2 w3 w4).mono fun e W' ⟨he, bel⟩ => ?_
  subst he
  exact ⟨_, rfl, _, _, _, [], _, [], hW', trodAll_mk1 (shut_bool Try.underlying4 _), (trodAll_cons_mk (Below.trod laidOut (by kernel_rfl) (of_decide_eq_true (by kernel_rfl)) k0 bel lt0) (trodAll_cons_mk (Below.trod laidOut (by kernel_rfl) (of_decide_eq_true (by kernel_rfl)) k1 bel lt1) (trodAll_cons_mk (Below.trod laidOut (by kernel_rfl) (of_decide_eq_true (by kernel_rfl)) k2 bel lt2) (trodAll_cons_mk (Below.trod laidOut (by kernel_rfl) (of_decide_eq_true (by kernel_rfl)) k3 bel lt3) (trodAll_cons_mk (Below.trod laidOut (by kernel_rfl) (of_decide_eq_true (by kernel_rfl)) k4 bel lt4) trodAll_mk0))))), rfl, bel.frame _, fun h => by cases h⟩

theorem over : Rows.SpanMatchesReferenceSaid :=
  OpenClaim.holds_of_wide 3 Try.f3 rfl rfl rfl rfl rfl rfl rfl ⟨rfl, rfl, rfl, rfl, rfl⟩ rfl rfl rfl rfl rfl (by kernel_rfl) Try.func3 (by kernel_rfl)
    (of_decide_eq_true (by kernel_rfl)) (by unfold Func.isWrapper; rw [if_neg (of_decide_eq_false (by kernel_rfl))]; exact ⟨rfl, rfl⟩)
    (fun os started H enc _ => lifted os started H enc)


end MatchesReference
theorem spanMatchesReference_holds : Rows.SpanMatchesReferenceSaid := MatchesReference.over
end Go.Proofs.Ytojofkjnakiliaa
