/- The contract of head of the statements about package span: the examples hold; no condition. (Written by wip/tools/genspanhead.py.) -/
import Derived.Test.YtojofkjnakiliaaS12
namespace Go.Proofs.Ytojofkjnakiliaa
open Go.RowKit Go.Shelf
open SpP

set_option maxHeartbeats 4000000 in
set_option maxRecDepth 100000 in
theorem head_any (w : World) : Calls Try.prog 9 #[] w fun e w' => e = .returned (.bool true) ∧ RowKit.Below w.heap.size w w' := by
  have H0 := Lib.hid (AllS.start w)
  go_enter Try.func9, Try.ntmps9
  go_wp2_with fail
  refine (spans_lit [(5, 7), (1, 3), (3, 4), (9, 9)] (by decide) 8 rfl 4 rfl _ rfl _).mono ?_
  rintro e w1 ⟨p1, c1, rfl, hs, hb⟩
  have H2 := Lib.hid ((H0.out.step hb).add hs)
  clear H0
  clear hs hb
  go_wp2_with fail
  have hN := normal_any (H2.out.nth 0 rfl) (by decide)
  rw [ex_1] at hN
  refine hN.mono ?_
  clear hN
  rintro e w3 ⟨sl3, rfl, hs, hb⟩
  obtain ⟨p3, c3, rfl⟩ := hs.formN 2 rfl
  have H4 := Lib.hid ((H2.out.step hb).add hs)
  clear H2
  clear hs hb
  go_wp2_with fail
  refine (spans_lit [(1, 4), (5, 7)] (by decide) 4 rfl 2 rfl _ rfl _).mono ?_
  rintro e w5 ⟨p5, c5, rfl, hs, hb⟩
  have H6 := Lib.hid ((H4.out.step hb).add hs)
  clear H4
  clear hs hb
  go_wp2_with fail
  refine (spans_lit [(3, 6)] (by decide) 2 rfl 1 rfl _ rfl _).mono ?_
  rintro e w7 ⟨p7, c7, rfl, hs, hb⟩
  have H8 := Lib.hid ((H6.out.step hb).add hs)
  clear H6
  clear hs hb
  go_wp2_with fail
  have hN := cross_any (H8.out.nth 1 rfl) (H8.out.nth 0 rfl) (by decide) (by decide)
  rw [ex_2] at hN
  refine hN.mono ?_
  clear hN
  rintro e w9 ⟨sl9, rfl, hs, hb⟩
  obtain ⟨p9, c9, rfl⟩ := hs.formN 2 rfl
  have H10 := Lib.hid ((H8.out.step hb).add hs)
  clear H8
  clear hs hb
  go_wp2_with fail
  refine (spans_lit [(1, 4), (5, 7)] (by decide) 4 rfl 2 rfl _ rfl _).mono ?_
  rintro e w11 ⟨p11, c11, rfl, hs, hb⟩
  have H12 := Lib.hid ((H10.out.step hb).add hs)
  clear H10
  clear hs hb
  go_wp2_with fail
  refine (spans_lit [(3, 6)] (by decide) 2 rfl 1 rfl _ rfl _).mono ?_
  rintro e w13 ⟨p13, c13, rfl, hs, hb⟩
  have H14 := Lib.hid ((H12.out.step hb).add hs)
  clear H12
  clear hs hb
  go_wp2_with fail
  have hN := minus_any (H14.out.nth 1 rfl) (H14.out.nth 0 rfl) (by decide) (by decide)
  rw [ex_3] at hN
  refine hN.mono ?_
  clear hN
  rintro e w15 ⟨sl15, rfl, hs, hb⟩
  obtain ⟨p15, c15, rfl⟩ := hs.formN 2 rfl
  have H16 := Lib.hid ((H14.out.step hb).add hs)
  clear H14
  clear hs hb
  go_wp2_with fail
  refine (spans_lit [(5, 7), (12, 13)] (by decide) 4 rfl 2 rfl _ rfl _).mono ?_
  rintro e w17 ⟨p17, c17, rfl, hs, hb⟩
  have H18 := Lib.hid ((H16.out.step hb).add hs)
  clear H16
  clear hs hb
  go_wp2_with fail
  have hN := grow_any (H18.out.nth 0 rfl) (by decide) 6 1
  rw [ex_4] at hN
  refine hN.mono ?_
  clear hN
  rintro e w19 ⟨sl19, rfl, hs, hb⟩
  obtain ⟨p19, c19, rfl⟩ := hs.formN 1 rfl
  have H20 := Lib.hid ((H18.out.step hb).add hs)
  clear H18
  clear hs hb
  go_wp2_with fail
  refine (spans_lit [(1, 4), (4, 7)] (by decide) 4 rfl 2 rfl _ rfl _).mono ?_
  rintro e w21 ⟨p21, c21, rfl, hs, hb⟩
  have H22 := Lib.hid ((H20.out.step hb).add hs)
  clear H20
  clear hs hb
  go_wp2_with fail
  have hN := union_any (H22.out.nth 0 rfl) (SlS.nil none 0 _) (by decide) (by decide)
  rw [ex_5] at hN
  refine hN.mono ?_
  clear hN
  rintro e w23 ⟨sl23, rfl, hs, hb⟩
  obtain ⟨p23, c23, rfl⟩ := hs.formN 0 rfl
  have H24 := Lib.hid ((H22.out.step hb).add hs)
  clear H22
  clear hs hb
  go_wp2_with fail
  refine (spans_lit [(5, 4)] (by decide) 2 rfl 1 rfl _ rfl _).mono ?_
  rintro e w25 ⟨p25, c25, rfl, hs, hb⟩
  have H26 := Lib.hid ((H24.out.step hb).add hs)
  clear H24
  clear hs hb
  go_wp2_with fail
  have hN := normal_any (H26.out.nth 0 rfl) (by decide)
  rw [ex_6] at hN
  refine hN.mono ?_
  clear hN
  rintro e w27 ⟨sl27, rfl, hs, hb⟩
  obtain ⟨p27, c27, rfl⟩ := hs.formN 0 rfl
  have H28 := Lib.hid ((H26.out.step hb).add hs)
  clear H26
  clear hs hb
  go_wp2_with fail
  refine (spans_lit [(1, 4)] (by decide) 2 rfl 1 rfl _ rfl _).mono ?_
  rintro e w29 ⟨p29, c29, rfl, hs, hb⟩
  have H30 := Lib.hid ((H28.out.step hb).add hs)
  clear H28
  clear hs hb
  go_wp2_with fail
  refine (spans_lit [(4, 5), (7, 8)] (by decide) 4 rfl 2 rfl _ rfl _).mono ?_
  rintro e w31 ⟨p31, c31, rfl, hs, hb⟩
  have H32 := Lib.hid ((H30.out.step hb).add hs)
  clear H30
  clear hs hb
  go_wp2_with fail
  have hN := union_any (H32.out.nth 1 rfl) (H32.out.nth 0 rfl) (by decide) (by decide)
  rw [ex_7] at hN
  refine hN.mono ?_
  clear hN
  rintro e w33 ⟨sl33, rfl, hs, hb⟩
  obtain ⟨p33, c33, rfl⟩ := hs.formN 2 rfl
  have H34 := Lib.hid ((H32.out.step hb).add hs)
  clear H32
  clear hs hb
  go_wp2_with fail
  refine (spans_lit [(1, 4), (5, 7)] (by decide) 4 rfl 2 rfl _ rfl _).mono ?_
  rintro e w35 ⟨p35, c35, rfl, hs, hb⟩
  have H36 := Lib.hid ((H34.out.step hb).add hs)
  clear H34
  clear hs hb
  go_wp2_with fail
  have hN := same_any (H36.out.nth 16 rfl) (H36.out.nth 0 rfl) (by decide)
  rw [show decide (([(1, 4), (5, 7)] : List Sp) = [(1, 4), (5, 7)]) = true by decide] at hN
  refine hN.mono ?_
  clear hN
  rintro e w37 ⟨rfl, hb⟩
  have H38 := Lib.hid (H36.out.step hb)
  clear H36
  clear hb
  go_wp2_with fail
  refine (spans_lit [(3, 4), (5, 6)] (by decide) 4 rfl 2 rfl _ rfl _).mono ?_
  rintro e w39 ⟨p39, c39, rfl, hs, hb⟩
  have H40 := Lib.hid ((H38.out.step hb).add hs)
  clear H38
  clear hs hb
  go_wp2_with fail
  have hN := same_any (H40.out.nth 14 rfl) (H40.out.nth 0 rfl) (by decide)
  rw [show decide (([(3, 4), (5, 6)] : List Sp) = [(3, 4), (5, 6)]) = true by decide] at hN
  refine hN.mono ?_
  clear hN
  rintro e w41 ⟨rfl, hb⟩
  have H42 := Lib.hid (H40.out.step hb)
  clear H40
  clear hb
  go_wp2_with fail
  refine (spans_lit [(1, 3), (6, 7)] (by decide) 4 rfl 2 rfl _ rfl _).mono ?_
  rintro e w43 ⟨p43, c43, rfl, hs, hb⟩
  have H44 := Lib.hid ((H42.out.step hb).add hs)
  clear H42
  clear hs hb
  go_wp2_with fail
  have hN := same_any (H44.out.nth 12 rfl) (H44.out.nth 0 rfl) (by decide)
  rw [show decide (([(1, 3), (6, 7)] : List Sp) = [(1, 3), (6, 7)]) = true by decide] at hN
  refine hN.mono ?_
  clear hN
  rintro e w45 ⟨rfl, hb⟩
  have H46 := Lib.hid (H44.out.step hb)
  clear H44
  clear hb
  go_wp2_with fail
  refine (spans_lit [(0, 14)] (by decide) 2 rfl 1 rfl _ rfl _).mono ?_
  rintro e w47 ⟨p47, c47, rfl, hs, hb⟩
  have H48 := Lib.hid ((H46.out.step hb).add hs)
  clear H46
  clear hs hb
  go_wp2_with fail
  have hN := same_any (H48.out.nth 11 rfl) (H48.out.nth 0 rfl) (by decide)
  rw [show decide (([(0, 14)] : List Sp) = [(0, 14)]) = true by decide] at hN
  refine hN.mono ?_
  clear hN
  rintro e w49 ⟨rfl, hb⟩
  have H50 := Lib.hid (H48.out.step hb)
  clear H48
  clear hb
  go_wp2_with fail
  refine (spans_lit [(1, 5), (7, 8)] (by decide) 4 rfl 2 rfl _ rfl _).mono ?_
  rintro e w51 ⟨p51, c51, rfl, hs, hb⟩
  have H52 := Lib.hid ((H50.out.step hb).add hs)
  clear H50
  clear hs hb
  go_wp2_with fail
  have hN := same_any (H52.out.nth 5 rfl) (H52.out.nth 0 rfl) (by decide)
  rw [show decide (([(1, 5), (7, 8)] : List Sp) = [(1, 5), (7, 8)]) = true by decide] at hN
  refine hN.mono ?_
  clear hN
  rintro e w53 ⟨rfl, hb⟩
  have H54 := Lib.hid (H52.out.step hb)
  clear H52
  clear hb
  go_wp2_with fail
  have hN := valid_any (H54.out.nth 20 rfl) (by decide)
  rw [show validB [(1, 4), (5, 7)] = true by decide] at hN
  refine hN.mono ?_
  clear hN
  rintro e w55 ⟨rfl, hb⟩
  have H56 := Lib.hid (H54.out.step hb)
  clear H54
  clear hb
  go_wp2_with fail
  refine (spans_lit [(1, 4), (4, 7)] (by decide) 4 rfl 2 rfl _ rfl _).mono ?_
  rintro e w57 ⟨p57, c57, rfl, hs, hb⟩
  have H58 := Lib.hid ((H56.out.step hb).add hs)
  clear H56
  clear hs hb
  go_wp2_with fail
  have hN := valid_any (H58.out.nth 0 rfl) (by decide)
  rw [show validB [(1, 4), (4, 7)] = false by decide] at hN
  refine hN.mono ?_
  clear hN
  rintro e w59 ⟨rfl, hb⟩
  have H60 := Lib.hid (H58.out.step hb)
  clear H58
  clear hb
  go_wp2_with fail
  have hN := has_any (H60.out.nth 21 rfl) (by decide) 3
  rw [show hasS [(1, 4), (5, 7)] 3 = true by decide] at hN
  refine hN.mono ?_
  clear hN
  rintro e w61 ⟨rfl, hb⟩
  have H62 := Lib.hid (H60.out.step hb)
  clear H60
  clear hb
  go_wp2_with fail
  have hN := has_any (H62.out.nth 21 rfl) (by decide) 4
  rw [show hasS [(1, 4), (5, 7)] 4 = false by decide] at hN
  refine hN.mono ?_
  clear hN
  rintro e w63 ⟨rfl, hb⟩
  have H64 := Lib.hid (H62.out.step hb)
  clear H62
  clear hb
  go_wp2
  go_ret
  exact ⟨rfl, H64.out.1⟩
end Go.Proofs.Ytojofkjnakiliaa
