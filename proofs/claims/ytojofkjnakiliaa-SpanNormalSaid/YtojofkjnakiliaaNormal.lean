/- SpanNormal of layer 20 is true for every input, and leaves its arguments as they were; no condition. (Written by wip/tools/genspannormal.py.) -/
import Derived.Test.YtojofkjnakiliaaS14
namespace Go.Proofs.Ytojofkjnakiliaa
open Go.ChangeShapes Go.WideShapes Go.ChangeAt Go.RowKit Go.Joins Go.Shelf
open Go.ChangeMaps (open_string shut_string)
open SpP
namespace Normal
set_option linter.unusedVariables false

theorem rev_next {a : List Sp} {i n : Nat} (hn : a.length = n) (hi : i < n) : ∃ s, a[n - 1 - i]? = some s ∧ a.reverse.take (i + 1) = a.reverse.take i ++ [s] := by
  have h1 : n - 1 - i < a.length := by omega
  have h2 : a.reverse[i]? = some a[n - 1 - i] := by
    rw [List.getElem?_reverse (by omega), hn, List.getElem?_eq_getElem h1]
  exact ⟨_, List.getElem?_eq_getElem h1, by rw [List.take_add_one, h2]; rfl⟩
theorem norm_ok {l : List Sp} (h : InR l) (hl : l.length ≤ 1000) : normR l = (nrm l, 0) ∧ (nrm l).length ≤ 2 * l.length ∧ Val (nrm l) := by
  refine ⟨?_, nrm_len h, nrm_val h⟩
  unfold normR
  rw [if_pos ⟨by omega, (inB_iff l).2 h⟩]

set_option maxHeartbeats 1000000 in
set_option maxRecDepth 100000 in
theorem walk_1 {va : Value} {a : List Sp} {w : World} (ha : SlS va a w) (t : Int) (LA : Hid (a.length ≤ maxLen)) (FA : Hid (decide (a.length ≤ 60) = false)) :
    Calls Try.prog 4 #[va, .int .i64 t] w fun e w' => e = .returned (.bool true) ∧ RowKit.Below w.heap.size w w' := by
  have H0 := Lib.hid ((AllS.start w).add ha)
  obtain ⟨pa, ca, rfl⟩ := ha.form
  clear ha
  go_enter Try.func4, Try.ntmps4
  go_wp2_with fail
  refine (head_any _).mono ?_
  rintro e w1 ⟨rfl, hb⟩
  have H2 := Lib.hid (H0.out.step hb)
  clear H0
  clear hb
  go_wp2_with fail
  have hN := few_sl (H2.out.nth 0 rfl) LA.out
  rw [FA.out] at hN
  refine hN.mono ?_
  clear hN
  rintro e w3 ⟨rfl, hb⟩
  have H4 := Lib.hid (H2.out.step hb)
  clear H2
  clear hb
  go_wp2
  go_ret
  exact ⟨rfl, H4.out.1⟩
set_option maxHeartbeats 1000000 in
set_option maxRecDepth 100000 in
theorem walk_2 {va : Value} {a : List Sp} {w : World} (ha : SlS va a w) (t : Int) (LA : Hid (a.length ≤ maxLen)) (FA : Hid (decide (a.length ≤ 60) = true)) (HN : Hid (normR a = ([], 1))) (VA : Hid (validB a = false)) :
    Calls Try.prog 4 #[va, .int .i64 t] w fun e w' => e = .returned (.bool true) ∧ RowKit.Below w.heap.size w w' := by
  have H0 := Lib.hid ((AllS.start w).add ha)
  obtain ⟨pa, ca, rfl⟩ := ha.form
  clear ha
  go_enter Try.func4, Try.ntmps4
  go_wp2_with fail
  refine (head_any _).mono ?_
  rintro e w1 ⟨rfl, hb⟩
  have H2 := Lib.hid (H0.out.step hb)
  clear H0
  clear hb
  go_wp2_with fail
  have hN := few_sl (H2.out.nth 0 rfl) LA.out
  rw [FA.out] at hN
  refine hN.mono ?_
  clear hN
  rintro e w3 ⟨rfl, hb⟩
  have H4 := Lib.hid (H2.out.step hb)
  clear H2
  clear hb
  go_wp2_with fail
  have hN := normal_any (H4.out.nth 0 rfl) LA.out
  rw [HN.out] at hN
  refine hN.mono ?_
  clear hN
  rintro e w5 ⟨sl5, rfl, hs, hb⟩
  obtain ⟨p5, c5, rfl⟩ := hs.formN 0 rfl
  have H6 := Lib.hid ((H4.out.step hb).add hs)
  clear H4
  clear hs hb
  go_wp2_with fail
  have hN := valid_any (H6.out.nth 1 rfl) LA.out
  rw [VA.out] at hN
  refine hN.mono ?_
  clear hN
  rintro e w7 ⟨rfl, hb⟩
  have H8 := Lib.hid (H6.out.step hb)
  clear H6
  clear hb
  go_wp2
  go_ret
  exact ⟨rfl, H8.out.1⟩

set_option maxHeartbeats 4000000 in
set_option maxRecDepth 100000 in
theorem main {va : Value} {a n : List Sp} {w : World} (ha : SlS va a w) (t : Int) (LA : Hid (a.length ≤ maxLen)) (FA : Hid (decide (a.length ≤ 60) = true)) (KA : a.length ≤ 60) (LN : Hid (n.length ≤ maxLen)) (LR : Hid (a.reverse.length ≤ maxLen))
    (HN : Hid (normR a = (n, 0))) (HR : Hid (normR a.reverse = (n, 0))) (HG : Hid (normR n = (n, 0))) (VN : Hid (validB n = true)) (HS : Hid (hasS n t = hasS a t)) :
    Calls Try.prog 4 #[va, .int .i64 t] w fun e w' => e = .returned (.bool true) ∧ RowKit.Below w.heap.size w w' := by
  have H0 := Lib.hid ((AllS.start w).add ha)
  obtain ⟨pa, ca, rfl⟩ := ha.form
  clear ha
  go_enter Try.func4, Try.ntmps4
  go_wp2_with fail
  refine (head_any _).mono ?_
  rintro e w1 ⟨rfl, hb⟩
  have H2 := Lib.hid (H0.out.step hb)
  clear H0
  clear hb
  go_wp2_with fail
  have hN := few_sl (H2.out.nth 0 rfl) LA.out
  rw [FA.out] at hN
  refine hN.mono ?_
  clear hN
  rintro e w3 ⟨rfl, hb⟩
  have H4 := Lib.hid (H2.out.step hb)
  clear H2
  clear hb
  go_wp2_with fail
  have hN := normal_any (H4.out.nth 0 rfl) LA.out
  rw [HN.out] at hN
  refine hN.mono ?_
  clear hN
  rintro e w5 ⟨sl5, rfl, hs, hb⟩
  obtain ⟨p5, c5, rfl⟩ := hs.form
  have H6 := Lib.hid ((H4.out.step hb).add hs)
  clear H4
  clear hs hb
  go_wp2
  obtain ⟨i0, hi0, hz0, hz1, hz2⟩ := info_parts infoS
  have HI := Lib.hid hi0
  have HZ0 := Lib.hid hz0
  have HZ1 := Lib.hid hz1
  have HZ2 := Lib.hid hz2
  have H9 := H6
  clear H6 hi0 hz0 hz1 hz2
  obtain ⟨na, hna⟩ : ∃ na, a.length = na := ⟨_, rfl⟩
  have HNA := Lib.hid hna
  rw [hna]
  have SAA := H9.out.nth 1 rfl
  rw [hna] at SAA KA
  have SA := Lib.hid SAA
  clear hna SAA
  generalize w5 = WW at *
  go_loopw [8, 39] (fun s8 s39 wr => ∃ (i cap : Nat) (p : Option Addr), i ≤ na ∧ s39 = .int .i64 i ∧ s8 = .slice p i cap ∧ Hid (RowKit.Below WW.heap.size WW wr) ∧ Hid (wr.ownsRow WW.heap.size 34 2 s8 i (rowS (a.reverse.take i)))) (fun _ s39 _ => na - (intOf s39).toNat)
  case atStart => exact ⟨0, 0, none, by omega, rfl, rfl, Lib.hid (RowKit.Below.refl _ _), Lib.hid (World.ownsRow_nil _ _ _ _)⟩
  case round =>
    obtain ⟨i, cap, p, hi, rfl, rfl, HB, HO⟩ := hrel
    by_cases h1 : i < na
    · obtain ⟨s, hs, hrt⟩ := rev_next HNA.out h1
      have hSA := SA.out.keep HB.out
      obtain ⟨b', off, rfl, hlt, hRS⟩ : ∃ b off, pa = some ⟨b, off, none⟩ ∧ b < wr.heap.size ∧ RS b off a wr := by
        exact hSA.at_ (by have := HNA.out; omega)
      obtain ⟨z0, z1⟩ := hRS.at_ hs
      have HRT : Hid (rowS (a.reverse.take (i + 1)) = rowS (a.reverse.take i) ++ valsS s) := Lib.hid (by rw [hrt, rowS_append]; simp [rowS])
      have hws := HB.out.size
      obtain ⟨x, y⟩ := s
      simp only at z0 z1
      obtain ⟨k, hk⟩ : ∃ k, na - 1 - i = k := ⟨_, rfl⟩
      rw [hk] at z0 z1
      have hki : (na : Int) - 1 - (i : Int) = (k : Int) := by omega
      have hi1 : (i : Int) < (na : Int) := by omega
      have hk1 : (k : Int) < (na : Int) := by omega
      have hk0 : (0 : Int) ≤ (k : Int) := by omega
      clear hs hrt hSA hRS hk
      go_wp2_with (at_builtin; refine wpList_append_own _ rfl (.tmp 42) (.tmp 51) 22 rfl WW.heap.size 34 i0 zSp 2 16 Try.underlying22 HI.out HZ0.out HZ1.out HZ2.out rfl (by decide) (.slice p i cap) i (rowS (a.reverse.take i)) rfl (HO.out.alloc _) ⟨wr.heap.size, 0, none⟩ 1 1 (valsS (x, y)) rfl rfl (news_s wr (x, y) 34) (one_s _) (by unfold maxLen; omega) (by omega) (by simp; omega) (fun v' w6 hown' hgrow _ => ?_); have HO6 := Lib.hid hown'; have HB6 := Lib.hid (own_keep HB.out HO.out hgrow); clear hown' hgrow)
      go_roundw
      case rel =>
        obtain ⟨p', cap', hv⟩ := row_form HO6.out
        exact ⟨i + 1, cap', p', by omega, by go_num, hv, HB6, Lib.hid (by rw [HRT.out]; exact HO6.out)⟩
      case measure => simp [intOf]; omega
    · obtain rfl : i = na := by omega
      have hlr : a.reverse.length = i := by rw [List.length_reverse, HNA.out]
      have ho := HO.out
      rw [List.take_of_length_le (by rw [hlr]; exact Nat.le_refl _)] at ho
      have HZ := Lib.hid ((H9.out.step HB.out).add (SlS.owned (l := a.reverse) (by rw [hlr]; exact ho)))
      clear ho hlr
      go_wp2_with fail
      have hN := normal_any (HZ.out.nth 0 rfl) LR.out
      rw [HR.out] at hN
      refine hN.mono ?_
      clear hN
      rintro e w1 ⟨sl1, rfl, hs, hb⟩
      obtain ⟨p1, c1, rfl⟩ := hs.form
      have H2 := Lib.hid ((HZ.out.step hb).add hs)
      clear HZ
      clear hs hb
      go_wp2_with fail
      have hN := normal_any (H2.out.nth 2 rfl) LN.out
      rw [HG.out] at hN
      refine hN.mono ?_
      clear hN
      rintro e w3 ⟨sl3, rfl, hs, hb⟩
      obtain ⟨p3, c3, rfl⟩ := hs.form
      have H4 := Lib.hid ((H2.out.step hb).add hs)
      clear H2
      clear hs hb
      go_wp2_with fail
      have hN := valid_any (H4.out.nth 3 rfl) LN.out
      rw [VN.out] at hN
      refine hN.mono ?_
      clear hN
      rintro e w5 ⟨rfl, hb⟩
      have H6 := Lib.hid (H4.out.step hb)
      clear H4
      clear hb
      go_wp2_with fail
      have hN := same_any (H6.out.nth 1 rfl) (H6.out.nth 3 rfl) LN.out
      rw [show decide (n = n) = true from decide_eq_true rfl] at hN
      refine hN.mono ?_
      clear hN
      rintro e w7 ⟨rfl, hb⟩
      have H8 := Lib.hid (H6.out.step hb)
      clear H6
      clear hb
      go_wp2_with fail
      have hN := same_any (H8.out.nth 0 rfl) (H8.out.nth 3 rfl) LN.out
      rw [show decide (n = n) = true from decide_eq_true rfl] at hN
      refine hN.mono ?_
      clear hN
      rintro e w9 ⟨rfl, hb⟩
      have H10 := Lib.hid (H8.out.step hb)
      clear H8
      clear hb
      go_wp2_with fail
      have hN := has_any (H10.out.nth 3 rfl) LN.out t
      rw [HS.out] at hN
      refine hN.mono ?_
      clear hN
      rintro e w11 ⟨rfl, hb⟩
      have H12 := Lib.hid (H10.out.step hb)
      clear H10
      clear hb
      obtain ⟨q, hq⟩ : ∃ q, hasS a t = q := ⟨_, rfl⟩
      have HHA := Lib.hid (fun W (h : RowKit.Below w11.heap.size w11 W) => has_any ((H12.out.step h).nth 4 rfl) LA.out t)
      rw [hq, HNA.out] at HHA
      rw [hq]
      clear hq
      cases q
      all_goals
        go_wp2_with fail
        refine (HHA.out _ (RowKit.Below.refl _ _)).mono ?_
        rintro e wx ⟨rfl, hbx⟩
        have HBX := Lib.hid hbx
        clear hbx
        go_wp2
        go_ret
        exact ⟨rfl, H12.out.1.trans (HBX.out.mono H12.out.1.size)⟩

theorem walk (a : Option Addr) (na ca : Nat) (t : Int) (w : World) (ha : ∃ l : List Sp, l.length = na ∧ SlS (.slice a na ca) l w ∧ l.length ≤ maxLen) (wt : (Lit.int .i64 t).wf = true) :
    Calls Try.prog 4 #[.slice a na ca, .int .i64 t] w fun e w' => e = .returned (.bool true) ∧ RowKit.Below w.heap.size w w' := by
  obtain ⟨la, _, sa, ma⟩ := ha
  have LA := Lib.hid ma
  cases fa : decide (la.length ≤ 60)
  · exact walk_1 sa t LA (Lib.hid fa)
  have hla := of_decide_eq_true fa
  cases qa : inB la
  · have hn : normR la = ([], 1) := by unfold normR; rw [if_neg (fun z => by rw [qa] at z; cases z.2)]
    exact walk_2 sa t LA (Lib.hid fa) (Lib.hid hn) (Lib.hid (nrm_bad qa))
  have hin := (inB_iff la).1 qa
  obtain ⟨n1, n2, n3⟩ := norm_ok hin (by omega)
  obtain ⟨r1, r2, r3⟩ := norm_ok (inR_reverse hin) (by rw [List.length_reverse]; omega)
  obtain ⟨g1, g2, g3⟩ := norm_ok n3.inR (by omega)
  rw [nrm_turned hin] at r1
  rw [nrm_again hin] at g1
  exact main sa t LA (Lib.hid fa) hla (Lib.hid (lenS (n := 120) (by omega) (by omega))) (Lib.hid (by rw [List.length_reverse]; exact ma)) (Lib.hid n1) (Lib.hid r1) (Lib.hid g1) (Lib.hid (val_ok n3 (by omega))) (Lib.hid (nrm_has hin t))

theorem own : ownKnob Try.prog.godebug = none := by kernel_rfl
theorem laidOut : laidOutB Try.prog = true := by kernel_rfl

set_option maxRecDepth 100000 in
theorem lifted (os : Os) (started : os.Started) (H : Type) (enc : TypeId × Value → H) :
    ReturnsInHanded {} Try.checked os 4 .any (Rows.spanNormalSpec.pre6 enc Try.prog Try.f4 Rows.spanNormalRow.domain false) (Rows.spanNormalSpec.post enc Try.prog Try.f4 false true false false) := by
  refine returnsInHanded_of_change (C := Try.checked) own started (by kernel_rfl) Try.func4
    (ChangeSpec.witness6 (enc := enc) (C := Try.checked) false ⟨#[], #[.slice none 0 0, .int .i64 0], []⟩ 8 (by kernel_rfl) (by kernel_rfl) (by kernel_rfl) (by kernel_rfl)) ?_
  intro W base args ds gs before hval0 hW hcnd _
  have hval : ∀ (j : Nat) t v, Try.f4.params[j]? = some t → args[j]? = some v → Value.okWide Try.prog W .any base t v := hval0
  have hW' := hW
  obtain ⟨p, q, hA0, hV, rfl, hfz, hnd⟩ := hW
  have hA : DataW.TrodAll enc Try.prog W 0 (fun _ => true) true Try.f4.params.toList args.toList ds p := hA0
  rw [Try.params4] at hA hval
  obtain ⟨v0, vs0, d0, ds0, p0, q0, hargs, rfl, rfl, h0, r0⟩ := trodAll_cons hA
  obtain ⟨v1, vs1, d1, ds1, p1, q1, rfl, rfl, rfl, h1, r1⟩ := trodAll_cons r0
  obtain ⟨rfl, rfl, rfl⟩ := trodAll_nil r1
  obtain rfl : args = #[v0, v1] := by cases args; simp_all
  obtain ⟨rfl, rfl⟩ := trodVars_none hV
  have k0 := h0
  have lt0 : ∀ x ∈ p0, x.block < W.heap.size := by obtain ⟨m, hm⟩ := k0; exact DataW.trod_lt m _ _ _ hm
  have k1 := h1
  have lt1 : ∀ x ∈ p1, x.block < W.heap.size := by obtain ⟨m, hm⟩ := k1; exact DataW.trod_lt m _ _ _ hm
  obtain ⟨a0, len0, cap0, rfl⟩ := okWide_slice Try.underlying22 (hval 0 22 v0 rfl rfl)
  have w0 := open_spans h0
  obtain ⟨a1, rfl, rfl, rfl, w1⟩ := open_int Try.underlying3 (hval 1 3 v1 rfl rfl) h1
  clear hA0 hval0
  refine (walk a0 len0 cap0 a1 W w0 w1).mono fun e W' ⟨he, bel⟩ => ?_
  subst he
  exact ⟨_, rfl, _, _, _, [], _, [], hW', trodAll_mk1 (shut_bool Try.underlying4 _), (trodAll_cons_mk (Below.trod laidOut (by kernel_rfl) (of_decide_eq_true (by kernel_rfl)) k0 bel lt0) (trodAll_cons_mk (Below.trod laidOut (by kernel_rfl) (of_decide_eq_true (by kernel_rfl)) k1 bel lt1) trodAll_mk0)), rfl, bel.frame _, fun h => by cases h⟩

theorem over : Rows.SpanNormalSaid :=
  OpenClaim.holds_of_wide 4 Try.f4 rfl rfl rfl rfl rfl rfl rfl ⟨rfl, rfl, rfl, rfl, rfl⟩ rfl rfl rfl rfl rfl (by kernel_rfl) Try.func4 (by kernel_rfl)
    (of_decide_eq_true (by kernel_rfl)) (by unfold Func.isWrapper; rw [if_neg (of_decide_eq_false (by kernel_rfl))]; exact ⟨rfl, rfl⟩)
    (fun os started H enc _ => lifted os started H enc)


end Normal
theorem spanNormal_holds : Rows.SpanNormalSaid := Normal.over
end Go.Proofs.Ytojofkjnakiliaa
