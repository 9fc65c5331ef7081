/- NameOrder of layer 1 is true for all texts, and leaves its arguments as they were; no condition. -/
import Derived.Test.YtllobkppehlgbaaN9
namespace Go.Proofs.Ytllobkppehlgbaa
open Go.ChangeShapes Go.WideShapes Go.ChangeAt Go.RowKit Go.Joins
open Go.ChangeMaps (open_string shut_string)
open NmP
namespace Order
set_option linter.unusedVariables false
set_option maxHeartbeats 1000000 in
theorem walk_no (a b c : ByteArray) (w : World) (ha : a.size ≤ maxLen) (hb : b.size ≤ maxLen) (hc : c.size ≤ maxLen) (hv : (validB a.toList && validB b.toList && validB c.toList) = false) :
    Calls Try.prog 4 #[.string a, .string b, .string c] w fun e w' => e = .returned (.bool true) ∧ Below w.heap.size w w' := by
  have hn := fun W => names3 a b c W ha hb hc
  rw [hv] at hn
  have HN := Lib.hid hn
  clear hn hv
  go_enter Try.func4, Try.ntmps4
  go_wp2_with (first | (go_at_call 14; refine (head_any _).mono ?_; rintro e w1 ⟨rfl, hb⟩) | (go_at_call 18; refine (HN.out _).mono ?_; rintro e w2 ⟨rfl, rfl⟩))
  go_ret
  exact ⟨rfl, hb.trans (((Below.refl _ _).alloc hb.size _))⟩

set_option maxHeartbeats 20000000 in
set_option maxRecDepth 100000 in
theorem walk_yes (a b c : ByteArray) (w : World) (ha : a.size ≤ maxLen) (hb : b.size ≤ maxLen) (hc : c.size ≤ maxLen) (va : validB a.toList = true) (vb : validB b.toList = true) (vc : validB c.toList = true)  :
    Calls Try.prog 4 #[.string a, .string b, .string c] w fun e w' => e = .returned (.bool true) ∧ Below w.heap.size w w' := by
  have hn := fun W => names3 a b c W ha hb hc
  rw [va, vb, vc] at hn
  simp only [Bool.and_self] at hn
  have HN := Lib.hid hn
  clear hn
  have h1 := fun W => lcompare_any a b W ha hb va vb
  have h2 := fun W => lcompare_any b c W hb hc vb vc
  have h3 := fun W => lcompare_any a c W ha hc va vc
  have h4 := fun W => lcompare_any b a W hb ha vb va
  have h5 := fun W => lcompare_any a a W ha ha va va
  rw [cmpN_good.anti a.toList b.toList] at h4
  rw [(cmpN_good.zero a.toList a.toList).2 rfl] at h5
  have hz : (cmpN a.toList b.toList == 0) = (a.toList == b.toList) := by
    rw [Bool.eq_iff_iff, beq_iff_eq, beq_iff_eq]; exact cmpN_good.zero _ _
  have q1 := cmpN_good.rng a.toList b.toList
  have q2 := cmpN_good.rng b.toList c.toList
  have q3 := cmpN_good.rng a.toList c.toList
  have t1 := cmpN_good.trans a.toList b.toList c.toList
  have t2 := cmpN_good.trans c.toList a.toList b.toList
  have t3 := cmpN_good.trans b.toList c.toList a.toList
  rw [cmpN_good.anti a.toList c.toList, cmpN_good.anti b.toList c.toList] at t2
  rw [cmpN_good.anti a.toList c.toList, cmpN_good.anti a.toList b.toList] at t3
  generalize cmpN a.toList b.toList = x at *
  generalize cmpN b.toList c.toList = y at *
  generalize cmpN a.toList c.toList = z at *
  have r1 : 0 < x ∨ 0 < y ∨ z ≤ 0 := by
    by_cases p : x ≤ 0
    · by_cases p2 : y ≤ 0
      · exact .inr (.inr (t1 p p2))
      · omega
    · omega
  have r2 : 0 ≤ x ∨ 0 < y ∨ z < 0 := by
    by_cases p : z < 0
    · omega
    · by_cases p2 : y ≤ 0
      · have := t3 p2 (by omega); omega
      · omega
  have r3 : 0 < x ∨ 0 ≤ y ∨ z < 0 := by
    by_cases p : z < 0
    · omega
    · by_cases p2 : x ≤ 0
      · have := t2 (by omega) p2; omega
      · omega
  obtain ⟨nx, hnx⟩ : ∃ nx, nx = -x := ⟨_, rfl⟩
  rw [← hnx] at h4
  generalize he : (a.toList == b.toList) = eq at *
  clear t1 t2 t3 va vb vc
  rcases q1 with rfl | rfl | rfl <;> rcases q2 with rfl | rfl | rfl <;> rcases q3 with rfl | rfl | rfl
  all_goals first | (exfalso; omega) | skip
  all_goals cases eq
  all_goals (try (exact absurd hz (by decide)))
  all_goals
    subst hnx
    try simp only [Int.reduceNeg, Int.neg_zero] at h4
    clear hz r1 r2 r3
    have H1 := Lib.hid h1
    have H2 := Lib.hid h2
    have H3 := Lib.hid h3
    have H4 := Lib.hid h4
    have H5 := Lib.hid h5
    clear h1 h2 h3 h4 h5
    go_enter Try.func4, Try.ntmps4
    go_wp2_with (first | (go_at_call 14; refine (head_any _).mono ?_; rintro e w1 ⟨rfl, hb⟩; have HB := Lib.hid (hb.trans ((Below.refl _ w1).alloc hb.size (.cells #[.string a, .string b, .string c] 9))); clear hb) | (go_at_call 18; refine (HN.out _).mono ?_; rintro e w2 ⟨rfl, rfl⟩) | (go_at_call 19; first | ((with_reducible refine (H1.out _).mono ?_); rintro e w3 ⟨rfl, hb⟩; have HB := Lib.hid (HB.out.trans (hb.mono HB.out.size)); clear hb) | ((with_reducible refine (H2.out _).mono ?_); rintro e w3 ⟨rfl, hb⟩; have HB := Lib.hid (HB.out.trans (hb.mono HB.out.size)); clear hb) | ((with_reducible refine (H3.out _).mono ?_); rintro e w3 ⟨rfl, hb⟩; have HB := Lib.hid (HB.out.trans (hb.mono HB.out.size)); clear hb) | ((with_reducible refine (H4.out _).mono ?_); rintro e w3 ⟨rfl, hb⟩; have HB := Lib.hid (HB.out.trans (hb.mono HB.out.size)); clear hb) | ((with_reducible refine (H5.out _).mono ?_); rintro e w3 ⟨rfl, hb⟩; have HB := Lib.hid (HB.out.trans (hb.mono HB.out.size)); clear hb)))
    go_ret
    exact ⟨rfl, HB.out⟩

theorem walk (a b c : ByteArray) (w : World) (ha : a.size ≤ maxLen) (hb : b.size ≤ maxLen) (hc : c.size ≤ maxLen) :
    Calls Try.prog 4 #[.string a, .string b, .string c] w fun e w' => e = .returned (.bool true) ∧ Below w.heap.size w w' := by
  cases hv : (validB a.toList && validB b.toList && validB c.toList)
  · exact walk_no a b c w ha hb hc hv
  · simp only [Bool.and_eq_true] at hv
    obtain ⟨⟨va, vb⟩, vc⟩ := hv
    exact walk_yes a b c w ha hb hc va vb vc

theorem own : ownKnob Try.prog.godebug = none := by kernel_rfl
theorem laidOut : laidOutB Try.prog = true := by kernel_rfl

set_option maxRecDepth 100000 in
theorem lifted (os : Os) (started : os.Started) (H : Type) (enc : TypeId × Value → H) :
    ReturnsInHanded {} Try.checked os 4 .any (Rows.nameOrderSpec.pre6 enc Try.prog Try.f4 Rows.nameOrderRow.domain false) (Rows.nameOrderSpec.post enc Try.prog Try.f4 false true false false) := by
  refine returnsInHanded_of_change (C := Try.checked) own started (by kernel_rfl) Try.func4
    (ChangeSpec.witness6 (enc := enc) (C := Try.checked) false ⟨#[], #[.string ⟨#[]⟩, .string ⟨#[]⟩, .string ⟨#[]⟩], []⟩ 8 (by kernel_rfl) (by kernel_rfl) (by kernel_rfl) (by kernel_rfl)) ?_
  intro W base args ds gs before hval0 hW hcnd _
  have hval : ∀ (j : Nat) t v, Try.f4.params[j]? = some t → args[j]? = some v → Value.okWide Try.prog W .any base t v := hval0
  have hW' := hW
  obtain ⟨p, q, hA0, hV, rfl, hfz, hnd⟩ := hW
  have hA : DataW.TrodAll enc Try.prog W 0 (fun _ => true) true Try.f4.params.toList args.toList ds p := hA0
  rw [Try.params4] at hA hval
  obtain ⟨v0, vs0, d0, ds0, p0, q0, hargs, rfl, rfl, h0, r0⟩ := trodAll_cons hA
  obtain ⟨v1, vs1, d1, ds1, p1, q1, rfl, rfl, rfl, h1, r1⟩ := trodAll_cons r0
  obtain ⟨v2, vs2, d2, ds2, p2, q2, rfl, rfl, rfl, h2, r2⟩ := trodAll_cons r1
  obtain ⟨rfl, rfl, rfl⟩ := trodAll_nil r2
  obtain rfl : args = #[v0, v1, v2] := by cases args; simp_all
  obtain ⟨rfl, rfl⟩ := trodVars_none hV
  have k0 := h0
  have lt0 : ∀ x ∈ p0, x.block < W.heap.size := by obtain ⟨m, hm⟩ := k0; exact DataW.trod_lt m _ _ _ hm
  have k1 := h1
  have lt1 : ∀ x ∈ p1, x.block < W.heap.size := by obtain ⟨m, hm⟩ := k1; exact DataW.trod_lt m _ _ _ hm
  have k2 := h2
  have lt2 : ∀ x ∈ p2, x.block < W.heap.size := by obtain ⟨m, hm⟩ := k2; exact DataW.trod_lt m _ _ _ hm
  obtain ⟨s0, rfl, rfl, rfl, ws0⟩ := open_string Try.underlying9 (hval 0 9 v0 rfl rfl) h0
  obtain ⟨s1, rfl, rfl, rfl, ws1⟩ := open_string Try.underlying9 (hval 1 9 v1 rfl rfl) h1
  obtain ⟨s2, rfl, rfl, rfl, ws2⟩ := open_string Try.underlying9 (hval 2 9 v2 rfl rfl) h2
  clear hA0 hval0
  refine (walk s0 s1 s2 W ws0 ws1 ws2).mono fun e W' ⟨he, bel⟩ => ?_
  subst he
  exact ⟨_, rfl, _, _, _, [], _, [], hW', trodAll_mk1 (shut_bool Try.underlying4 _), (trodAll_cons_mk (Below.trod laidOut (by kernel_rfl) (of_decide_eq_true (by kernel_rfl)) k0 bel lt0) (trodAll_cons_mk (Below.trod laidOut (by kernel_rfl) (of_decide_eq_true (by kernel_rfl)) k1 bel lt1) (trodAll_cons_mk (Below.trod laidOut (by kernel_rfl) (of_decide_eq_true (by kernel_rfl)) k2 bel lt2) trodAll_mk0))), rfl, bel.frame _, fun h => by cases h⟩

theorem over : Rows.NameOrderSaid :=
  OpenClaim.holds_of_wide 4 Try.f4 rfl rfl rfl rfl rfl rfl rfl ⟨rfl, rfl, rfl, rfl, rfl⟩ rfl rfl rfl rfl rfl (by kernel_rfl) Try.func4 (by kernel_rfl)
    (of_decide_eq_true (by kernel_rfl)) (by unfold Func.isWrapper; rw [if_neg (of_decide_eq_false (by kernel_rfl))]; exact ⟨rfl, rfl⟩)
    (fun os started H enc _ => lifted os started H enc)

end Order
theorem nameOrder_holds : Rows.NameOrderSaid := Order.over
end Go.Proofs.Ytllobkppehlgbaa
