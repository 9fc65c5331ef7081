/- LexerErrors of layer 3 is true for all texts, and leaves its arguments as they were; no condition. -/
import Derived.Test.YtggcnpmniidgkaaL18
import Derived.Test.YtggcnpmniidgkaaShelf
import Derived.ProofKit
import Derived.OpenShut
import Derived.ShutString
import Derived.ChangeOld
import Derived.SizedLaws
import Derived.Lib.SmallJoins
namespace Go.Proofs.Ytggcnpmniidgkaa
open Go.ChangeShapes Go.WideShapes Go.ChangeAt Go.RowKit Go.Joins Go.Shelf
open Go.ChangeMaps (open_string shut_string)
open NmP
namespace Errs
set_option linter.unusedVariables false

theorem Lex_sl (s : ByteArray) (w : World) (hs : s.size ≤ maxLen) (ts : List Tok) (er k : Nat) (h : lexR s.toList = (ts, er, k)) :
    Calls Try.prog 15 #[.string s] w fun e w' => ∃ sl, e = .returned (.tuple #[sl, .int .i64 (er : Int), .int .i64 (k : Int)]) ∧ SlT sl ts w' ∧ Below w.heap.size w w' := by
  have := Lex_all s w hs
  rw [h] at this
  exact this.mono fun e w' ⟨sl, he, ho, hb⟩ => ⟨sl, he, SlT.owned ho, hb⟩

set_option maxHeartbeats 2000000 in
set_option maxRecDepth 100000 in
theorem walk_a (a b c : ByteArray) (w : World) (ha : a.size ≤ maxLen) (hb : b.size ≤ maxLen) (ta tb : List Tok) (ea ka eb kb : Nat) (hra : lexR a.toList = (ta, ea, ka)) (hrb : lexR b.toList = (tb, eb, kb)) (he : ea ≠ 0) :
    Calls Try.prog 7 #[.string a, .string b, .string c] w fun e w' => e = .returned (.bool true) ∧ Below w.heap.size w w' := by
  have q1 : ((ea : Int) == 0) = false := beq_eq_false_iff_ne.2 (by omega)
  have q1b : ((ea : Int) != 0) = true := by simp only [bne, q1]; rfl
  have HA := Lib.hid (fun W => Lex_sl a W ha ta ea ka hra)
  have HB := Lib.hid (fun W => Lex_sl b W hb tb eb kb hrb)
  clear hra hrb
  unfold maxLen at ha hb
  go_enter Try.func7, Try.ntmps7
  go_wp2_with (first | (go_at_call 14; refine (head_any _).mono ?_; rintro e w1 ⟨rfl, hb1⟩; have HW := Lib.hid hb1; clear hb1) | (go_at_call 15; fail))
  refine (HA.out _).mono ?_
  rintro e w2 ⟨va, rfl, sa, hb2⟩
  obtain ⟨pa, ca, rfl⟩ := sa.form
  replace HW := Lib.hid (HW.out.trans (hb2.mono HW.out.size))
  clear sa hb2
  go_wp2_with (go_at_call 15; fail)
  refine (HB.out _).mono ?_
  rintro e w3 ⟨vb, rfl, sb, hb3⟩
  obtain ⟨pb, cb, rfl⟩ := sb.form
  replace HW := Lib.hid (HW.out.trans (hb3.mono HW.out.size))
  clear sb hb3
  by_cases z1 : eb = 0
  · have q2 : ((eb : Int) == 0) = true := by rw [z1]; rfl
    go_wp2
    go_ret
    exact ⟨rfl, HW.out⟩
  · have q2 : ((eb : Int) == 0) = false := beq_eq_false_iff_ne.2 (by omega)
    by_cases z2 : eb = 2
    · have q3 : ((eb : Int) == 2) = true := by rw [z2]; rfl
      go_wp2
      go_ret
      exact ⟨rfl, HW.out⟩
    · have q3 : ((eb : Int) == 2) = false := beq_eq_false_iff_ne.2 (by omega)
      go_wp2
      go_ret
      exact ⟨rfl, HW.out⟩
set_option maxHeartbeats 2000000 in
set_option maxRecDepth 100000 in
theorem walk_b (a b c : ByteArray) (w : World) (ha : a.size ≤ maxLen) (hb : b.size ≤ maxLen) (ta tb : List Tok) (kb : Nat) (hra : lexR a.toList = (ta, 0, 0)) (hrb : lexR b.toList = (tb, 0, kb)) :
    Calls Try.prog 7 #[.string a, .string b, .string c] w fun e w' => e = .returned (.bool true) ∧ Below w.heap.size w w' := by
  have HA := Lib.hid (fun W => Lex_sl a W ha ta 0 0 hra)
  have HB := Lib.hid (fun W => Lex_sl b W hb tb 0 kb hrb)
  clear hra hrb
  unfold maxLen at ha hb
  go_enter Try.func7, Try.ntmps7
  go_wp2_with (first | (go_at_call 14; refine (head_any _).mono ?_; rintro e w1 ⟨rfl, hb1⟩; have HW := Lib.hid hb1; clear hb1) | (go_at_call 15; fail))
  refine (HA.out _).mono ?_
  rintro e w2 ⟨va, rfl, sa, hb2⟩
  obtain ⟨pa, ca, rfl⟩ := sa.form
  replace HW := Lib.hid (HW.out.trans (hb2.mono HW.out.size))
  clear sa hb2
  go_wp2_with (go_at_call 15; fail)
  refine (HB.out _).mono ?_
  rintro e w3 ⟨vb, rfl, sb, hb3⟩
  obtain ⟨pb, cb, rfl⟩ := sb.form
  replace HW := Lib.hid (HW.out.trans (hb3.mono HW.out.size))
  clear sb hb3
  go_wp2
  go_ret
  exact ⟨rfl, HW.out⟩
set_option maxHeartbeats 2000000 in
set_option maxRecDepth 100000 in
theorem walk_c (a b c : ByteArray) (w : World) (ha : a.size ≤ maxLen) (hb : b.size ≤ maxLen) (ta tb : List Tok) (kb : Nat) (hra : lexR a.toList = (ta, 0, 0)) (hrb : lexR b.toList = (tb, 2, kb)) :
    Calls Try.prog 7 #[.string a, .string b, .string c] w fun e w' => e = .returned (.bool true) ∧ Below w.heap.size w w' := by
  have HA := Lib.hid (fun W => Lex_sl a W ha ta 0 0 hra)
  have HB := Lib.hid (fun W => Lex_sl b W hb tb 2 kb hrb)
  clear hra hrb
  unfold maxLen at ha hb
  go_enter Try.func7, Try.ntmps7
  go_wp2_with (first | (go_at_call 14; refine (head_any _).mono ?_; rintro e w1 ⟨rfl, hb1⟩; have HW := Lib.hid hb1; clear hb1) | (go_at_call 15; fail))
  refine (HA.out _).mono ?_
  rintro e w2 ⟨va, rfl, sa, hb2⟩
  obtain ⟨pa, ca, rfl⟩ := sa.form
  replace HW := Lib.hid (HW.out.trans (hb2.mono HW.out.size))
  clear sa hb2
  go_wp2_with (go_at_call 15; fail)
  refine (HB.out _).mono ?_
  rintro e w3 ⟨vb, rfl, sb, hb3⟩
  obtain ⟨pb, cb, rfl⟩ := sb.form
  replace HW := Lib.hid (HW.out.trans (hb3.mono HW.out.size))
  clear sb hb3
  go_wp2
  go_ret
  exact ⟨rfl, HW.out⟩
set_option maxHeartbeats 2000000 in
set_option maxRecDepth 100000 in
theorem walk_d (a b c : ByteArray) (w : World) (ha : a.size ≤ maxLen) (hb : b.size ≤ maxLen) (ta tb : List Tok) (eb kb : Nat) (hra : lexR a.toList = (ta, 0, 0)) (hrb : lexR b.toList = (tb, eb, kb)) (e0 : eb ≠ 0) (e2 : eb ≠ 2) (l1 : a.size ≤ 8000) (l2 : b.size ≤ 8000) (l3 : kb < b.size) (l4 : ta.length ≤ 2000) (hc : c.size ≤ 140737488355328)
    (o : Int) (line : ByteArray) (ho : Lib.indexByte (b.extract kb b.size).data.toList 10 = o) (hline : (o = -1 ∧ line = b) ∨ (∃ n : Nat, o = n ∧ kb + n < b.size ∧ line = b.extract 0 (kb + n)))
    (hf : a.size + line.size + c.size + 2 ≤ 8000 → ta.length + line.size ≤ 2000 → ∀ s : ByteArray, s.toList = a.toList ++ 10 :: (line.toList ++ 10 :: c.toList) → lexR s.toList = ([], eb, a.size + 1 + kb)) :
    Calls Try.prog 7 #[.string a, .string b, .string c] w fun e w' => e = .returned (.bool true) ∧ Below w.heap.size w w' := by
  have q2 : ((eb : Int) == 0) = false := beq_eq_false_iff_ne.2 (fun q => e0 (by simpa using q))
  have q3 : ((eb : Int) == 2) = false := beq_eq_false_iff_ne.2 (fun q => e2 (Int.ofNat_inj.1 q))
  have q4 : ¬ (kb : Int) < 0 := by omega
  have q5 : ¬ (b.size : Int) ≤ (kb : Int) := by omega
  have HI : Hid (∀ W, Calls Try.prog 23 #[.string (b.extract kb b.size), .string ⟨#[10]⟩] W fun e w' => e = .returned (.int .i64 o) ∧ w' = W) := Lib.hid (fun W => by
    have := Try.strings_Index_one (b.extract kb b.size) 10 W
    rwa [ho] at this)
  have HF := Lib.hid hf
  clear hf ho
  have HA := Lib.hid (fun W => Lex_sl a W ha ta 0 0 hra)
  have HB := Lib.hid (fun W => Lex_sl b W hb tb eb kb hrb)
  clear hra hrb e0 e2
  unfold maxLen at ha hb
  go_enter Try.func7, Try.ntmps7
  go_wp2_with (first | (go_at_call 14; refine (head_any _).mono ?_; rintro e w1 ⟨rfl, hb1⟩; have HW := Lib.hid hb1; clear hb1) | (go_at_call 15; fail))
  refine (HA.out _).mono ?_
  rintro e w2 ⟨va, rfl, sa, hb2⟩
  obtain ⟨pa, ca, rfl⟩ := sa.form
  replace HW := Lib.hid (HW.out.trans (hb2.mono HW.out.size))
  clear sa hb2
  go_wp2_with (go_at_call 15; fail)
  refine (HB.out _).mono ?_
  rintro e w3 ⟨vb, rfl, sb, hb3⟩
  obtain ⟨pb, cb, rfl⟩ := sb.form
  replace HW := Lib.hid (HW.out.trans (hb3.mono HW.out.size))
  clear sb hb3
  have hlz : line.size ≤ 8000 := by
    rcases hline with ⟨_, rfl⟩ | ⟨n, _, hn, rfl⟩
    · exact l2
    · rw [ByteArray.size_extract]; omega
  have htl : (a ++ (⟨#[10]⟩ : ByteArray) ++ line ++ (⟨#[10]⟩ : ByteArray) ++ c).toList = a.toList ++ 10 :: (line.toList ++ 10 :: c.toList) := by
    simp only [tl, ByteArray.data_append]
    simp
  have hsz : (a ++ (⟨#[10]⟩ : ByteArray) ++ line ++ (⟨#[10]⟩ : ByteArray) ++ c).size = a.size + line.size + c.size + 2 := by
    rw [← tl_len, htl]
    simp [tl_len]; omega
  have HFF : Hid (a.size + line.size + c.size + 2 ≤ 8000 → ta.length + line.size ≤ 2000 → ∀ W, Calls Try.prog 24 #[.string (a ++ (⟨#[10]⟩ : ByteArray) ++ line ++ (⟨#[10]⟩ : ByteArray) ++ c), .int .i64 (eb : Int), .int .i64 ((a.size : Int) + 1 + (kb : Int))] W fun e w' => e = .returned (.bool true) ∧ Below W.heap.size W w') :=
    Lib.hid (fun h1 h2 W => fails_true _ eb (a.size + 1 + kb) _ W (by unfold maxLen; rw [hsz]; omega) (HF.out h1 h2 _ htl) (by omega))
  clear htl HF
  rcases hline with ⟨rfl, rfl⟩ | ⟨n, rfl, hn, rfl⟩
  · clear hsz
    by_cases c1 : 8000 < a.size + line.size + c.size + 2
    · go_wp2_with (go_at_call 23; refine (HI.out _).mono ?_; rintro e w4 ⟨rfl, rfl⟩)
      go_ret
      exact ⟨rfl, HW.out⟩
    · by_cases c2 : 2000 < ta.length + line.size
      · go_wp2_with (go_at_call 23; refine (HI.out _).mono ?_; rintro e w4 ⟨rfl, rfl⟩)
        go_ret
        exact ⟨rfl, HW.out⟩
      · have HG := Lib.hid (HFF.out (by omega) (by omega))
        go_wp2_with (first | (go_at_call 23; refine (HI.out _).mono ?_; rintro e w4 ⟨rfl, rfl⟩) | (go_at_call 24; refine (HG.out _).mono ?_; rintro e w5 ⟨rfl, hb5⟩; replace HW := Lib.hid (HW.out.trans (hb5.mono HW.out.size)); clear hb5))
        go_ret
        exact ⟨rfl, HW.out⟩
  · have hxs : (b.extract 0 (kb + n)).size = kb + n := by rw [ByteArray.size_extract]; omega
    rw [hxs] at hlz hsz HFF
    clear hsz
    by_cases c1 : 8000 < a.size + (kb + n) + c.size + 2
    · go_wp2_with (go_at_call 23; refine (HI.out _).mono ?_; rintro e w4 ⟨rfl, rfl⟩)
      go_ret
      exact ⟨rfl, HW.out⟩
    · by_cases c2 : 2000 < ta.length + (kb + n)
      · go_wp2_with (go_at_call 23; refine (HI.out _).mono ?_; rintro e w4 ⟨rfl, rfl⟩)
        go_ret
        exact ⟨rfl, HW.out⟩
      · have HG := Lib.hid (HFF.out (by omega) (by omega))
        go_wp2_with (first | (go_at_call 23; refine (HI.out _).mono ?_; rintro e w4 ⟨rfl, rfl⟩) | (go_at_call 24; refine (HG.out _).mono ?_; rintro e w5 ⟨rfl, hb5⟩; replace HW := Lib.hid (HW.out.trans (hb5.mono HW.out.size)); clear hb5))
        go_ret
        exact ⟨rfl, HW.out⟩

theorem walk (a b c : ByteArray) (w : World) (ha : a.size ≤ maxLen) (hb : b.size ≤ maxLen) (hc0 : c.size ≤ maxLen) (hc : c.size ≤ 140737488355328) :
    Calls Try.prog 7 #[.string a, .string b, .string c] w fun e w' => e = .returned (.bool true) ∧ Below w.heap.size w w' := by
  by_cases h1 : (lexR a.toList).2.1 = 0
  · obtain ⟨ts, l1, o1, n1, r1⟩ := lexR_ok h1
    rw [tl_len] at l1
    obtain ⟨tb, eb, kb, hrb⟩ : ∃ t e k, lexR b.toList = (t, e, k) := ⟨_, _, _, rfl⟩
    by_cases z1 : eb = 0
    · subst z1
      exact walk_b a b c w ha hb _ _ _ r1 hrb
    · by_cases z2 : eb = 2
      · subst z2
        exact walk_c a b c w ha hb _ _ _ r1 hrb
      · obtain ⟨l2, rfl, pre, z, hbad⟩ := lexR_bad hrb z1 z2
        have hin := lexA_bad hbad
        rw [tl_len] at l2
        rw [tl_len] at hin
        have hext : (b.extract kb b.size).data.toList = b.toList.drop kb := by
          rw [← tl, tl_sub, List.take_of_length_le (by rw [List.length_drop, tl_len]; omega)]
        by_cases hi : 0 ≤ Lib.indexByte (b.extract kb b.size).data.toList 10
        · obtain ⟨o, ho⟩ := Int.eq_ofNat_of_zero_le hi
          have ho2 : Lib.indexByte (b.toList.drop kb) 10 = (o : Int) := by rw [← hext]; exact ho
          obtain ⟨hcut, hlt⟩ := cut_at ho2
          rw [tl_len] at hlt
          have hline : (b.extract 0 (kb + o)).toList = b.toList.take (kb + o) := by rw [tl_sub]; simp
          refine walk_d a b c w ha hb _ _ eb kb r1 hrb z1 z2 l1 l2 (by omega) (by simpa using n1) hc (o : Int) (b.extract 0 (kb + o)) ho (.inr ⟨o, rfl, hlt, rfl⟩) fun k1 k2 s hs => ?_
          have hls : (b.extract 0 (kb + o)).size = kb + o := by rw [ByteArray.size_extract]; omega
          rw [hcut] at hbad
          have hlb := line_bad hbad (by rw [List.length_take, tl_len]; omega)
          rw [hs, hline]
          have := lexR_after (c := c.toList) o1 hlb (by rw [hls] at k1; simp [tl_len]; omega) (by rw [hls] at k2; rw [List.length_take, tl_len]; simp at k2; omega)
          rwa [tl_len] at this
        · have hm : Lib.indexByte (b.extract kb b.size).data.toList 10 = -1 := by
            have := Lib.indexByte_ge (b.extract kb b.size).data.toList 10
            omega
          refine walk_d a b c w ha hb _ _ eb kb r1 hrb z1 z2 l1 l2 (by omega) (by simpa using n1) hc (-1) b hm (.inl ⟨rfl, rfl⟩) fun k1 k2 s hs => ?_
          rw [hs]
          have := lexR_after (c := c.toList) o1 hbad (by simp [tl_len]; omega) (by rw [tl_len]; simpa using k2)
          rwa [tl_len] at this
  · exact walk_a a b c w ha hb _ _ _ _ _ _ rfl rfl h1

theorem own : ownKnob Try.prog.godebug = none := by kernel_rfl
theorem laidOut : laidOutB Try.prog = true := by kernel_rfl

set_option maxRecDepth 100000 in
theorem lifted (os : Os) (started : os.Started) (H : Type) (enc : TypeId × Value → H) :
    ReturnsInHanded {} Try.checked os 7 .any (Rows.lexerErrorsSpec.pre6 enc Try.prog Try.f7 Rows.lexerErrorsRow.domain false) (Rows.lexerErrorsSpec.post enc Try.prog Try.f7 false true false false) := by
  refine returnsInHanded_of_change_sized (C := Try.checked) own started (by kernel_rfl) Try.func7
    (ChangeSpec.witness6 (enc := enc) (C := Try.checked) false ⟨#[], #[.string ⟨#[]⟩, .string ⟨#[]⟩, .string ⟨#[]⟩], []⟩ 8 (by kernel_rfl) (by kernel_rfl) (by kernel_rfl) (by kernel_rfl)) ?_
  intro W base args ds gs before hval0 hW hcnd hsz0 _
  have hval : ∀ (j : Nat) t v, Try.f7.params[j]? = some t → args[j]? = some v → Value.okWide Try.prog W .any base t v := hval0
  have hW' := hW
  obtain ⟨p, q, hA0, hV, rfl, hfz, hnd⟩ := hW
  have hA : DataW.TrodAll enc Try.prog W 0 (fun _ => true) true Try.f7.params.toList args.toList ds p := hA0
  rw [Try.params7] at hA hval
  obtain ⟨v0, vs0, d0, ds0, p0, q0, hargs, rfl, rfl, h0, r0⟩ := trodAll_cons hA
  obtain ⟨v1, vs1, d1, ds1, p1, q1, rfl, rfl, rfl, h1, r1⟩ := trodAll_cons r0
  obtain ⟨v2, vs2, d2, ds2, p2, q2, rfl, rfl, rfl, h2, r2⟩ := trodAll_cons r1
  obtain ⟨rfl, rfl, rfl⟩ := trodAll_nil r2
  obtain rfl : args = #[v0, v1, v2] := by cases args; simp_all
  obtain ⟨rfl, rfl⟩ := trodVars_none hV
  have k0 := h0
  have lt0 : ∀ x ∈ p0, x.block < W.heap.size := by obtain ⟨m, hm⟩ := k0; exact DataW.trod_lt m _ _ _ hm
  have k1 := h1
  have lt1 : ∀ x ∈ p1, x.block < W.heap.size := by obtain ⟨m, hm⟩ := k1; exact DataW.trod_lt m _ _ _ hm
  have k2 := h2
  have lt2 : ∀ x ∈ p2, x.block < W.heap.size := by obtain ⟨m, hm⟩ := k2; exact DataW.trod_lt m _ _ _ hm
  obtain ⟨s0, rfl, rfl, rfl, ws0⟩ := open_string Try.underlying9 (hval 0 9 v0 rfl rfl) h0
  obtain ⟨s1, rfl, rfl, rfl, ws1⟩ := open_string Try.underlying9 (hval 1 9 v1 rfl rfl) h1
  obtain ⟨s2, rfl, rfl, rfl, ws2⟩ := open_string Try.underlying9 (hval 2 9 v2 rfl rfl) h2
  clear hA0 hval0
  have hl2 : s2.data.toList.length ≤ reachBytes := sized_string hsz0 (j := 2) (t := 9) rfl rfl
  have hlt := reachBytes_lt
  refine (walk s0 s1 s2 W ws0 ws1 ws2 (by show s2.data.size ≤ _; rw [Array.length_toList] at hl2; omega)).mono fun e W' ⟨he, bel⟩ => ?_
  subst he
  exact ⟨_, rfl, _, _, _, [], _, [], hW', trodAll_mk1 (shut_bool Try.underlying4 _), (trodAll_cons_mk (Below.trod laidOut (by kernel_rfl) (of_decide_eq_true (by kernel_rfl)) k0 bel lt0) (trodAll_cons_mk (Below.trod laidOut (by kernel_rfl) (of_decide_eq_true (by kernel_rfl)) k1 bel lt1) (trodAll_cons_mk (Below.trod laidOut (by kernel_rfl) (of_decide_eq_true (by kernel_rfl)) k2 bel lt2) trodAll_mk0))), rfl, bel.frame _, fun h => by cases h⟩

theorem over : Rows.LexerErrorsSaid :=
  OpenClaim.holds_of_wide 7 Try.f7 rfl rfl rfl rfl rfl rfl rfl ⟨rfl, rfl, rfl, rfl, rfl⟩ rfl rfl rfl rfl rfl (by kernel_rfl) Try.func7 (by kernel_rfl)
    (of_decide_eq_true (by kernel_rfl)) (by unfold Func.isWrapper; rw [if_neg (of_decide_eq_false (by kernel_rfl))]; exact ⟨rfl, rfl⟩)
    (fun os started H enc _ => lifted os started H enc)

end Errs
theorem lexerErrors_holds : Rows.LexerErrorsSaid := Errs.over
end Go.Proofs.Ytggcnpmniidgkaa
