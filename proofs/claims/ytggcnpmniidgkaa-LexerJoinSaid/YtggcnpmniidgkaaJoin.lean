/- LexerJoin of layer 3 is true for all texts, and leaves its arguments as they were; no condition. -/
import Derived.Test.YtggcnpmniidgkaaL17
import Derived.ProofKit
import Derived.OpenShut
import Derived.ShutString
import Derived.ChangeOld
import Derived.Lib.SmallJoins
namespace Go.Proofs.Ytggcnpmniidgkaa
open Go.ChangeShapes Go.WideShapes Go.ChangeAt Go.RowKit Go.Joins Go.Shelf
open Go.ChangeMaps (open_string shut_string)
open NmP
namespace Join
set_option linter.unusedVariables false

/-- Lex of a source, with what it returns as a slice that holds tokens. -/
theorem Lex_sl (s : ByteArray) (w : World) (hs : s.size ≤ maxLen) (ts : List Tok) (er k : Nat) (h : lexR s.toList = (ts, er, k)) :
    Calls Try.prog 15 #[.string s] w fun e w' => ∃ sl, e = .returned (.tuple #[sl, .int .i64 (er : Int), .int .i64 (k : Int)]) ∧ SlT sl ts w' ∧ Below w.heap.size w w' := by
  have := Lex_all s w hs
  rw [h] at this
  exact this.mono fun e w' ⟨sl, he, ho, hb⟩ => ⟨sl, he, SlT.owned ho, hb⟩

theorem same_shift {l : List Tok} (d : Nat) {va vb : Value} {w : World} (ha : SlT va l w) (hb : SlT vb (l.map (Tok.up d)) w) (hn : Small l) (hd : d ≤ 1000000) (y : Int) (hy : y = d) :
    Calls Try.prog 17 #[va, vb, .int .i64 y] w fun e w' => e = .returned (.bool true) ∧ Below w.heap.size w w' := by
  subst hy
  have := same_any d ha hb hn (by rw [List.length_map]; exact hn.1) hd
  rw [same_up] at this
  exact this

set_option maxHeartbeats 2000000 in
set_option maxRecDepth 100000 in
theorem walk_a (a b : ByteArray) (w : World) (ha : a.size ≤ maxLen) (hb : b.size ≤ maxLen) (ta tb : List Tok) (ea ka eb kb : Nat) (hra : lexR a.toList = (ta, ea, ka)) (hrb : lexR b.toList = (tb, eb, kb)) (he : ea ≠ 0) :
    Calls Try.prog 5 #[.string a, .string b] w fun e w' => e = .returned (.bool true) ∧ Below w.heap.size w w' := by
  have hA := fun W => Lex_sl a W ha ta ea ka hra
  have hB := fun W => Lex_sl b W hb tb eb kb hrb
  have HA := Lib.hid hA
  have HB := Lib.hid hB
  clear hA hB hra hrb
  unfold maxLen at ha hb
  have q1 : ((ea : Int) == 0) = false := beq_eq_false_iff_ne.2 (by omega)
  go_enter Try.func5, Try.ntmps5
  go_wp2_with (first | (go_at_call 14; refine (head_any _).mono ?_; rintro e w1 ⟨rfl, hb1⟩; have HW := Lib.hid hb1; clear hb1) | (go_at_call 15; fail))
  refine (HA.out _).mono ?_
  rintro e w2 ⟨va, rfl, sa, hb2⟩
  obtain ⟨pa, ca, rfl⟩ := sa.form
  have SA := Lib.hid sa
  replace HW := Lib.hid (HW.out.trans (hb2.mono HW.out.size))
  clear sa hb2
  go_wp2_with (go_at_call 15; fail)
  refine (HB.out _).mono ?_
  rintro e w3 ⟨vb, rfl, sb, hb3⟩
  obtain ⟨pb, cb, rfl⟩ := sb.form
  have SB := Lib.hid sb
  replace SA := Lib.hid (SA.out.keep hb3)
  replace HW := Lib.hid (HW.out.trans (hb3.mono HW.out.size))
  clear sb hb3
  go_wp2
  go_ret
  exact ⟨rfl, HW.out⟩
set_option maxHeartbeats 2000000 in
set_option maxRecDepth 100000 in
theorem walk_b (a b : ByteArray) (w : World) (ha : a.size ≤ maxLen) (hb : b.size ≤ maxLen) (ta tb : List Tok) (eb kb : Nat) (hra : lexR a.toList = (ta, 0, 0)) (hrb : lexR b.toList = (tb, eb, kb)) (he : eb ≠ 0) :
    Calls Try.prog 5 #[.string a, .string b] w fun e w' => e = .returned (.bool true) ∧ Below w.heap.size w w' := by
  have hA := fun W => Lex_sl a W ha ta 0 0 hra
  have hB := fun W => Lex_sl b W hb tb eb kb hrb
  have HA := Lib.hid hA
  have HB := Lib.hid hB
  clear hA hB hra hrb
  unfold maxLen at ha hb
  have q1 : ((eb : Int) == 0) = false := beq_eq_false_iff_ne.2 (by omega)
  go_enter Try.func5, Try.ntmps5
  go_wp2_with (first | (go_at_call 14; refine (head_any _).mono ?_; rintro e w1 ⟨rfl, hb1⟩; have HW := Lib.hid hb1; clear hb1) | (go_at_call 15; fail))
  refine (HA.out _).mono ?_
  rintro e w2 ⟨va, rfl, sa, hb2⟩
  obtain ⟨pa, ca, rfl⟩ := sa.form
  have SA := Lib.hid sa
  replace HW := Lib.hid (HW.out.trans (hb2.mono HW.out.size))
  clear sa hb2
  go_wp2_with (go_at_call 15; fail)
  refine (HB.out _).mono ?_
  rintro e w3 ⟨vb, rfl, sb, hb3⟩
  obtain ⟨pb, cb, rfl⟩ := sb.form
  have SB := Lib.hid sb
  replace SA := Lib.hid (SA.out.keep hb3)
  replace HW := Lib.hid (HW.out.trans (hb3.mono HW.out.size))
  clear sb hb3
  go_wp2
  go_ret
  exact ⟨rfl, HW.out⟩
set_option maxHeartbeats 2000000 in
set_option maxRecDepth 100000 in
theorem walk_c (a b : ByteArray) (w : World) (ha : a.size ≤ maxLen) (hb : b.size ≤ maxLen) (ta tb : List Tok) (hra : lexR a.toList = (ta, 0, 0)) (hrb : lexR b.toList = (tb, 0, 0)) (h1 : a.size ≤ 8000) (h2 : b.size ≤ 8000) (h3 : 8000 < a.size + b.size + 1) :
    Calls Try.prog 5 #[.string a, .string b] w fun e w' => e = .returned (.bool true) ∧ Below w.heap.size w w' := by
  have hA := fun W => Lex_sl a W ha ta 0 0 hra
  have hB := fun W => Lex_sl b W hb tb 0 0 hrb
  have HA := Lib.hid hA
  have HB := Lib.hid hB
  clear hA hB hra hrb
  unfold maxLen at ha hb
  have q1 : (8000 : Int) < (a.size : Int) + (b.size : Int) + 1 := by omega
  go_enter Try.func5, Try.ntmps5
  go_wp2_with (first | (go_at_call 14; refine (head_any _).mono ?_; rintro e w1 ⟨rfl, hb1⟩; have HW := Lib.hid hb1; clear hb1) | (go_at_call 15; fail))
  refine (HA.out _).mono ?_
  rintro e w2 ⟨va, rfl, sa, hb2⟩
  obtain ⟨pa, ca, rfl⟩ := sa.form
  have SA := Lib.hid sa
  replace HW := Lib.hid (HW.out.trans (hb2.mono HW.out.size))
  clear sa hb2
  go_wp2_with (go_at_call 15; fail)
  refine (HB.out _).mono ?_
  rintro e w3 ⟨vb, rfl, sb, hb3⟩
  obtain ⟨pb, cb, rfl⟩ := sb.form
  have SB := Lib.hid sb
  replace SA := Lib.hid (SA.out.keep hb3)
  replace HW := Lib.hid (HW.out.trans (hb3.mono HW.out.size))
  clear sb hb3
  go_wp2
  go_ret
  exact ⟨rfl, HW.out⟩
set_option maxHeartbeats 2000000 in
set_option maxRecDepth 100000 in
theorem walk_d (a b : ByteArray) (w : World) (ha : a.size ≤ maxLen) (hb : b.size ≤ maxLen) (ta tb : List Tok) (hra : lexR a.toList = (ta, 0, 0)) (hrb : lexR b.toList = (tb, 0, 0)) (h1 : a.size ≤ 8000) (h2 : b.size ≤ 8000) (h3 : a.size + b.size + 1 ≤ 8000) (l1 : ta.length ≤ 2000) (l2 : tb.length ≤ 2000) (h4 : 2000 < ta.length + tb.length) :
    Calls Try.prog 5 #[.string a, .string b] w fun e w' => e = .returned (.bool true) ∧ Below w.heap.size w w' := by
  have hA := fun W => Lex_sl a W ha ta 0 0 hra
  have hB := fun W => Lex_sl b W hb tb 0 0 hrb
  have HA := Lib.hid hA
  have HB := Lib.hid hB
  clear hA hB hra hrb
  unfold maxLen at ha hb
  have q1 : ¬ (8000 : Int) < (a.size : Int) + (b.size : Int) + 1 := by omega
  have q2 : (2000 : Int) < (ta.length : Int) + (tb.length : Int) := by omega
  go_enter Try.func5, Try.ntmps5
  go_wp2_with (first | (go_at_call 14; refine (head_any _).mono ?_; rintro e w1 ⟨rfl, hb1⟩; have HW := Lib.hid hb1; clear hb1) | (go_at_call 15; fail))
  refine (HA.out _).mono ?_
  rintro e w2 ⟨va, rfl, sa, hb2⟩
  obtain ⟨pa, ca, rfl⟩ := sa.form
  have SA := Lib.hid sa
  replace HW := Lib.hid (HW.out.trans (hb2.mono HW.out.size))
  clear sa hb2
  go_wp2_with (go_at_call 15; fail)
  refine (HB.out _).mono ?_
  rintro e w3 ⟨vb, rfl, sb, hb3⟩
  obtain ⟨pb, cb, rfl⟩ := sb.form
  have SB := Lib.hid sb
  replace SA := Lib.hid (SA.out.keep hb3)
  replace HW := Lib.hid (HW.out.trans (hb3.mono HW.out.size))
  clear sb hb3
  go_wp2
  go_ret
  exact ⟨rfl, HW.out⟩
set_option maxHeartbeats 2000000 in
set_option maxRecDepth 100000 in
theorem walk_e (a b : ByteArray) (w : World) (ha : a.size ≤ maxLen) (hb : b.size ≤ maxLen) (ta tb : List Tok) (hra : lexR a.toList = (ta, 0, 0)) (hrb : lexR b.toList = (tb, 0, 0)) (h1 : a.size ≤ 8000) (h2 : b.size ≤ 8000) (h3 : a.size + b.size + 1 ≤ 8000) (l1 : ta.length ≤ 2000) (l2 : tb.length ≤ 2000) (h4 : ta.length + tb.length ≤ 2000)
    (hs1 : Small ta) (hs2 : Small tb) (hj : ∀ s : ByteArray, s.toList = a.toList ++ 10 :: b.toList → lexR s.toList = (ta ++ tb.map (Tok.up (a.size + 1)), 0, 0)) :
    Calls Try.prog 5 #[.string a, .string b] w fun e w' => e = .returned (.bool true) ∧ Below w.heap.size w w' := by
  have hA := fun W => Lex_sl a W ha ta 0 0 hra
  have hB := fun W => Lex_sl b W hb tb 0 0 hrb
  have HA := Lib.hid hA
  have HB := Lib.hid hB
  clear hA hB hra hrb
  unfold maxLen at ha hb
  have q1 : ¬ (8000 : Int) < (a.size : Int) + (b.size : Int) + 1 := by omega
  have q2 : ¬ (2000 : Int) < (ta.length : Int) + (tb.length : Int) := by omega
  have HJ := Lib.hid hj
  have S1 := Lib.hid hs1
  have S2 := Lib.hid hs2
  clear hj hs1 hs2
  go_enter Try.func5, Try.ntmps5
  go_wp2_with (first | (go_at_call 14; refine (head_any _).mono ?_; rintro e w1 ⟨rfl, hb1⟩; have HW := Lib.hid hb1; clear hb1) | (go_at_call 15; fail))
  refine (HA.out _).mono ?_
  rintro e w2 ⟨va, rfl, sa, hb2⟩
  obtain ⟨pa, ca, rfl⟩ := sa.form
  have SA := Lib.hid sa
  replace HW := Lib.hid (HW.out.trans (hb2.mono HW.out.size))
  clear sa hb2
  go_wp2_with (go_at_call 15; fail)
  refine (HB.out _).mono ?_
  rintro e w3 ⟨vb, rfl, sb, hb3⟩
  obtain ⟨pb, cb, rfl⟩ := sb.form
  have SB := Lib.hid sb
  replace SA := Lib.hid (SA.out.keep hb3)
  replace HW := Lib.hid (HW.out.trans (hb3.mono HW.out.size))
  clear sb hb3
  go_wp2_with (go_at_call 15; fail)
  have hsz : (a ++ (⟨#[10]⟩ : ByteArray) ++ b).size ≤ maxLen := by
    unfold maxLen
    rw [ByteArray.size_append, ByteArray.size_append]
    show a.size + 1 + b.size ≤ _
    omega
  have htl : (a ++ (⟨#[10]⟩ : ByteArray) ++ b).toList = a.toList ++ 10 :: b.toList := by
    rw [tl, tl, tl, ByteArray.data_append, ByteArray.data_append]
    simp
  have hL := Lex_all (a ++ (⟨#[10]⟩ : ByteArray) ++ b) w3 hsz
  rw [HJ.out _ htl] at hL
  refine hL.mono ?_
  clear hL hsz htl HJ
  rintro e w4 ⟨vn, rfl, sn, hb4⟩
  have hlen : (ta ++ tb.map (Tok.up (a.size + 1))).length = ta.length + tb.length := by simp
  have hSN := SlT.owned sn
  rcases sn.2 with ⟨rfl, h0⟩ | ⟨g, cap, cur, rfl, _, hg, hcap, hmax, _⟩
  · rw [hlen] at h0
    obtain rfl : ta = [] := List.eq_nil_of_length_eq_zero (by omega)
    obtain rfl : tb = [] := List.eq_nil_of_length_eq_zero (by omega)
    replace SA := Lib.hid (SA.out.keep hb4)
    replace SB := Lib.hid (SB.out.keep hb4)
    replace HW := Lib.hid (HW.out.trans (hb4.mono HW.out.size))
    clear hSN sn hb4 hlen h0
    simp only [List.length_nil, List.map_nil, List.append_nil, List.nil_append]
    go_wp2_with (go_at_call 17; refine (same_none _ _ _ _ _ _).mono ?_; rintro e w5 ⟨rfl, hb5⟩; replace HW := Lib.hid (HW.out.trans (hb5.mono HW.out.size)); clear hb5)
    go_ret
    exact ⟨rfl, HW.out⟩
  · replace SA := Lib.hid (SA.out.keep hb4)
    replace SB := Lib.hid (SB.out.keep hb4)
    replace HW := Lib.hid (HW.out.trans (hb4.mono HW.out.size))
    have hlg : g < w4.heap.size := (Array.getElem?_eq_some_iff.1 hg).1
    have hRT := RT.owned sn
    have P1 := Lib.hid hRT.part.1
    have P2 := Lib.hid hRT.part.2
    rw [hlen] at hcap
    simp only [hlen]
    clear hSN sn hb4 hg hRT hlen
    unfold maxLen at hmax
    have q3 : (((ta.length + tb.length : Nat) : Int) == (ta.length : Int) + (tb.length : Int)) = true := by rw [beq_iff_eq]; omega
    go_wp2_with (go_at_call 17; fail)
    refine (same_lit SA.out (show SlT (.slice (some ⟨g, 0, none⟩) ta.length cap) ta w4 from .inr ⟨g, 0, cap, rfl, hlg, P1.out⟩) S1.out).mono ?_
    rintro e w5 ⟨rfl, hb5⟩
    replace SB := Lib.hid (SB.out.keep hb5)
    replace P2 := Lib.hid (P2.out.keep hlg hb5)
    replace hlg := Nat.lt_of_lt_of_le hlg hb5.size
    replace HW := Lib.hid (HW.out.trans (hb5.mono HW.out.size))
    clear hb5 SA P1
    go_wp2_with (go_at_call 17; fail)
    · rename_i hc
      have h0 : tb.length = 0 := by omega
      obtain rfl : tb = [] := List.eq_nil_of_length_eq_zero h0
      refine (same_shift (a.size + 1) SB.out (show SlT (.slice (some ⟨g, 0, none⟩) (List.length ([] : List Tok)) 0) [] w5 from .inl ⟨rfl, _, _, rfl⟩) S2.out (by omega) _ (by omega)).mono ?_
      rintro e w6 ⟨rfl, hb6⟩
      replace HW := Lib.hid (HW.out.trans (hb6.mono HW.out.size))
      clear hb6
      go_wp2
      go_ret
      exact ⟨rfl, HW.out⟩
    · have hsl : SlT (.slice (some ⟨g, ta.length * 4, none⟩) tb.length (cap - ta.length)) (tb.map (Tok.up (a.size + 1))) w5 := .inr ⟨g, ta.length * 4, _, by rw [List.length_map], hlg, by have := P2.out; rwa [Nat.zero_add] at this⟩
      refine (same_shift (a.size + 1) SB.out hsl S2.out (by omega) _ (by omega)).mono ?_
      rintro e w6 ⟨rfl, hb6⟩
      replace HW := Lib.hid (HW.out.trans (hb6.mono HW.out.size))
      clear hb6 hsl
      go_wp2
      go_ret
      exact ⟨rfl, HW.out⟩
theorem walk (a b : ByteArray) (w : World) (ha : a.size ≤ maxLen) (hb : b.size ≤ maxLen) :
    Calls Try.prog 5 #[.string a, .string b] w fun e w' => e = .returned (.bool true) ∧ Below w.heap.size w w' := by
  by_cases h1 : (lexR a.toList).2.1 = 0
  · obtain ⟨ts, l1, o1, n1, r1⟩ := lexR_ok h1
    by_cases h2 : (lexR b.toList).2.1 = 0
    · obtain ⟨us, l2, o2, n2, r2⟩ := lexR_ok h2
      have hs1 := small_of o1 l1
      have hs2 := small_of o2 l2
      rw [tl_len] at l1 l2
      by_cases h3 : a.size + b.size + 1 ≤ 8000
      · by_cases h4 : ts.length + us.length ≤ 2000
        · refine walk_e a b w ha hb _ _ r1 r2 l1 l2 h3 (by simpa using n1) (by simpa using n2) (by simpa using h4) hs1 hs2 fun s hs => ?_
          rw [hs]
          have := lexR_join o1 o2 (by rw [tl_len, tl_len]; exact h3) h4
          rwa [tl_len] at this
        · exact walk_d a b w ha hb _ _ r1 r2 l1 l2 h3 (by simpa using n1) (by simpa using n2) (by simpa using h4)
      · exact walk_c a b w ha hb _ _ r1 r2 l1 l2 (by omega)
    · exact walk_b a b w ha hb _ _ _ _ r1 rfl h2
  · exact walk_a a b w ha hb _ _ _ _ _ _ rfl rfl h1
theorem own : ownKnob Try.prog.godebug = none := by kernel_rfl
theorem laidOut : laidOutB Try.prog = true := by kernel_rfl

set_option maxRecDepth 100000 in
theorem lifted (os : Os) (started : os.Started) (H : Type) (enc : TypeId × Value → H) :
    ReturnsInHanded {} Try.checked os 5 .any (Rows.lexerJoinSpec.pre6 enc Try.prog Try.f5 Rows.lexerJoinRow.domain false) (Rows.lexerJoinSpec.post enc Try.prog Try.f5 false true false false) := by
  refine returnsInHanded_of_change (C := Try.checked) own started (by kernel_rfl) Try.func5
    (ChangeSpec.witness6 (enc := enc) (C := Try.checked) false ⟨#[], #[.string ⟨#[]⟩, .string ⟨#[]⟩], []⟩ 8 (by kernel_rfl) (by kernel_rfl) (by kernel_rfl) (by kernel_rfl)) ?_
  intro W base args ds gs before hval0 hW hcnd _
  have hval : ∀ (j : Nat) t v, Try.f5.params[j]? = some t → args[j]? = some v → Value.okWide Try.prog W .any base t v := hval0
  have hW' := hW
  obtain ⟨p, q, hA0, hV, rfl, hfz, hnd⟩ := hW
  have hA : DataW.TrodAll enc Try.prog W 0 (fun _ => true) true Try.f5.params.toList args.toList ds p := hA0
  rw [Try.params5] at hA hval
  obtain ⟨v0, vs0, d0, ds0, p0, q0, hargs, rfl, rfl, h0, r0⟩ := trodAll_cons hA
  obtain ⟨v1, vs1, d1, ds1, p1, q1, rfl, rfl, rfl, h1, r1⟩ := trodAll_cons r0
  obtain ⟨rfl, rfl, rfl⟩ := trodAll_nil r1
  obtain rfl : args = #[v0, v1] := by cases args; simp_all
  obtain ⟨rfl, rfl⟩ := trodVars_none hV
  have k0 := h0
  have lt0 : ∀ x ∈ p0, x.block < W.heap.size := by obtain ⟨m, hm⟩ := k0; exact DataW.trod_lt m _ _ _ hm
  have k1 := h1
  have lt1 : ∀ x ∈ p1, x.block < W.heap.size := by obtain ⟨m, hm⟩ := k1; exact DataW.trod_lt m _ _ _ hm
  obtain ⟨s0, rfl, rfl, rfl, ws0⟩ := open_string Try.underlying9 (hval 0 9 v0 rfl rfl) h0
  obtain ⟨s1, rfl, rfl, rfl, ws1⟩ := open_string Try.underlying9 (hval 1 9 v1 rfl rfl) h1
  clear hA0 hval0
  refine (walk s0 s1 W ws0 ws1).mono fun e W' ⟨he, bel⟩ => ?_
  subst he
  exact ⟨_, rfl, _, _, _, [], _, [], hW', trodAll_mk1 (shut_bool Try.underlying4 _), (trodAll_cons_mk (Below.trod laidOut (by kernel_rfl) (of_decide_eq_true (by kernel_rfl)) k0 bel lt0) (trodAll_cons_mk (Below.trod laidOut (by kernel_rfl) (of_decide_eq_true (by kernel_rfl)) k1 bel lt1) trodAll_mk0)), rfl, bel.frame _, fun h => by cases h⟩

theorem over : Rows.LexerJoinSaid :=
  OpenClaim.holds_of_wide 5 Try.f5 rfl rfl rfl rfl rfl rfl rfl ⟨rfl, rfl, rfl, rfl, rfl⟩ rfl rfl rfl rfl rfl (by kernel_rfl) Try.func5 (by kernel_rfl)
    (of_decide_eq_true (by kernel_rfl)) (by unfold Func.isWrapper; rw [if_neg (of_decide_eq_false (by kernel_rfl))]; exact ⟨rfl, rfl⟩)
    (fun os started H enc _ => lifted os started H enc)

end Join
theorem lexerJoin_holds : Rows.LexerJoinSaid := Join.over
end Go.Proofs.Ytggcnpmniidgkaa
