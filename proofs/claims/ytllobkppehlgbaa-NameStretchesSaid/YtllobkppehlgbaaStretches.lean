/- NameStretches of layer 1 is true for all texts, and leaves its arguments as they were; no condition. -/
import Derived.Test.YtllobkppehlgbaaN9
namespace Go.Proofs.Ytllobkppehlgbaa
open Go.ChangeShapes Go.WideShapes Go.ChangeAt Go.RowKit Go.Joins
open Go.ChangeMaps (open_string shut_string)
open NmP
namespace Stretches
set_option linter.unusedVariables false
set_option maxHeartbeats 1000000 in
theorem walk_no (a b c z : ByteArray) (w : World) (ha : a.size ≤ maxLen) (hb : b.size ≤ maxLen) (hc : c.size ≤ maxLen) (hz : z.size ≤ maxLen) (hv : (validB a.toList && validB b.toList && validB c.toList && validB z.toList) = false) :
    Calls Try.prog 6 #[.string a, .string b, .string c, .string z] w fun e w' => e = .returned (.bool true) ∧ Below w.heap.size w w' := by
  have hn := fun W => names4 a b c z W ha hb hc hz
  rw [hv] at hn
  have HN := Lib.hid hn
  clear hn hv
  go_enter Try.func6, Try.ntmps6
  go_wp2_with (first | (go_at_call 14; refine (head_any _).mono ?_; rintro e w1 ⟨rfl, hb⟩) | (go_at_call 18; refine (HN.out _).mono ?_; rintro e w2 ⟨rfl, rfl⟩))
  go_ret
  exact ⟨rfl, hb.trans (((Below.refl _ _).alloc hb.size _))⟩

set_option maxHeartbeats 2000000 in
set_option maxRecDepth 100000 in
theorem walk_f_gt (a b c z : ByteArray) (w : World) (ha : a.size ≤ maxLen) (hb : b.size ≤ maxLen) (hc : c.size ≤ maxLen) (hz : z.size ≤ maxLen) (va : validB a.toList = true) (vb : validB b.toList = true) (vc : validB c.toList = true) (vz : validB z.toList = true) (w1 : underB a.toList z.toList = false) (w2 : cmpN a.toList b.toList > 0) :
    Calls Try.prog 6 #[.string a, .string b, .string c, .string z] w fun e w' => e = .returned (.bool true) ∧ Below w.heap.size w w' := by
  have hn := fun W => names4 a b c z W ha hb hc hz
  rw [va, vb, vc, vz] at hn
  simp only [Bool.and_self] at hn
  have HN := Lib.hid hn
  clear hn
  have h1 := fun W => lunder_any a z W ha hz va vz
  rw [w1] at h1
  have h2 := fun W => lcompare_any a b W ha hb va vb
  have q2 := cmpN_good.rng a.toList b.toList
  clear va vb vc vz w1
  generalize cmpN a.toList b.toList = x at *
  have b2 : -1 ≤ x ∧ x ≤ 1 := by omega
  clear q2
  have w2b : 0 < x := w2
  clear w2
  have H1 := Lib.hid h1
  have H2 := Lib.hid h2
  clear h1 h2
  go_enter Try.func6, Try.ntmps6
  go_wp2_with (first | (go_at_call 14; refine (head_any _).mono ?_; rintro e w1 ⟨rfl, hb⟩; have HB := Lib.hid (hb.trans ((Below.refl _ w1).alloc hb.size (.cells #[.string a, .string b, .string c, .string z] 9))); clear hb) | (go_at_call 18; refine (HN.out _).mono ?_; rintro e w2 ⟨rfl, rfl⟩) | (go_at_call 20; first | ((with_reducible refine (H1.out _).mono ?_); rintro e w3 ⟨rfl, rfl⟩)) | (go_at_call 19; first | ((with_reducible refine (H2.out _).mono ?_); rintro e w3 ⟨rfl, hb⟩; have HB := Lib.hid (HB.out.trans (hb.mono HB.out.size)); clear hb)))
  go_ret
  exact ⟨rfl, HB.out⟩

set_option maxHeartbeats 2000000 in
set_option maxRecDepth 100000 in
theorem walk_f_lg (a b c z : ByteArray) (w : World) (ha : a.size ≤ maxLen) (hb : b.size ≤ maxLen) (hc : c.size ≤ maxLen) (hz : z.size ≤ maxLen) (va : validB a.toList = true) (vb : validB b.toList = true) (vc : validB c.toList = true) (vz : validB z.toList = true) (w1 : underB a.toList z.toList = false) (w2 : cmpN a.toList b.toList ≤ 0) (w3 : cmpN b.toList c.toList > 0) :
    Calls Try.prog 6 #[.string a, .string b, .string c, .string z] w fun e w' => e = .returned (.bool true) ∧ Below w.heap.size w w' := by
  have hn := fun W => names4 a b c z W ha hb hc hz
  rw [va, vb, vc, vz] at hn
  simp only [Bool.and_self] at hn
  have HN := Lib.hid hn
  clear hn
  have h1 := fun W => lunder_any a z W ha hz va vz
  rw [w1] at h1
  have h2 := fun W => lcompare_any a b W ha hb va vb
  have q2 := cmpN_good.rng a.toList b.toList
  have h3 := fun W => lcompare_any b c W hb hc vb vc
  have q3 := cmpN_good.rng b.toList c.toList
  clear va vb vc vz w1
  generalize cmpN a.toList b.toList = x at *
  generalize cmpN b.toList c.toList = y at *
  have b2 : -1 ≤ x ∧ x ≤ 1 := by omega
  clear q2
  have b3 : -1 ≤ y ∧ y ≤ 1 := by omega
  clear q3
  have w3b : 0 < y := w3
  clear w3
  have H1 := Lib.hid h1
  have H2 := Lib.hid h2
  have H3 := Lib.hid h3
  clear h1 h2 h3
  go_enter Try.func6, Try.ntmps6
  go_wp2_with (first | (go_at_call 14; refine (head_any _).mono ?_; rintro e w1 ⟨rfl, hb⟩; have HB := Lib.hid (hb.trans ((Below.refl _ w1).alloc hb.size (.cells #[.string a, .string b, .string c, .string z] 9))); clear hb) | (go_at_call 18; refine (HN.out _).mono ?_; rintro e w2 ⟨rfl, rfl⟩) | (go_at_call 20; first | ((with_reducible refine (H1.out _).mono ?_); rintro e w3 ⟨rfl, rfl⟩)) | (go_at_call 19; first | ((with_reducible refine (H2.out _).mono ?_); rintro e w3 ⟨rfl, hb⟩; have HB := Lib.hid (HB.out.trans (hb.mono HB.out.size)); clear hb) | ((with_reducible refine (H3.out _).mono ?_); rintro e w3 ⟨rfl, hb⟩; have HB := Lib.hid (HB.out.trans (hb.mono HB.out.size)); clear hb)))
  go_ret
  exact ⟨rfl, HB.out⟩

set_option maxHeartbeats 2000000 in
set_option maxRecDepth 100000 in
theorem walk_f_ll (a b c z : ByteArray) (w : World) (ha : a.size ≤ maxLen) (hb : b.size ≤ maxLen) (hc : c.size ≤ maxLen) (hz : z.size ≤ maxLen) (va : validB a.toList = true) (vb : validB b.toList = true) (vc : validB c.toList = true) (vz : validB z.toList = true) (w1 : underB a.toList z.toList = false) (w2 : cmpN a.toList b.toList ≤ 0) (w3 : cmpN b.toList c.toList ≤ 0) :
    Calls Try.prog 6 #[.string a, .string b, .string c, .string z] w fun e w' => e = .returned (.bool true) ∧ Below w.heap.size w w' := by
  have hn := fun W => names4 a b c z W ha hb hc hz
  rw [va, vb, vc, vz] at hn
  simp only [Bool.and_self] at hn
  have HN := Lib.hid hn
  clear hn
  have h1 := fun W => lunder_any a z W ha hz va vz
  rw [w1] at h1
  have h2 := fun W => lcompare_any a b W ha hb va vb
  have q2 := cmpN_good.rng a.toList b.toList
  have h3 := fun W => lcompare_any b c W hb hc vb vc
  have q3 := cmpN_good.rng b.toList c.toList
  clear va vb vc vz w1
  generalize cmpN a.toList b.toList = x at *
  generalize cmpN b.toList c.toList = y at *
  have b2 : -1 ≤ x ∧ x ≤ 1 := by omega
  clear q2
  have b3 : -1 ≤ y ∧ y ≤ 1 := by omega
  clear q3
  have H1 := Lib.hid h1
  have H2 := Lib.hid h2
  have H3 := Lib.hid h3
  clear h1 h2 h3
  go_enter Try.func6, Try.ntmps6
  go_wp2_with (first | (go_at_call 14; refine (head_any _).mono ?_; rintro e w1 ⟨rfl, hb⟩; have HB := Lib.hid (hb.trans ((Below.refl _ w1).alloc hb.size (.cells #[.string a, .string b, .string c, .string z] 9))); clear hb) | (go_at_call 18; refine (HN.out _).mono ?_; rintro e w2 ⟨rfl, rfl⟩) | (go_at_call 20; first | ((with_reducible refine (H1.out _).mono ?_); rintro e w3 ⟨rfl, rfl⟩)) | (go_at_call 19; first | ((with_reducible refine (H2.out _).mono ?_); rintro e w3 ⟨rfl, hb⟩; have HB := Lib.hid (HB.out.trans (hb.mono HB.out.size)); clear hb) | ((with_reducible refine (H3.out _).mono ?_); rintro e w3 ⟨rfl, hb⟩; have HB := Lib.hid (HB.out.trans (hb.mono HB.out.size)); clear hb)))
  go_ret
  exact ⟨rfl, HB.out⟩

set_option maxHeartbeats 2000000 in
set_option maxRecDepth 100000 in
theorem walk_t_gt (a b c z : ByteArray) (w : World) (ha : a.size ≤ maxLen) (hb : b.size ≤ maxLen) (hc : c.size ≤ maxLen) (hz : z.size ≤ maxLen) (va : validB a.toList = true) (vb : validB b.toList = true) (vc : validB c.toList = true) (vz : validB z.toList = true) (w1 : underB a.toList z.toList = true) (w2 : cmpN a.toList b.toList > 0) :
    Calls Try.prog 6 #[.string a, .string b, .string c, .string z] w fun e w' => e = .returned (.bool true) ∧ Below w.heap.size w w' := by
  have hn := fun W => names4 a b c z W ha hb hc hz
  rw [va, vb, vc, vz] at hn
  simp only [Bool.and_self] at hn
  have HN := Lib.hid hn
  clear hn
  have h1 := fun W => lunder_any a z W ha hz va vz
  rw [w1] at h1
  have h2 := fun W => lcompare_any a b W ha hb va vb
  have q2 := cmpN_good.rng a.toList b.toList
  have h0 := fun W => lcompare_any z a W hz ha vz va
  have q0 : cmpN z.toList a.toList ≤ 0 := by
    unfold cmpN; exact lex_prefix compareBytes_good _ _ (List.reverse_prefix.2 ((under_iff (valid_ok va)).1 w1))
  have q0b := cmpN_good.rng z.toList a.toList
  clear va vb vc vz w1
  generalize cmpN a.toList b.toList = x at *
  generalize cmpN z.toList a.toList = x0 at *
  have b2 : -1 ≤ x ∧ x ≤ 1 := by omega
  clear q2
  have b0 : -1 ≤ x0 ∧ x0 ≤ 1 := by omega
  clear q0b
  have w2b : 0 < x := w2
  clear w2
  have H1 := Lib.hid h1
  have H2 := Lib.hid h2
  have H0 := Lib.hid h0
  clear h1 h2 h0
  go_enter Try.func6, Try.ntmps6
  go_wp2_with (first | (go_at_call 14; refine (head_any _).mono ?_; rintro e w1 ⟨rfl, hb⟩; have HB := Lib.hid (hb.trans ((Below.refl _ w1).alloc hb.size (.cells #[.string a, .string b, .string c, .string z] 9))); clear hb) | (go_at_call 18; refine (HN.out _).mono ?_; rintro e w2 ⟨rfl, rfl⟩) | (go_at_call 20; first | ((with_reducible refine (H1.out _).mono ?_); rintro e w3 ⟨rfl, rfl⟩)) | (go_at_call 19; first | ((with_reducible refine (H2.out _).mono ?_); rintro e w3 ⟨rfl, hb⟩; have HB := Lib.hid (HB.out.trans (hb.mono HB.out.size)); clear hb) | ((with_reducible refine (H0.out _).mono ?_); rintro e w3 ⟨rfl, hb⟩; have HB := Lib.hid (HB.out.trans (hb.mono HB.out.size)); clear hb)))
  go_ret
  exact ⟨rfl, HB.out⟩

set_option maxHeartbeats 2000000 in
set_option maxRecDepth 100000 in
theorem walk_t_lg (a b c z : ByteArray) (w : World) (ha : a.size ≤ maxLen) (hb : b.size ≤ maxLen) (hc : c.size ≤ maxLen) (hz : z.size ≤ maxLen) (va : validB a.toList = true) (vb : validB b.toList = true) (vc : validB c.toList = true) (vz : validB z.toList = true) (w1 : underB a.toList z.toList = true) (w2 : cmpN a.toList b.toList ≤ 0) (w3 : cmpN b.toList c.toList > 0) :
    Calls Try.prog 6 #[.string a, .string b, .string c, .string z] w fun e w' => e = .returned (.bool true) ∧ Below w.heap.size w w' := by
  have hn := fun W => names4 a b c z W ha hb hc hz
  rw [va, vb, vc, vz] at hn
  simp only [Bool.and_self] at hn
  have HN := Lib.hid hn
  clear hn
  have h1 := fun W => lunder_any a z W ha hz va vz
  rw [w1] at h1
  have h2 := fun W => lcompare_any a b W ha hb va vb
  have q2 := cmpN_good.rng a.toList b.toList
  have h0 := fun W => lcompare_any z a W hz ha vz va
  have q0 : cmpN z.toList a.toList ≤ 0 := by
    unfold cmpN; exact lex_prefix compareBytes_good _ _ (List.reverse_prefix.2 ((under_iff (valid_ok va)).1 w1))
  have q0b := cmpN_good.rng z.toList a.toList
  have h3 := fun W => lcompare_any b c W hb hc vb vc
  have q3 := cmpN_good.rng b.toList c.toList
  clear va vb vc vz w1
  generalize cmpN a.toList b.toList = x at *
  generalize cmpN z.toList a.toList = x0 at *
  generalize cmpN b.toList c.toList = y at *
  have b2 : -1 ≤ x ∧ x ≤ 1 := by omega
  clear q2
  have b0 : -1 ≤ x0 ∧ x0 ≤ 1 := by omega
  clear q0b
  have b3 : -1 ≤ y ∧ y ≤ 1 := by omega
  clear q3
  have w3b : 0 < y := w3
  clear w3
  have H1 := Lib.hid h1
  have H2 := Lib.hid h2
  have H0 := Lib.hid h0
  have H3 := Lib.hid h3
  clear h1 h2 h0 h3
  go_enter Try.func6, Try.ntmps6
  go_wp2_with (first | (go_at_call 14; refine (head_any _).mono ?_; rintro e w1 ⟨rfl, hb⟩; have HB := Lib.hid (hb.trans ((Below.refl _ w1).alloc hb.size (.cells #[.string a, .string b, .string c, .string z] 9))); clear hb) | (go_at_call 18; refine (HN.out _).mono ?_; rintro e w2 ⟨rfl, rfl⟩) | (go_at_call 20; first | ((with_reducible refine (H1.out _).mono ?_); rintro e w3 ⟨rfl, rfl⟩)) | (go_at_call 19; first | ((with_reducible refine (H2.out _).mono ?_); rintro e w3 ⟨rfl, hb⟩; have HB := Lib.hid (HB.out.trans (hb.mono HB.out.size)); clear hb) | ((with_reducible refine (H0.out _).mono ?_); rintro e w3 ⟨rfl, hb⟩; have HB := Lib.hid (HB.out.trans (hb.mono HB.out.size)); clear hb) | ((with_reducible refine (H3.out _).mono ?_); rintro e w3 ⟨rfl, hb⟩; have HB := Lib.hid (HB.out.trans (hb.mono HB.out.size)); clear hb)))
  go_ret
  exact ⟨rfl, HB.out⟩

set_option maxHeartbeats 2000000 in
set_option maxRecDepth 100000 in
theorem walk_t_f (a b c z : ByteArray) (w : World) (ha : a.size ≤ maxLen) (hb : b.size ≤ maxLen) (hc : c.size ≤ maxLen) (hz : z.size ≤ maxLen) (va : validB a.toList = true) (vb : validB b.toList = true) (vc : validB c.toList = true) (vz : validB z.toList = true) (w1 : underB a.toList z.toList = true) (w2 : cmpN a.toList b.toList ≤ 0) (w3 : cmpN b.toList c.toList ≤ 0) (w4 : underB c.toList z.toList = false) :
    Calls Try.prog 6 #[.string a, .string b, .string c, .string z] w fun e w' => e = .returned (.bool true) ∧ Below w.heap.size w w' := by
  have hn := fun W => names4 a b c z W ha hb hc hz
  rw [va, vb, vc, vz] at hn
  simp only [Bool.and_self] at hn
  have HN := Lib.hid hn
  clear hn
  have h1 := fun W => lunder_any a z W ha hz va vz
  rw [w1] at h1
  have h2 := fun W => lcompare_any a b W ha hb va vb
  have q2 := cmpN_good.rng a.toList b.toList
  have h0 := fun W => lcompare_any z a W hz ha vz va
  have q0 : cmpN z.toList a.toList ≤ 0 := by
    unfold cmpN; exact lex_prefix compareBytes_good _ _ (List.reverse_prefix.2 ((under_iff (valid_ok va)).1 w1))
  have q0b := cmpN_good.rng z.toList a.toList
  have h3 := fun W => lcompare_any b c W hb hc vb vc
  have q3 := cmpN_good.rng b.toList c.toList
  have h4 := fun W => lunder_any c z W hc hz vc vz
  rw [w4] at h4
  clear va vb vc vz w1 w4
  generalize cmpN a.toList b.toList = x at *
  generalize cmpN z.toList a.toList = x0 at *
  generalize cmpN b.toList c.toList = y at *
  have b2 : -1 ≤ x ∧ x ≤ 1 := by omega
  clear q2
  have b0 : -1 ≤ x0 ∧ x0 ≤ 1 := by omega
  clear q0b
  have b3 : -1 ≤ y ∧ y ≤ 1 := by omega
  clear q3
  have H1 := Lib.hid h1
  have H4 := Lib.hid h4
  have H2 := Lib.hid h2
  have H0 := Lib.hid h0
  have H3 := Lib.hid h3
  clear h1 h4 h2 h0 h3
  go_enter Try.func6, Try.ntmps6
  go_wp2_with (first | (go_at_call 14; refine (head_any _).mono ?_; rintro e w1 ⟨rfl, hb⟩; have HB := Lib.hid (hb.trans ((Below.refl _ w1).alloc hb.size (.cells #[.string a, .string b, .string c, .string z] 9))); clear hb) | (go_at_call 18; refine (HN.out _).mono ?_; rintro e w2 ⟨rfl, rfl⟩) | (go_at_call 20; first | ((with_reducible refine (H1.out _).mono ?_); rintro e w3 ⟨rfl, rfl⟩) | ((with_reducible refine (H4.out _).mono ?_); rintro e w3 ⟨rfl, rfl⟩)) | (go_at_call 19; first | ((with_reducible refine (H2.out _).mono ?_); rintro e w3 ⟨rfl, hb⟩; have HB := Lib.hid (HB.out.trans (hb.mono HB.out.size)); clear hb) | ((with_reducible refine (H0.out _).mono ?_); rintro e w3 ⟨rfl, hb⟩; have HB := Lib.hid (HB.out.trans (hb.mono HB.out.size)); clear hb) | ((with_reducible refine (H3.out _).mono ?_); rintro e w3 ⟨rfl, hb⟩; have HB := Lib.hid (HB.out.trans (hb.mono HB.out.size)); clear hb)))
  go_ret
  exact ⟨rfl, HB.out⟩

set_option maxHeartbeats 2000000 in
set_option maxRecDepth 100000 in
theorem walk_t_t (a b c z : ByteArray) (w : World) (ha : a.size ≤ maxLen) (hb : b.size ≤ maxLen) (hc : c.size ≤ maxLen) (hz : z.size ≤ maxLen) (va : validB a.toList = true) (vb : validB b.toList = true) (vc : validB c.toList = true) (vz : validB z.toList = true) (w1 : underB a.toList z.toList = true) (w2 : cmpN a.toList b.toList ≤ 0) (w3 : cmpN b.toList c.toList ≤ 0) (w4 : underB c.toList z.toList = true) :
    Calls Try.prog 6 #[.string a, .string b, .string c, .string z] w fun e w' => e = .returned (.bool true) ∧ Below w.heap.size w w' := by
  have hn := fun W => names4 a b c z W ha hb hc hz
  rw [va, vb, vc, vz] at hn
  simp only [Bool.and_self] at hn
  have HN := Lib.hid hn
  clear hn
  have h1 := fun W => lunder_any a z W ha hz va vz
  rw [w1] at h1
  have h2 := fun W => lcompare_any a b W ha hb va vb
  have q2 := cmpN_good.rng a.toList b.toList
  have h0 := fun W => lcompare_any z a W hz ha vz va
  have q0 : cmpN z.toList a.toList ≤ 0 := by
    unfold cmpN; exact lex_prefix compareBytes_good _ _ (List.reverse_prefix.2 ((under_iff (valid_ok va)).1 w1))
  have q0b := cmpN_good.rng z.toList a.toList
  have h3 := fun W => lcompare_any b c W hb hc vb vc
  have q3 := cmpN_good.rng b.toList c.toList
  have h4 := fun W => lunder_any c z W hc hz vc vz
  rw [w4] at h4
  have h5 := fun W => lunder_any b z W hb hz vb vz
  have w5 : underB b.toList z.toList = true := by
    rw [under_iff (valid_ok vb), ← List.reverse_prefix]
    exact lex_between compareBytes_good _ _ _ _ (List.reverse_prefix.2 ((under_iff (valid_ok va)).1 w1)) (List.reverse_prefix.2 ((under_iff (valid_ok vc)).1 w4)) w2 w3
  rw [w5] at h5
  clear w5
  clear va vb vc vz w1 w4
  generalize cmpN a.toList b.toList = x at *
  generalize cmpN z.toList a.toList = x0 at *
  generalize cmpN b.toList c.toList = y at *
  have b2 : -1 ≤ x ∧ x ≤ 1 := by omega
  clear q2
  have b0 : -1 ≤ x0 ∧ x0 ≤ 1 := by omega
  clear q0b
  have b3 : -1 ≤ y ∧ y ≤ 1 := by omega
  clear q3
  have H1 := Lib.hid h1
  have H4 := Lib.hid h4
  have H5 := Lib.hid h5
  have H2 := Lib.hid h2
  have H0 := Lib.hid h0
  have H3 := Lib.hid h3
  clear h1 h4 h5 h2 h0 h3
  go_enter Try.func6, Try.ntmps6
  go_wp2_with (first | (go_at_call 14; refine (head_any _).mono ?_; rintro e w1 ⟨rfl, hb⟩; have HB := Lib.hid (hb.trans ((Below.refl _ w1).alloc hb.size (.cells #[.string a, .string b, .string c, .string z] 9))); clear hb) | (go_at_call 18; refine (HN.out _).mono ?_; rintro e w2 ⟨rfl, rfl⟩) | (go_at_call 20; first | ((with_reducible refine (H1.out _).mono ?_); rintro e w3 ⟨rfl, rfl⟩) | ((with_reducible refine (H4.out _).mono ?_); rintro e w3 ⟨rfl, rfl⟩) | ((with_reducible refine (H5.out _).mono ?_); rintro e w3 ⟨rfl, rfl⟩)) | (go_at_call 19; first | ((with_reducible refine (H2.out _).mono ?_); rintro e w3 ⟨rfl, hb⟩; have HB := Lib.hid (HB.out.trans (hb.mono HB.out.size)); clear hb) | ((with_reducible refine (H0.out _).mono ?_); rintro e w3 ⟨rfl, hb⟩; have HB := Lib.hid (HB.out.trans (hb.mono HB.out.size)); clear hb) | ((with_reducible refine (H3.out _).mono ?_); rintro e w3 ⟨rfl, hb⟩; have HB := Lib.hid (HB.out.trans (hb.mono HB.out.size)); clear hb)))
  go_ret
  exact ⟨rfl, HB.out⟩

theorem walk (a b c z : ByteArray) (w : World) (ha : a.size ≤ maxLen) (hb : b.size ≤ maxLen) (hc : c.size ≤ maxLen) (hz : z.size ≤ maxLen) :
    Calls Try.prog 6 #[.string a, .string b, .string c, .string z] w fun e w' => e = .returned (.bool true) ∧ Below w.heap.size w w' := by
  cases hv : (validB a.toList && validB b.toList && validB c.toList && validB z.toList)
  · exact walk_no a b c z w ha hb hc hz hv
  · simp only [Bool.and_eq_true] at hv
    obtain ⟨⟨⟨va, vb⟩, vc⟩, vz⟩ := hv
    cases w1 : underB a.toList z.toList <;> by_cases w2 : cmpN a.toList b.toList ≤ 0
    · by_cases w3 : cmpN b.toList c.toList ≤ 0
      · exact walk_f_ll a b c z w ha hb hc hz va vb vc vz w1 w2 w3
      · exact walk_f_lg a b c z w ha hb hc hz va vb vc vz w1 w2 (by omega)
    · exact walk_f_gt a b c z w ha hb hc hz va vb vc vz w1 (by omega)
    · by_cases w3 : cmpN b.toList c.toList ≤ 0
      · cases w4 : underB c.toList z.toList
        · exact walk_t_f a b c z w ha hb hc hz va vb vc vz w1 w2 w3 w4
        · exact walk_t_t a b c z w ha hb hc hz va vb vc vz w1 w2 w3 w4
      · exact walk_t_lg a b c z w ha hb hc hz va vb vc vz w1 w2 (by omega)
    · exact walk_t_gt a b c z w ha hb hc hz va vb vc vz w1 (by omega)

theorem own : ownKnob Try.prog.godebug = none := by kernel_rfl
theorem laidOut : laidOutB Try.prog = true := by kernel_rfl

set_option maxRecDepth 100000 in
theorem lifted (os : Os) (started : os.Started) (H : Type) (enc : TypeId × Value → H) :
    ReturnsInHanded {} Try.checked os 6 .any (Rows.nameStretchesSpec.pre6 enc Try.prog Try.f6 Rows.nameStretchesRow.domain false) (Rows.nameStretchesSpec.post enc Try.prog Try.f6 false true false false) := by
  refine returnsInHanded_of_change (C := Try.checked) own started (by kernel_rfl) Try.func6
    (ChangeSpec.witness6 (enc := enc) (C := Try.checked) false ⟨#[], #[.string ⟨#[]⟩, .string ⟨#[]⟩, .string ⟨#[]⟩, .string ⟨#[]⟩], []⟩ 8 (by kernel_rfl) (by kernel_rfl) (by kernel_rfl) (by kernel_rfl)) ?_
  intro W base args ds gs before hval0 hW hcnd _
  have hval : ∀ (j : Nat) t v, Try.f6.params[j]? = some t → args[j]? = some v → Value.okWide Try.prog W .any base t v := hval0
  have hW' := hW
  obtain ⟨p, q, hA0, hV, rfl, hfz, hnd⟩ := hW
  have hA : DataW.TrodAll enc Try.prog W 0 (fun _ => true) true Try.f6.params.toList args.toList ds p := hA0
  rw [Try.params6] at hA hval
  obtain ⟨v0, vs0, d0, ds0, p0, q0, hargs, rfl, rfl, h0, r0⟩ := trodAll_cons hA
  obtain ⟨v1, vs1, d1, ds1, p1, q1, rfl, rfl, rfl, h1, r1⟩ := trodAll_cons r0
  obtain ⟨v2, vs2, d2, ds2, p2, q2, rfl, rfl, rfl, h2, r2⟩ := trodAll_cons r1
  obtain ⟨v3, vs3, d3, ds3, p3, q3, rfl, rfl, rfl, h3, r3⟩ := trodAll_cons r2
  obtain ⟨rfl, rfl, rfl⟩ := trodAll_nil r3
  obtain rfl : args = #[v0, v1, v2, v3] := by cases args; simp_all
  obtain ⟨rfl, rfl⟩ := trodVars_none hV
  have k0 := h0
  have lt0 : ∀ x ∈ p0, x.block < W.heap.size := by obtain ⟨m, hm⟩ := k0; exact DataW.trod_lt m _ _ _ hm
  have k1 := h1
  have lt1 : ∀ x ∈ p1, x.block < W.heap.size := by obtain ⟨m, hm⟩ := k1; exact DataW.trod_lt m _ _ _ hm
  have k2 := h2
  have lt2 : ∀ x ∈ p2, x.block < W.heap.size := by obtain ⟨m, hm⟩ := k2; exact DataW.trod_lt m _ _ _ hm
  have k3 := h3
  have lt3 : ∀ x ∈ p3, x.block < W.heap.size := by obtain ⟨m, hm⟩ := k3; exact DataW.trod_lt m _ _ _ hm
  obtain ⟨s0, rfl, rfl, rfl, ws0⟩ := open_string Try.underlying9 (hval 0 9 v0 rfl rfl) h0
  obtain ⟨s1, rfl, rfl, rfl, ws1⟩ := open_string Try.underlying9 (hval 1 9 v1 rfl rfl) h1
  obtain ⟨s2, rfl, rfl, rfl, ws2⟩ := open_string Try.underlying9 (hval 2 9 v2 rfl rfl) h2
  obtain ⟨s3, rfl, rfl, rfl, ws3⟩ := open_string Try.underlying9 (hval 3 9 v3 rfl rfl) h3
  clear hA0 hval0
  refine (walk s0 s1 s2 s3 W ws0 ws1 ws2 ws3).mono fun e W' ⟨he, bel⟩ => ?_
  subst he
  exact ⟨_, rfl, _, _, _, [], _, [], hW', trodAll_mk1 (shut_bool Try.underlying4 _), (trodAll_cons_mk (Below.trod laidOut (by kernel_rfl) (of_decide_eq_true (by kernel_rfl)) k0 bel lt0) (trodAll_cons_mk (Below.trod laidOut (by kernel_rfl) (of_decide_eq_true (by kernel_rfl)) k1 bel lt1) (trodAll_cons_mk (Below.trod laidOut (by kernel_rfl) (of_decide_eq_true (by kernel_rfl)) k2 bel lt2) (trodAll_cons_mk (Below.trod laidOut (by kernel_rfl) (of_decide_eq_true (by kernel_rfl)) k3 bel lt3) trodAll_mk0)))), rfl, bel.frame _, fun h => by cases h⟩

theorem over : Rows.NameStretchesSaid :=
  OpenClaim.holds_of_wide 6 Try.f6 rfl rfl rfl rfl rfl rfl rfl ⟨rfl, rfl, rfl, rfl, rfl⟩ rfl rfl rfl rfl rfl (by kernel_rfl) Try.func6 (by kernel_rfl)
    (of_decide_eq_true (by kernel_rfl)) (by unfold Func.isWrapper; rw [if_neg (of_decide_eq_false (by kernel_rfl))]; exact ⟨rfl, rfl⟩)
    (fun os started H enc _ => lifted os started H enc)

end Stretches
theorem nameStretches_holds : Rows.NameStretchesSaid := Stretches.over
end Go.Proofs.Ytllobkppehlgbaa
