/- NameCommon of layer 1 is true for all texts, and leaves its arguments as they were; no condition. -/
import Derived.Test.YtllobkppehlgbaaN9
namespace Go.Proofs.Ytllobkppehlgbaa
open Go.ChangeShapes Go.WideShapes Go.ChangeAt Go.RowKit Go.Joins
open Go.ChangeMaps (open_string shut_string)
open NmP
namespace Common
set_option linter.unusedVariables false
set_option maxHeartbeats 1000000 in
theorem walk_no (a b c : ByteArray) (w : World) (ha : a.size ≤ maxLen) (hb : b.size ≤ maxLen) (hc : c.size ≤ maxLen) (hv : (validB a.toList && validB b.toList && validB c.toList) = false) :
    Calls Try.prog 7 #[.string a, .string b, .string c] w fun e w' => e = .returned (.bool true) ∧ Below w.heap.size w w' := by
  have hn := fun W => names3 a b c W ha hb hc
  rw [hv] at hn
  have HN := Lib.hid hn
  clear hn hv
  go_enter Try.func7, Try.ntmps7
  go_wp2_with (first | (go_at_call 14; refine (head_any _).mono ?_; rintro e w1 ⟨rfl, hb⟩) | (go_at_call 18; refine (HN.out _).mono ?_; rintro e w2 ⟨rfl, rfl⟩))
  go_ret
  exact ⟨rfl, hb.trans (((Below.refl _ _).alloc hb.size _))⟩

theorem com_facts (a b : ByteArray) (va : validB a.toList = true) (vb : validB b.toList = true) :
    comS 9 a b = comS 9 b a ∧ validB (comS 9 a b).toList = true ∧ underB a.toList (comS 9 a b).toList = true ∧ underB b.toList (comS 9 a b).toList = true ∧
      ∀ c : Bs, okN c → (underB a.toList c && underB b.toList c) = underB (comS 9 a b).toList c := by
  obtain ⟨s1, s2, s3, s4⟩ := comS_spec b vb 9 a va (by have := (valid_len va).1; omega)
  obtain ⟨t1, t2, t3, t4⟩ := comS_spec a va 9 b vb (by have := (valid_len vb).1; omega)
  refine ⟨?_, s1, (under_iff (valid_ok va)).2 s2, (under_iff (valid_ok vb)).2 s3, fun c _ => ?_⟩
  · apply ba_ext
    apply labs_inj
    exact (t4 _ s3 s2).eq_of_length_le (s4 _ t3 t2).length_le
  · rw [Bool.eq_iff_iff, Bool.and_eq_true, under_iff (valid_ok va), under_iff (valid_ok vb), under_iff (valid_ok s1)]
    exact ⟨fun h => s4 c h.1 h.2, fun h => ⟨h.trans s2, h.trans s3⟩⟩

set_option maxHeartbeats 2000000 in
set_option maxRecDepth 100000 in
theorem walk_tt (a b c : ByteArray) (w : World) (ha : a.size ≤ maxLen) (hb : b.size ≤ maxLen) (hc : c.size ≤ maxLen) (va : validB a.toList = true) (vb : validB b.toList = true) (vc : validB c.toList = true) (w1 : underB a.toList c.toList = true) (w2 : underB b.toList c.toList = true) :
    Calls Try.prog 7 #[.string a, .string b, .string c] w fun e w' => e = .returned (.bool true) ∧ Below w.heap.size w w' := by
  have hn := fun W => names3 a b c W ha hb hc
  rw [va, vb, vc] at hn
  simp only [Bool.and_self] at hn
  have HN := Lib.hid hn
  clear hn
  obtain ⟨f1, f2, f3, f4, f5⟩ := com_facts a b va vb
  have f6 := f5 c.toList (valid_ok vc)
  rw [w1, w2] at f6
  have h1 := fun W => Common_any a b W ha hb va vb
  have h2 := fun W => Common_any b a W hb ha vb va
  rw [← f1] at h2
  have hx : (comS 9 a b).size ≤ maxLen := Nat.le_trans (small f2) (by unfold maxLen; omega)
  have h3 := fun W => valid_any (comS 9 a b) W hx
  have h4 := fun W => lunder_any a (comS 9 a b) W ha hx va f2
  have h5 := fun W => lunder_any b (comS 9 a b) W hb hx vb f2
  have h6 := fun W => lunder_any (comS 9 a b) c W hx hc f2 vc
  have h7 := fun W => lunder_any a c W ha hc va vc
  have h8 := fun W => lunder_any b c W hb hc vb vc
  rw [f2] at h3
  rw [f3] at h4
  rw [f4] at h5
  rw [← f6] at h6
  rw [w1] at h7
  rw [w2] at h8
  rw [show (true && true) = true from rfl] at h6
  clear f1 f2 f3 f4 f5 f6 va vb vc w1 w2
  generalize comS 9 a b = x at *
  have H1 := Lib.hid h1
  have H2 := Lib.hid h2
  have H3 := Lib.hid h3
  have H4 := Lib.hid h4
  have H5 := Lib.hid h5
  have H6 := Lib.hid h6
  have H7 := Lib.hid h7
  have H8 := Lib.hid h8
  clear h1 h2 h3 h4 h5 h6 h7 h8
  go_enter Try.func7, Try.ntmps7
  go_wp2_with (first | (go_at_call 14; refine (head_any _).mono ?_; rintro e w1 ⟨rfl, hb⟩; have HB := Lib.hid (hb.trans ((Below.refl _ w1).alloc hb.size (.cells #[.string a, .string b, .string c] 9))); clear hb) | (go_at_call 18; refine (HN.out _).mono ?_; rintro e w2 ⟨rfl, rfl⟩) | (go_at_call 22; first | ((with_reducible refine (H1.out _).mono ?_); rintro e w3 ⟨rfl, rfl⟩) | ((with_reducible refine (H2.out _).mono ?_); rintro e w3 ⟨rfl, rfl⟩)) | (go_at_call 15; refine (H3.out _).mono ?_; rintro e w3 ⟨rfl, rfl⟩) | (go_at_call 20; first | ((with_reducible refine (H4.out _).mono ?_); rintro e w3 ⟨rfl, rfl⟩) | ((with_reducible refine (H5.out _).mono ?_); rintro e w3 ⟨rfl, rfl⟩) | ((with_reducible refine (H6.out _).mono ?_); rintro e w3 ⟨rfl, rfl⟩) | ((with_reducible refine (H7.out _).mono ?_); rintro e w3 ⟨rfl, rfl⟩) | ((with_reducible refine (H8.out _).mono ?_); rintro e w3 ⟨rfl, rfl⟩)))
  go_ret
  exact ⟨rfl, HB.out⟩

set_option maxHeartbeats 2000000 in
set_option maxRecDepth 100000 in
theorem walk_tf (a b c : ByteArray) (w : World) (ha : a.size ≤ maxLen) (hb : b.size ≤ maxLen) (hc : c.size ≤ maxLen) (va : validB a.toList = true) (vb : validB b.toList = true) (vc : validB c.toList = true) (w1 : underB a.toList c.toList = true) (w2 : underB b.toList c.toList = false) :
    Calls Try.prog 7 #[.string a, .string b, .string c] w fun e w' => e = .returned (.bool true) ∧ Below w.heap.size w w' := by
  have hn := fun W => names3 a b c W ha hb hc
  rw [va, vb, vc] at hn
  simp only [Bool.and_self] at hn
  have HN := Lib.hid hn
  clear hn
  obtain ⟨f1, f2, f3, f4, f5⟩ := com_facts a b va vb
  have f6 := f5 c.toList (valid_ok vc)
  rw [w1, w2] at f6
  have h1 := fun W => Common_any a b W ha hb va vb
  have h2 := fun W => Common_any b a W hb ha vb va
  rw [← f1] at h2
  have hx : (comS 9 a b).size ≤ maxLen := Nat.le_trans (small f2) (by unfold maxLen; omega)
  have h3 := fun W => valid_any (comS 9 a b) W hx
  have h4 := fun W => lunder_any a (comS 9 a b) W ha hx va f2
  have h5 := fun W => lunder_any b (comS 9 a b) W hb hx vb f2
  have h6 := fun W => lunder_any (comS 9 a b) c W hx hc f2 vc
  have h7 := fun W => lunder_any a c W ha hc va vc
  have h8 := fun W => lunder_any b c W hb hc vb vc
  rw [f2] at h3
  rw [f3] at h4
  rw [f4] at h5
  rw [← f6] at h6
  rw [w1] at h7
  rw [w2] at h8
  rw [show (true && false) = false from rfl] at h6
  clear f1 f2 f3 f4 f5 f6 va vb vc w1 w2
  generalize comS 9 a b = x at *
  have H1 := Lib.hid h1
  have H2 := Lib.hid h2
  have H3 := Lib.hid h3
  have H4 := Lib.hid h4
  have H5 := Lib.hid h5
  have H6 := Lib.hid h6
  have H7 := Lib.hid h7
  have H8 := Lib.hid h8
  clear h1 h2 h3 h4 h5 h6 h7 h8
  go_enter Try.func7, Try.ntmps7
  go_wp2_with (first | (go_at_call 14; refine (head_any _).mono ?_; rintro e w1 ⟨rfl, hb⟩; have HB := Lib.hid (hb.trans ((Below.refl _ w1).alloc hb.size (.cells #[.string a, .string b, .string c] 9))); clear hb) | (go_at_call 18; refine (HN.out _).mono ?_; rintro e w2 ⟨rfl, rfl⟩) | (go_at_call 22; first | ((with_reducible refine (H1.out _).mono ?_); rintro e w3 ⟨rfl, rfl⟩) | ((with_reducible refine (H2.out _).mono ?_); rintro e w3 ⟨rfl, rfl⟩)) | (go_at_call 15; refine (H3.out _).mono ?_; rintro e w3 ⟨rfl, rfl⟩) | (go_at_call 20; first | ((with_reducible refine (H4.out _).mono ?_); rintro e w3 ⟨rfl, rfl⟩) | ((with_reducible refine (H5.out _).mono ?_); rintro e w3 ⟨rfl, rfl⟩) | ((with_reducible refine (H6.out _).mono ?_); rintro e w3 ⟨rfl, rfl⟩) | ((with_reducible refine (H7.out _).mono ?_); rintro e w3 ⟨rfl, rfl⟩) | ((with_reducible refine (H8.out _).mono ?_); rintro e w3 ⟨rfl, rfl⟩)))
  go_ret
  exact ⟨rfl, HB.out⟩

set_option maxHeartbeats 2000000 in
set_option maxRecDepth 100000 in
theorem walk_ff (a b c : ByteArray) (w : World) (ha : a.size ≤ maxLen) (hb : b.size ≤ maxLen) (hc : c.size ≤ maxLen) (va : validB a.toList = true) (vb : validB b.toList = true) (vc : validB c.toList = true) (w1 : underB a.toList c.toList = false) (w2 : underB b.toList c.toList = false) :
    Calls Try.prog 7 #[.string a, .string b, .string c] w fun e w' => e = .returned (.bool true) ∧ Below w.heap.size w w' := by
  have hn := fun W => names3 a b c W ha hb hc
  rw [va, vb, vc] at hn
  simp only [Bool.and_self] at hn
  have HN := Lib.hid hn
  clear hn
  obtain ⟨f1, f2, f3, f4, f5⟩ := com_facts a b va vb
  have f6 := f5 c.toList (valid_ok vc)
  rw [w1, w2] at f6
  have h1 := fun W => Common_any a b W ha hb va vb
  have h2 := fun W => Common_any b a W hb ha vb va
  rw [← f1] at h2
  have hx : (comS 9 a b).size ≤ maxLen := Nat.le_trans (small f2) (by unfold maxLen; omega)
  have h3 := fun W => valid_any (comS 9 a b) W hx
  have h4 := fun W => lunder_any a (comS 9 a b) W ha hx va f2
  have h5 := fun W => lunder_any b (comS 9 a b) W hb hx vb f2
  have h6 := fun W => lunder_any (comS 9 a b) c W hx hc f2 vc
  have h7 := fun W => lunder_any a c W ha hc va vc
  have h8 := fun W => lunder_any b c W hb hc vb vc
  rw [f2] at h3
  rw [f3] at h4
  rw [f4] at h5
  rw [← f6] at h6
  rw [w1] at h7
  rw [w2] at h8
  rw [show (false && false) = false from rfl] at h6
  clear f1 f2 f3 f4 f5 f6 va vb vc w1 w2
  generalize comS 9 a b = x at *
  have H1 := Lib.hid h1
  have H2 := Lib.hid h2
  have H3 := Lib.hid h3
  have H4 := Lib.hid h4
  have H5 := Lib.hid h5
  have H6 := Lib.hid h6
  have H7 := Lib.hid h7
  have H8 := Lib.hid h8
  clear h1 h2 h3 h4 h5 h6 h7 h8
  go_enter Try.func7, Try.ntmps7
  go_wp2_with (first | (go_at_call 14; refine (head_any _).mono ?_; rintro e w1 ⟨rfl, hb⟩; have HB := Lib.hid (hb.trans ((Below.refl _ w1).alloc hb.size (.cells #[.string a, .string b, .string c] 9))); clear hb) | (go_at_call 18; refine (HN.out _).mono ?_; rintro e w2 ⟨rfl, rfl⟩) | (go_at_call 22; first | ((with_reducible refine (H1.out _).mono ?_); rintro e w3 ⟨rfl, rfl⟩) | ((with_reducible refine (H2.out _).mono ?_); rintro e w3 ⟨rfl, rfl⟩)) | (go_at_call 15; refine (H3.out _).mono ?_; rintro e w3 ⟨rfl, rfl⟩) | (go_at_call 20; first | ((with_reducible refine (H4.out _).mono ?_); rintro e w3 ⟨rfl, rfl⟩) | ((with_reducible refine (H5.out _).mono ?_); rintro e w3 ⟨rfl, rfl⟩) | ((with_reducible refine (H6.out _).mono ?_); rintro e w3 ⟨rfl, rfl⟩) | ((with_reducible refine (H7.out _).mono ?_); rintro e w3 ⟨rfl, rfl⟩) | ((with_reducible refine (H8.out _).mono ?_); rintro e w3 ⟨rfl, rfl⟩)))
  go_ret
  exact ⟨rfl, HB.out⟩

set_option maxHeartbeats 2000000 in
set_option maxRecDepth 100000 in
theorem walk_ft (a b c : ByteArray) (w : World) (ha : a.size ≤ maxLen) (hb : b.size ≤ maxLen) (hc : c.size ≤ maxLen) (va : validB a.toList = true) (vb : validB b.toList = true) (vc : validB c.toList = true) (w1 : underB a.toList c.toList = false) (w2 : underB b.toList c.toList = true) :
    Calls Try.prog 7 #[.string a, .string b, .string c] w fun e w' => e = .returned (.bool true) ∧ Below w.heap.size w w' := by
  have hn := fun W => names3 a b c W ha hb hc
  rw [va, vb, vc] at hn
  simp only [Bool.and_self] at hn
  have HN := Lib.hid hn
  clear hn
  obtain ⟨f1, f2, f3, f4, f5⟩ := com_facts a b va vb
  have f6 := f5 c.toList (valid_ok vc)
  rw [w1, w2] at f6
  have h1 := fun W => Common_any a b W ha hb va vb
  have h2 := fun W => Common_any b a W hb ha vb va
  rw [← f1] at h2
  have hx : (comS 9 a b).size ≤ maxLen := Nat.le_trans (small f2) (by unfold maxLen; omega)
  have h3 := fun W => valid_any (comS 9 a b) W hx
  have h4 := fun W => lunder_any a (comS 9 a b) W ha hx va f2
  have h5 := fun W => lunder_any b (comS 9 a b) W hb hx vb f2
  have h6 := fun W => lunder_any (comS 9 a b) c W hx hc f2 vc
  have h7 := fun W => lunder_any a c W ha hc va vc
  have h8 := fun W => lunder_any b c W hb hc vb vc
  rw [f2] at h3
  rw [f3] at h4
  rw [f4] at h5
  rw [← f6] at h6
  rw [w1] at h7
  rw [w2] at h8
  rw [show (false && true) = false from rfl] at h6
  clear f1 f2 f3 f4 f5 f6 va vb vc w1 w2
  generalize comS 9 a b = x at *
  have H1 := Lib.hid h1
  have H2 := Lib.hid h2
  have H3 := Lib.hid h3
  have H4 := Lib.hid h4
  have H5 := Lib.hid h5
  have H6 := Lib.hid h6
  have H7 := Lib.hid h7
  have H8 := Lib.hid h8
  clear h1 h2 h3 h4 h5 h6 h7 h8
  go_enter Try.func7, Try.ntmps7
  go_wp2_with (first | (go_at_call 14; refine (head_any _).mono ?_; rintro e w1 ⟨rfl, hb⟩; have HB := Lib.hid (hb.trans ((Below.refl _ w1).alloc hb.size (.cells #[.string a, .string b, .string c] 9))); clear hb) | (go_at_call 18; refine (HN.out _).mono ?_; rintro e w2 ⟨rfl, rfl⟩) | (go_at_call 22; first | ((with_reducible refine (H1.out _).mono ?_); rintro e w3 ⟨rfl, rfl⟩) | ((with_reducible refine (H2.out _).mono ?_); rintro e w3 ⟨rfl, rfl⟩)) | (go_at_call 15; refine (H3.out _).mono ?_; rintro e w3 ⟨rfl, rfl⟩) | (go_at_call 20; first | ((with_reducible refine (H4.out _).mono ?_); rintro e w3 ⟨rfl, rfl⟩) | ((with_reducible refine (H5.out _).mono ?_); rintro e w3 ⟨rfl, rfl⟩) | ((with_reducible refine (H6.out _).mono ?_); rintro e w3 ⟨rfl, rfl⟩) | ((with_reducible refine (H7.out _).mono ?_); rintro e w3 ⟨rfl, rfl⟩) | ((with_reducible refine (H8.out _).mono ?_); rintro e w3 ⟨rfl, rfl⟩)))
  go_ret
  exact ⟨rfl, HB.out⟩

theorem walk (a b c : ByteArray) (w : World) (ha : a.size ≤ maxLen) (hb : b.size ≤ maxLen) (hc : c.size ≤ maxLen) :
    Calls Try.prog 7 #[.string a, .string b, .string c] w fun e w' => e = .returned (.bool true) ∧ Below w.heap.size w w' := by
  cases hv : (validB a.toList && validB b.toList && validB c.toList)
  · exact walk_no a b c w ha hb hc hv
  · simp only [Bool.and_eq_true] at hv
    obtain ⟨⟨va, vb⟩, vc⟩ := hv
    cases w1 : underB a.toList c.toList <;> cases w2 : underB b.toList c.toList
    · exact walk_ff a b c w ha hb hc va vb vc w1 w2
    · exact walk_ft a b c w ha hb hc va vb vc w1 w2
    · exact walk_tf a b c w ha hb hc va vb vc w1 w2
    · exact walk_tt a b c w ha hb hc va vb vc w1 w2

theorem own : ownKnob Try.prog.godebug = none := by kernel_rfl
theorem laidOut : laidOutB Try.prog = true := by kernel_rfl

set_option maxRecDepth 100000 in
theorem lifted (os : Os) (started : os.Started) (H : Type) (enc : TypeId × Value → H) :
    ReturnsInHanded {} Try.checked os 7 .any (Rows.nameCommonSpec.pre6 enc Try.prog Try.f7 Rows.nameCommonRow.domain false) (Rows.nameCommonSpec.post enc Try.prog Try.f7 false true false false) := by
  refine returnsInHanded_of_change (C := Try.checked) own started (by kernel_rfl) Try.func7
    (ChangeSpec.witness6 (enc := enc) (C := Try.checked) false ⟨#[], #[.string ⟨#[]⟩, .string ⟨#[]⟩, .string ⟨#[]⟩], []⟩ 8 (by kernel_rfl) (by kernel_rfl) (by kernel_rfl) (by kernel_rfl)) ?_
  intro W base args ds gs before hval0 hW hcnd _
  have hval : ∀ (j : Nat) t v, Try.f7.params[j]? = some t → args[j]? = some v → Value.okWide Try.prog W .any base t v := hval0
  have hW' := hW
  obtain ⟨p, q, hA0, hV, rfl, hfz, hnd⟩ := hW
  have hA : DataW.TrodAll enc Try.prog W 0 (fun _ => true) true Try.f7.params.toList args.toList ds p := hA0
  rw [Try.params7] at hA hval
  obtain ⟨v0, vs0, d0, ds0, p0, q0, hargs, rfl, rfl, h0, r0⟩ := trodAll_cons hA
  obtain ⟨v1, vs1, d1, ds1, p1, q1, rfl, rfl, rfl, h1, r1⟩ := trodAll_cons r0
  obtain ⟨v2, vs2, d2, ds2, p2, q2, rfl, rfl, rfl, h2, r2⟩ := trodAll_cons r1
  obtain ⟨rfl, rfl, rfl⟩ := trodAll_nil r2
  obtain rfl : args = #[v0, v1, v2] := by cases args; simp_all
  obtain ⟨rfl, rfl⟩ := trodVars_none hV
  have k0 := h0
  have lt0 : ∀ x ∈ p0, x.block < W.heap.size := by obtain ⟨m, hm⟩ := k0; exact DataW.trod_lt m _ _ _ hm
  have k1 := h1
  have lt1 : ∀ x ∈ p1, x.block < W.heap.size := by obtain ⟨m, hm⟩ := k1; exact DataW.trod_lt m _ _ _ hm
  have k2 := h2
  have lt2 : ∀ x ∈ p2, x.block < W.heap.size := by obtain ⟨m, hm⟩ := k2; exact DataW.trod_lt m _ _ _ hm
  obtain ⟨s0, rfl, rfl, rfl, ws0⟩ := open_string Try.underlying9 (hval 0 9 v0 rfl rfl) h0
  obtain ⟨s1, rfl, rfl, rfl, ws1⟩ := open_string Try.underlying9 (hval 1 9 v1 rfl rfl) h1
  obtain ⟨s2, rfl, rfl, rfl, ws2⟩ := open_string Try.underlying9 (hval 2 9 v2 rfl rfl) h2
  clear hA0 hval0
  refine (walk s0 s1 s2 W ws0 ws1 ws2).mono fun e W' ⟨he, bel⟩ => ?_
  subst he
  exact ⟨_, rfl, _, _, _, [], _, [], hW', trodAll_mk1 (shut_bool Try.underlying4 _), (trodAll_cons_mk (Below.trod laidOut (by kernel_rfl) (of_decide_eq_true (by kernel_rfl)) k0 bel lt0) (trodAll_cons_mk (Below.trod laidOut (by kernel_rfl) (of_decide_eq_true (by kernel_rfl)) k1 bel lt1) (trodAll_cons_mk (Below.trod laidOut (by kernel_rfl) (of_decide_eq_true (by kernel_rfl)) k2 bel lt2) trodAll_mk0))), rfl, bel.frame _, fun h => by cases h⟩

theorem over : Rows.NameCommonSaid :=
  OpenClaim.holds_of_wide 7 Try.f7 rfl rfl rfl rfl rfl rfl rfl ⟨rfl, rfl, rfl, rfl, rfl⟩ rfl rfl rfl rfl rfl (by kernel_rfl) Try.func7 (by kernel_rfl)
    (of_decide_eq_true (by kernel_rfl)) (by unfold Func.isWrapper; rw [if_neg (of_decide_eq_false (by kernel_rfl))]; exact ⟨rfl, rfl⟩)
    (fun os started H enc _ => lifted os started H enc)

end Common
theorem nameCommon_holds : Rows.NameCommonSaid := Common.over
end Go.Proofs.Ytllobkppehlgbaa
