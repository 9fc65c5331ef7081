/- NameTree of layer 1 is true for all texts, and leaves its arguments as they were; no condition. -/
import Derived.Test.YtllobkppehlgbaaN9
namespace Go.Proofs.Ytllobkppehlgbaa
open Go.ChangeShapes Go.WideShapes Go.ChangeAt Go.RowKit Go.Joins
open Go.ChangeMaps (open_string shut_string)
open NmP
namespace Tree
set_option linter.unusedVariables false
set_option maxHeartbeats 1000000 in
theorem walk_no (a b c : ByteArray) (w : World) (ha : a.size ≤ maxLen) (hb : b.size ≤ maxLen) (hc : c.size ≤ maxLen) (hv : (validB a.toList && validB b.toList && validB c.toList) = false) :
    Calls Try.prog 5 #[.string a, .string b, .string c] w fun e w' => e = .returned (.bool true) ∧ Below w.heap.size w w' := by
  have hn := fun W => names3 a b c W ha hb hc
  rw [hv] at hn
  have HN := Lib.hid hn
  clear hn hv
  go_enter Try.func5, Try.ntmps5
  go_wp2_with (first | (go_at_call 14; refine (head_any _).mono ?_; rintro e w1 ⟨rfl, hb⟩) | (go_at_call 18; refine (HN.out _).mono ?_; rintro e w2 ⟨rfl, rfl⟩))
  go_ret
  exact ⟨rfl, hb.trans (((Below.refl _ _).alloc hb.size _))⟩

/-- Where the loop over the names above stands: i steps up from a one is at x; fnd: b was among those before. -/
def InT (a b : Bs) (i : Nat) (x : ByteArray) (fnd : Bool) : Prop :=
  (i ≤ (labs a).length → validB x.toList = true ∧ labs x.toList = (labs a).drop i) ∧ (fnd = true ↔ ∃ j, j < i ∧ labs b = (labs a).drop j)
theorem InT.start (a : ByteArray) (b : Bs) (h : validB a.toList = true) : InT a.toList b 0 a false :=
  ⟨fun _ => ⟨h, by simp⟩, by simp⟩
theorem InT.fnd {a b : Bs} {i : Nat} {x : ByteArray} {fnd : Bool} (h : InT a b i x fnd) (hi : i ≤ (labs a).length) (t : Bool) (ht : t = true ↔ x.toList = b) : ((fnd || t) = true ↔ ∃ j, j < i + 1 ∧ labs b = (labs a).drop j) := by
  rw [Bool.or_eq_true, h.2, ht]
  constructor
  · rintro (⟨j, h1, h2⟩ | h1)
    · exact ⟨j, by omega, h2⟩
    · exact ⟨i, by omega, by rw [← h1]; exact (h.1 hi).2⟩
  · rintro ⟨j, h1, h2⟩
    rcases Nat.lt_or_ge j i with q | q
    · exact .inl ⟨j, q, h2⟩
    · obtain rfl : j = i := by omega
      right
      rw [← (h.1 hi).2] at h2
      exact labs_inj h2.symm
theorem InT.step {a b : Bs} {i : Nat} {x : ByteArray} {fnd : Bool} (h : InT a b i x fnd) (hi : i < (labs a).length) (t : Bool) (ht : t = true ↔ x.toList = b) : x.toList ≠ [46] ∧ InT a b (i + 1) (parentS x) (fnd || t) := by
  obtain ⟨v, e⟩ := h.1 (by omega)
  have hr : x.toList ≠ [46] := fun q => by
    rw [q, labs_root] at e
    have := congrArg List.length e
    simp at this
    omega
  obtain ⟨p1, p2⟩ := valid_parent v hr
  rw [← parentS_toList] at p1 p2
  exact ⟨hr, fun _ => ⟨p1, by rw [p2, e, List.tail_drop]⟩, h.fnd (by omega) t ht⟩
theorem InT.root {a b : Bs} {i : Nat} {x : ByteArray} {fnd : Bool} (h : InT a b i x fnd) (hi : i = (labs a).length) : x = rootS := by
  obtain ⟨v, e⟩ := h.1 (by omega)
  apply ba_ext
  apply labs_inj
  rw [e, rootS_toList, labs_root, hi, List.drop_length]
theorem InT.done {a b : ByteArray} {i : Nat} {x : ByteArray} {fnd : Bool} (h : InT a.toList b.toList i x fnd) (hi : i = (labs a.toList).length + 1) (va : validB a.toList = true) : fnd = underB a.toList b.toList := by
  rw [Bool.eq_iff_iff, h.2, under_iff (valid_ok va)]
  constructor
  · rintro ⟨j, _, h2⟩; rw [h2]; exact List.drop_suffix _ _
  · rintro ⟨q, hq⟩
    exact ⟨q.length, by have := congrArg List.length hq; simp at this; omega, by rw [← hq]; simp⟩

set_option maxHeartbeats 2000000 in
set_option maxRecDepth 100000 in
theorem walk_f (a b c : ByteArray) (w : World) (ha : a.size ≤ maxLen) (hb : b.size ≤ maxLen) (hc : c.size ≤ maxLen) (va : validB a.toList = true) (vb : validB b.toList = true) (vc : validB c.toList = true) (w1 : underB a.toList b.toList = false) :
    Calls Try.prog 5 #[.string a, .string b, .string c] w fun e w' => e = .returned (.bool true) ∧ Below w.heap.size w w' := by
  have hn := fun W => names3 a b c W ha hb hc
  rw [va, vb, vc] at hn
  simp only [Bool.and_self] at hn
  have HN := Lib.hid hn
  clear hn
  have h1 := fun W => lunder_any a a W ha ha va va
  rw [show underB a.toList a.toList = true by simp [underB]] at h1
  have vr : validB (⟨#[46]⟩ : ByteArray).toList = true := by rw [tl]; rfl
  have h2 := fun W => lunder_any a ⟨#[46]⟩ W ha (by unfold maxLen; decide) va vr
  rw [show underB a.toList (⟨#[46]⟩ : ByteArray).toList = true by rw [tl ⟨#[46]⟩]; simp [underB]] at h2
  have h3 := fun W => lunder_any a b W ha hb va vb
  rw [w1] at h3
  have HT := Lib.hid (InT.start a b.toList va)
  have HVA := Lib.hid va
  have HW := Lib.hid w1
  have HLa := Lib.hid (fun W => Labels_fwd a W ha va)
  have H1 := Lib.hid h1
  have H2 := Lib.hid h2
  have H3 := Lib.hid h3
  clear h1 h2 h3 va vb vc vr w1
  go_enter Try.func5, Try.ntmps5
  go_wp2_with (first | (go_at_call 14; refine (head_any _).mono ?_; rintro e w1 ⟨rfl, hb⟩; have HB := Lib.hid (hb.trans ((Below.refl _ w1).alloc hb.size (.cells #[.string a, .string b, .string c] 9))); clear hb) | (go_at_call 18; refine (HN.out _).mono ?_; rintro e w2 ⟨rfl, rfl⟩))
  refine (HLa.out _).mono ?_
  rintro e w2 ⟨bb, l, hl, rfl, hcc, hbb⟩
  have hn : l.length = (labs a.toList).length := by rw [← hl]; simp [tls]
  have h8 := (valid_len HVA.out).1
  rw [← hn] at h8
  have HNL := Lib.hid hn
  have HB := Lib.hid (HB.out.trans (hbb.mono HB.out.size))
  clear hl hbb hn hcc
  generalize l.length = n at *
  go_wp2_with (first | (go_at_call 20; first | ((with_reducible refine (H1.out _).mono ?_); rintro e w3 ⟨rfl, rfl⟩) | ((with_reducible refine (H2.out _).mono ?_); rintro e w3 ⟨rfl, rfl⟩) | ((with_reducible refine (H3.out _).mono ?_); rintro e w3 ⟨rfl, rfl⟩)))
  go_loop [10, 11, 12] (fun s10 s11 s12 => ∃ (fnd : Bool) (x : ByteArray) (i : Nat), s10 = .bool fnd ∧ s11 = .string x ∧ s12 = .int .i64 i ∧ i ≤ n + 1 ∧ Hid (InT a.toList b.toList i x fnd)) (fun _ _ s12 => n + 1 - (intOf s12).toNat)
  case atStart => exact ⟨false, a, 0, rfl, rfl, rfl, by omega, HT⟩
  case round =>
    obtain ⟨fnd, x, i, rfl, rfl, rfl, hi, HI⟩ := hrel
    clear HT
    by_cases h1 : i ≤ n
    · have htt : (x.toList == b.toList) = true ↔ x.toList = b.toList := beq_iff_eq
      have htr : (x.toList == [46]) = true ↔ x.toList = [46] := beq_iff_eq
      by_cases h2 : i < n
      · have hs := HI.out.step (by rw [← HNL.out]; exact h2) _ htt
        have hin : ((i : Int) == (n : Int)) = false := beq_eq_false_iff_ne.2 (by omega)
        have hrf : (x.toList == [46]) = false := by
          cases q : (x.toList == [46])
          · rfl
          · exact absurd (htr.1 q) hs.1
        have hv := HI.out.1 (by rw [← HNL.out]; omega)
        have hp := fun W => parent_any x W (Nat.le_trans (small hv.1) (by unfold maxLen; omega)) hv.1 hs.1
        have HS := Lib.hid hs.2
        have HP := Lib.hid hp
        clear hs hv hp htr htt
        generalize hz : (x.toList == b.toList) = z at *
        have HZ := Lib.hid hz
        clear hz
        have hz2 := HZ.out
        cases fnd <;> cases z
        all_goals
          go_wp2_with (go_at_call 21; refine (HP.out _).mono ?_; rintro e w4 ⟨rfl, rfl⟩)
          go_round
          case rel => exact ⟨_, parentS x, i + 1, rfl, rfl, by go_num, by omega, HS⟩
          case measure => simp [intOf] <;> omega
      · obtain rfl : i = n := by omega
        have hx := HI.out.root HNL.out
        have hf := HI.out.fnd (by rw [← HNL.out]; omega) _ htt
        subst hx
        have hrt : (rootS.toList == [46]) = true := by rw [rootS_toList]; rfl
        have HF := Lib.hid hf
        have hii : ((i : Int) == (i : Int)) = true := by simp
        clear hf htt htr
        generalize hz : (rootS.toList == b.toList) = z at *
        have HZ := Lib.hid hz
        clear hz
        have hz2 := HZ.out
        cases fnd <;> cases z
        all_goals
          go_wp2_with (go_at_call 21; refine (parent_root _).mono ?_; rintro e w4 ⟨rfl, rfl⟩)
          go_round
          case rel => exact ⟨_, ByteArray.empty, i + 1, rfl, rfl, by go_num, by omega, Lib.hid ⟨fun h => absurd h (by rw [← HNL.out]; omega), HF.out⟩⟩
          case measure => simp [intOf] <;> omega
    · obtain rfl : i = n + 1 := by omega
      have hd := HI.out.done (by rw [← HNL.out]) HVA.out
      rw [HW.out] at hd
      subst hd
      go_wp2_with (first | (go_at_call 20; first | ((with_reducible refine (H3.out _).mono ?_); rintro e w3 ⟨rfl, rfl⟩)))
      go_ret
      exact ⟨rfl, HB.out⟩

set_option maxHeartbeats 2000000 in
set_option maxRecDepth 100000 in
theorem walk_tff (a b c : ByteArray) (w : World) (ha : a.size ≤ maxLen) (hb : b.size ≤ maxLen) (hc : c.size ≤ maxLen) (va : validB a.toList = true) (vb : validB b.toList = true) (vc : validB c.toList = true) (w1 : underB a.toList b.toList = true) (w2 : underB b.toList a.toList = false) (w3 : underB b.toList c.toList = false) :
    Calls Try.prog 5 #[.string a, .string b, .string c] w fun e w' => e = .returned (.bool true) ∧ Below w.heap.size w w' := by
  have hn := fun W => names3 a b c W ha hb hc
  rw [va, vb, vc] at hn
  simp only [Bool.and_self] at hn
  have HN := Lib.hid hn
  clear hn
  have h1 := fun W => lunder_any a a W ha ha va va
  rw [show underB a.toList a.toList = true by simp [underB]] at h1
  have vr : validB (⟨#[46]⟩ : ByteArray).toList = true := by rw [tl]; rfl
  have h2 := fun W => lunder_any a ⟨#[46]⟩ W ha (by unfold maxLen; decide) va vr
  rw [show underB a.toList (⟨#[46]⟩ : ByteArray).toList = true by rw [tl ⟨#[46]⟩]; simp [underB]] at h2
  have h3 := fun W => lunder_any a b W ha hb va vb
  rw [w1] at h3
  have h4 := fun W => lunder_any b a W hb ha vb va
  rw [w2] at h4
  have h5 := fun W => lunder_any b c W hb hc vb vc
  rw [w3] at h5
  have HT := Lib.hid (InT.start a b.toList va)
  have HVA := Lib.hid va
  have HW := Lib.hid w1
  have HLa := Lib.hid (fun W => Labels_fwd a W ha va)
  have H1 := Lib.hid h1
  have H2 := Lib.hid h2
  have H3 := Lib.hid h3
  have H4 := Lib.hid h4
  have H5 := Lib.hid h5
  clear h1 h2 h3 h4 h5 va vb vc vr w1 w2 w3
  go_enter Try.func5, Try.ntmps5
  go_wp2_with (first | (go_at_call 14; refine (head_any _).mono ?_; rintro e w1 ⟨rfl, hb⟩; have HB := Lib.hid (hb.trans ((Below.refl _ w1).alloc hb.size (.cells #[.string a, .string b, .string c] 9))); clear hb) | (go_at_call 18; refine (HN.out _).mono ?_; rintro e w2 ⟨rfl, rfl⟩))
  refine (HLa.out _).mono ?_
  rintro e w2 ⟨bb, l, hl, rfl, hcc, hbb⟩
  have hn : l.length = (labs a.toList).length := by rw [← hl]; simp [tls]
  have h8 := (valid_len HVA.out).1
  rw [← hn] at h8
  have HNL := Lib.hid hn
  have HB := Lib.hid (HB.out.trans (hbb.mono HB.out.size))
  clear hl hbb hn hcc
  generalize l.length = n at *
  go_wp2_with (first | (go_at_call 20; first | ((with_reducible refine (H1.out _).mono ?_); rintro e w3 ⟨rfl, rfl⟩) | ((with_reducible refine (H2.out _).mono ?_); rintro e w3 ⟨rfl, rfl⟩) | ((with_reducible refine (H3.out _).mono ?_); rintro e w3 ⟨rfl, rfl⟩) | ((with_reducible refine (H4.out _).mono ?_); rintro e w3 ⟨rfl, rfl⟩) | ((with_reducible refine (H5.out _).mono ?_); rintro e w3 ⟨rfl, rfl⟩)))
  go_loop [10, 11, 12] (fun s10 s11 s12 => ∃ (fnd : Bool) (x : ByteArray) (i : Nat), s10 = .bool fnd ∧ s11 = .string x ∧ s12 = .int .i64 i ∧ i ≤ n + 1 ∧ Hid (InT a.toList b.toList i x fnd)) (fun _ _ s12 => n + 1 - (intOf s12).toNat)
  case atStart => exact ⟨false, a, 0, rfl, rfl, rfl, by omega, HT⟩
  case round =>
    obtain ⟨fnd, x, i, rfl, rfl, rfl, hi, HI⟩ := hrel
    clear HT
    by_cases h1 : i ≤ n
    · have htt : (x.toList == b.toList) = true ↔ x.toList = b.toList := beq_iff_eq
      have htr : (x.toList == [46]) = true ↔ x.toList = [46] := beq_iff_eq
      by_cases h2 : i < n
      · have hs := HI.out.step (by rw [← HNL.out]; exact h2) _ htt
        have hin : ((i : Int) == (n : Int)) = false := beq_eq_false_iff_ne.2 (by omega)
        have hrf : (x.toList == [46]) = false := by
          cases q : (x.toList == [46])
          · rfl
          · exact absurd (htr.1 q) hs.1
        have hv := HI.out.1 (by rw [← HNL.out]; omega)
        have hp := fun W => parent_any x W (Nat.le_trans (small hv.1) (by unfold maxLen; omega)) hv.1 hs.1
        have HS := Lib.hid hs.2
        have HP := Lib.hid hp
        clear hs hv hp htr htt
        generalize hz : (x.toList == b.toList) = z at *
        have HZ := Lib.hid hz
        clear hz
        have hz2 := HZ.out
        cases fnd <;> cases z
        all_goals
          go_wp2_with (go_at_call 21; refine (HP.out _).mono ?_; rintro e w4 ⟨rfl, rfl⟩)
          go_round
          case rel => exact ⟨_, parentS x, i + 1, rfl, rfl, by go_num, by omega, HS⟩
          case measure => simp [intOf] <;> omega
      · obtain rfl : i = n := by omega
        have hx := HI.out.root HNL.out
        have hf := HI.out.fnd (by rw [← HNL.out]; omega) _ htt
        subst hx
        have hrt : (rootS.toList == [46]) = true := by rw [rootS_toList]; rfl
        have HF := Lib.hid hf
        have hii : ((i : Int) == (i : Int)) = true := by simp
        clear hf htt htr
        generalize hz : (rootS.toList == b.toList) = z at *
        have HZ := Lib.hid hz
        clear hz
        have hz2 := HZ.out
        cases fnd <;> cases z
        all_goals
          go_wp2_with (go_at_call 21; refine (parent_root _).mono ?_; rintro e w4 ⟨rfl, rfl⟩)
          go_round
          case rel => exact ⟨_, ByteArray.empty, i + 1, rfl, rfl, by go_num, by omega, Lib.hid ⟨fun h => absurd h (by rw [← HNL.out]; omega), HF.out⟩⟩
          case measure => simp [intOf] <;> omega
    · obtain rfl : i = n + 1 := by omega
      have hd := HI.out.done (by rw [← HNL.out]) HVA.out
      rw [HW.out] at hd
      subst hd
      go_wp2_with (first | (go_at_call 20; first | ((with_reducible refine (H3.out _).mono ?_); rintro e w3 ⟨rfl, rfl⟩)))
      go_ret
      exact ⟨rfl, HB.out⟩

set_option maxHeartbeats 2000000 in
set_option maxRecDepth 100000 in
theorem walk_tft (a b c : ByteArray) (w : World) (ha : a.size ≤ maxLen) (hb : b.size ≤ maxLen) (hc : c.size ≤ maxLen) (va : validB a.toList = true) (vb : validB b.toList = true) (vc : validB c.toList = true) (w1 : underB a.toList b.toList = true) (w2 : underB b.toList a.toList = false) (w3 : underB b.toList c.toList = true) :
    Calls Try.prog 5 #[.string a, .string b, .string c] w fun e w' => e = .returned (.bool true) ∧ Below w.heap.size w w' := by
  have hn := fun W => names3 a b c W ha hb hc
  rw [va, vb, vc] at hn
  simp only [Bool.and_self] at hn
  have HN := Lib.hid hn
  clear hn
  have h1 := fun W => lunder_any a a W ha ha va va
  rw [show underB a.toList a.toList = true by simp [underB]] at h1
  have vr : validB (⟨#[46]⟩ : ByteArray).toList = true := by rw [tl]; rfl
  have h2 := fun W => lunder_any a ⟨#[46]⟩ W ha (by unfold maxLen; decide) va vr
  rw [show underB a.toList (⟨#[46]⟩ : ByteArray).toList = true by rw [tl ⟨#[46]⟩]; simp [underB]] at h2
  have h3 := fun W => lunder_any a b W ha hb va vb
  rw [w1] at h3
  have h4 := fun W => lunder_any b a W hb ha vb va
  rw [w2] at h4
  have h5 := fun W => lunder_any b c W hb hc vb vc
  rw [w3] at h5
  have h6 := fun W => lunder_any a c W ha hc va vc
  rw [show underB a.toList c.toList = true from (under_iff (valid_ok va)).2 (((under_iff (valid_ok vb)).1 w3).trans ((under_iff (valid_ok va)).1 w1))] at h6
  have HT := Lib.hid (InT.start a b.toList va)
  have HVA := Lib.hid va
  have HW := Lib.hid w1
  have HLa := Lib.hid (fun W => Labels_fwd a W ha va)
  have H1 := Lib.hid h1
  have H2 := Lib.hid h2
  have H3 := Lib.hid h3
  have H4 := Lib.hid h4
  have H5 := Lib.hid h5
  have H6 := Lib.hid h6
  clear h1 h2 h3 h4 h5 h6 va vb vc vr w1 w2 w3
  go_enter Try.func5, Try.ntmps5
  go_wp2_with (first | (go_at_call 14; refine (head_any _).mono ?_; rintro e w1 ⟨rfl, hb⟩; have HB := Lib.hid (hb.trans ((Below.refl _ w1).alloc hb.size (.cells #[.string a, .string b, .string c] 9))); clear hb) | (go_at_call 18; refine (HN.out _).mono ?_; rintro e w2 ⟨rfl, rfl⟩))
  refine (HLa.out _).mono ?_
  rintro e w2 ⟨bb, l, hl, rfl, hcc, hbb⟩
  have hn : l.length = (labs a.toList).length := by rw [← hl]; simp [tls]
  have h8 := (valid_len HVA.out).1
  rw [← hn] at h8
  have HNL := Lib.hid hn
  have HB := Lib.hid (HB.out.trans (hbb.mono HB.out.size))
  clear hl hbb hn hcc
  generalize l.length = n at *
  go_wp2_with (first | (go_at_call 20; first | ((with_reducible refine (H1.out _).mono ?_); rintro e w3 ⟨rfl, rfl⟩) | ((with_reducible refine (H2.out _).mono ?_); rintro e w3 ⟨rfl, rfl⟩) | ((with_reducible refine (H3.out _).mono ?_); rintro e w3 ⟨rfl, rfl⟩) | ((with_reducible refine (H4.out _).mono ?_); rintro e w3 ⟨rfl, rfl⟩) | ((with_reducible refine (H5.out _).mono ?_); rintro e w3 ⟨rfl, rfl⟩) | ((with_reducible refine (H6.out _).mono ?_); rintro e w3 ⟨rfl, rfl⟩)))
  go_loop [10, 11, 12] (fun s10 s11 s12 => ∃ (fnd : Bool) (x : ByteArray) (i : Nat), s10 = .bool fnd ∧ s11 = .string x ∧ s12 = .int .i64 i ∧ i ≤ n + 1 ∧ Hid (InT a.toList b.toList i x fnd)) (fun _ _ s12 => n + 1 - (intOf s12).toNat)
  case atStart => exact ⟨false, a, 0, rfl, rfl, rfl, by omega, HT⟩
  case round =>
    obtain ⟨fnd, x, i, rfl, rfl, rfl, hi, HI⟩ := hrel
    clear HT
    by_cases h1 : i ≤ n
    · have htt : (x.toList == b.toList) = true ↔ x.toList = b.toList := beq_iff_eq
      have htr : (x.toList == [46]) = true ↔ x.toList = [46] := beq_iff_eq
      by_cases h2 : i < n
      · have hs := HI.out.step (by rw [← HNL.out]; exact h2) _ htt
        have hin : ((i : Int) == (n : Int)) = false := beq_eq_false_iff_ne.2 (by omega)
        have hrf : (x.toList == [46]) = false := by
          cases q : (x.toList == [46])
          · rfl
          · exact absurd (htr.1 q) hs.1
        have hv := HI.out.1 (by rw [← HNL.out]; omega)
        have hp := fun W => parent_any x W (Nat.le_trans (small hv.1) (by unfold maxLen; omega)) hv.1 hs.1
        have HS := Lib.hid hs.2
        have HP := Lib.hid hp
        clear hs hv hp htr htt
        generalize hz : (x.toList == b.toList) = z at *
        have HZ := Lib.hid hz
        clear hz
        have hz2 := HZ.out
        cases fnd <;> cases z
        all_goals
          go_wp2_with (go_at_call 21; refine (HP.out _).mono ?_; rintro e w4 ⟨rfl, rfl⟩)
          go_round
          case rel => exact ⟨_, parentS x, i + 1, rfl, rfl, by go_num, by omega, HS⟩
          case measure => simp [intOf] <;> omega
      · obtain rfl : i = n := by omega
        have hx := HI.out.root HNL.out
        have hf := HI.out.fnd (by rw [← HNL.out]; omega) _ htt
        subst hx
        have hrt : (rootS.toList == [46]) = true := by rw [rootS_toList]; rfl
        have HF := Lib.hid hf
        have hii : ((i : Int) == (i : Int)) = true := by simp
        clear hf htt htr
        generalize hz : (rootS.toList == b.toList) = z at *
        have HZ := Lib.hid hz
        clear hz
        have hz2 := HZ.out
        cases fnd <;> cases z
        all_goals
          go_wp2_with (go_at_call 21; refine (parent_root _).mono ?_; rintro e w4 ⟨rfl, rfl⟩)
          go_round
          case rel => exact ⟨_, ByteArray.empty, i + 1, rfl, rfl, by go_num, by omega, Lib.hid ⟨fun h => absurd h (by rw [← HNL.out]; omega), HF.out⟩⟩
          case measure => simp [intOf] <;> omega
    · obtain rfl : i = n + 1 := by omega
      have hd := HI.out.done (by rw [← HNL.out]) HVA.out
      rw [HW.out] at hd
      subst hd
      go_wp2_with (first | (go_at_call 20; first | ((with_reducible refine (H3.out _).mono ?_); rintro e w3 ⟨rfl, rfl⟩)))
      go_ret
      exact ⟨rfl, HB.out⟩

set_option maxHeartbeats 2000000 in
set_option maxRecDepth 100000 in
theorem walk_ttf (a b c : ByteArray) (w : World) (ha : a.size ≤ maxLen) (hb : b.size ≤ maxLen) (hc : c.size ≤ maxLen) (va : validB a.toList = true) (vb : validB b.toList = true) (vc : validB c.toList = true) (w1 : underB a.toList b.toList = true) (w2 : underB b.toList a.toList = true) (w3 : underB b.toList c.toList = false) :
    Calls Try.prog 5 #[.string a, .string b, .string c] w fun e w' => e = .returned (.bool true) ∧ Below w.heap.size w w' := by
  have hn := fun W => names3 a b c W ha hb hc
  rw [va, vb, vc] at hn
  simp only [Bool.and_self] at hn
  have HN := Lib.hid hn
  clear hn
  have h1 := fun W => lunder_any a a W ha ha va va
  rw [show underB a.toList a.toList = true by simp [underB]] at h1
  have vr : validB (⟨#[46]⟩ : ByteArray).toList = true := by rw [tl]; rfl
  have h2 := fun W => lunder_any a ⟨#[46]⟩ W ha (by unfold maxLen; decide) va vr
  rw [show underB a.toList (⟨#[46]⟩ : ByteArray).toList = true by rw [tl ⟨#[46]⟩]; simp [underB]] at h2
  have h3 := fun W => lunder_any a b W ha hb va vb
  rw [w1] at h3
  have h4 := fun W => lunder_any b a W hb ha vb va
  rw [w2] at h4
  have h5 := fun W => lunder_any b c W hb hc vb vc
  rw [w3] at h5
  have hab : (a.toList == b.toList) = true := by
    rw [beq_iff_eq]
    exact labs_inj (((under_iff (valid_ok vb)).1 w2).eq_of_length_le ((under_iff (valid_ok va)).1 w1).length_le)
  have HT := Lib.hid (InT.start a b.toList va)
  have HVA := Lib.hid va
  have HW := Lib.hid w1
  have HLa := Lib.hid (fun W => Labels_fwd a W ha va)
  have H1 := Lib.hid h1
  have H2 := Lib.hid h2
  have H3 := Lib.hid h3
  have H4 := Lib.hid h4
  have H5 := Lib.hid h5
  clear h1 h2 h3 h4 h5 va vb vc vr w1 w2 w3
  go_enter Try.func5, Try.ntmps5
  go_wp2_with (first | (go_at_call 14; refine (head_any _).mono ?_; rintro e w1 ⟨rfl, hb⟩; have HB := Lib.hid (hb.trans ((Below.refl _ w1).alloc hb.size (.cells #[.string a, .string b, .string c] 9))); clear hb) | (go_at_call 18; refine (HN.out _).mono ?_; rintro e w2 ⟨rfl, rfl⟩))
  refine (HLa.out _).mono ?_
  rintro e w2 ⟨bb, l, hl, rfl, hcc, hbb⟩
  have hn : l.length = (labs a.toList).length := by rw [← hl]; simp [tls]
  have h8 := (valid_len HVA.out).1
  rw [← hn] at h8
  have HNL := Lib.hid hn
  have HB := Lib.hid (HB.out.trans (hbb.mono HB.out.size))
  clear hl hbb hn hcc
  generalize l.length = n at *
  go_wp2_with (first | (go_at_call 20; first | ((with_reducible refine (H1.out _).mono ?_); rintro e w3 ⟨rfl, rfl⟩) | ((with_reducible refine (H2.out _).mono ?_); rintro e w3 ⟨rfl, rfl⟩) | ((with_reducible refine (H3.out _).mono ?_); rintro e w3 ⟨rfl, rfl⟩) | ((with_reducible refine (H4.out _).mono ?_); rintro e w3 ⟨rfl, rfl⟩) | ((with_reducible refine (H5.out _).mono ?_); rintro e w3 ⟨rfl, rfl⟩)))
  go_loop [10, 11, 12] (fun s10 s11 s12 => ∃ (fnd : Bool) (x : ByteArray) (i : Nat), s10 = .bool fnd ∧ s11 = .string x ∧ s12 = .int .i64 i ∧ i ≤ n + 1 ∧ Hid (InT a.toList b.toList i x fnd)) (fun _ _ s12 => n + 1 - (intOf s12).toNat)
  case atStart => exact ⟨false, a, 0, rfl, rfl, rfl, by omega, HT⟩
  case round =>
    obtain ⟨fnd, x, i, rfl, rfl, rfl, hi, HI⟩ := hrel
    clear HT
    by_cases h1 : i ≤ n
    · have htt : (x.toList == b.toList) = true ↔ x.toList = b.toList := beq_iff_eq
      have htr : (x.toList == [46]) = true ↔ x.toList = [46] := beq_iff_eq
      by_cases h2 : i < n
      · have hs := HI.out.step (by rw [← HNL.out]; exact h2) _ htt
        have hin : ((i : Int) == (n : Int)) = false := beq_eq_false_iff_ne.2 (by omega)
        have hrf : (x.toList == [46]) = false := by
          cases q : (x.toList == [46])
          · rfl
          · exact absurd (htr.1 q) hs.1
        have hv := HI.out.1 (by rw [← HNL.out]; omega)
        have hp := fun W => parent_any x W (Nat.le_trans (small hv.1) (by unfold maxLen; omega)) hv.1 hs.1
        have HS := Lib.hid hs.2
        have HP := Lib.hid hp
        clear hs hv hp htr htt
        generalize hz : (x.toList == b.toList) = z at *
        have HZ := Lib.hid hz
        clear hz
        have hz2 := HZ.out
        cases fnd <;> cases z
        all_goals
          go_wp2_with (go_at_call 21; refine (HP.out _).mono ?_; rintro e w4 ⟨rfl, rfl⟩)
          go_round
          case rel => exact ⟨_, parentS x, i + 1, rfl, rfl, by go_num, by omega, HS⟩
          case measure => simp [intOf] <;> omega
      · obtain rfl : i = n := by omega
        have hx := HI.out.root HNL.out
        have hf := HI.out.fnd (by rw [← HNL.out]; omega) _ htt
        subst hx
        have hrt : (rootS.toList == [46]) = true := by rw [rootS_toList]; rfl
        have HF := Lib.hid hf
        have hii : ((i : Int) == (i : Int)) = true := by simp
        clear hf htt htr
        generalize hz : (rootS.toList == b.toList) = z at *
        have HZ := Lib.hid hz
        clear hz
        have hz2 := HZ.out
        cases fnd <;> cases z
        all_goals
          go_wp2_with (go_at_call 21; refine (parent_root _).mono ?_; rintro e w4 ⟨rfl, rfl⟩)
          go_round
          case rel => exact ⟨_, ByteArray.empty, i + 1, rfl, rfl, by go_num, by omega, Lib.hid ⟨fun h => absurd h (by rw [← HNL.out]; omega), HF.out⟩⟩
          case measure => simp [intOf] <;> omega
    · obtain rfl : i = n + 1 := by omega
      have hd := HI.out.done (by rw [← HNL.out]) HVA.out
      rw [HW.out] at hd
      subst hd
      go_wp2_with (first | (go_at_call 20; first | ((with_reducible refine (H3.out _).mono ?_); rintro e w3 ⟨rfl, rfl⟩)))
      go_ret
      exact ⟨rfl, HB.out⟩

set_option maxHeartbeats 2000000 in
set_option maxRecDepth 100000 in
theorem walk_ttt (a b c : ByteArray) (w : World) (ha : a.size ≤ maxLen) (hb : b.size ≤ maxLen) (hc : c.size ≤ maxLen) (va : validB a.toList = true) (vb : validB b.toList = true) (vc : validB c.toList = true) (w1 : underB a.toList b.toList = true) (w2 : underB b.toList a.toList = true) (w3 : underB b.toList c.toList = true) :
    Calls Try.prog 5 #[.string a, .string b, .string c] w fun e w' => e = .returned (.bool true) ∧ Below w.heap.size w w' := by
  have hn := fun W => names3 a b c W ha hb hc
  rw [va, vb, vc] at hn
  simp only [Bool.and_self] at hn
  have HN := Lib.hid hn
  clear hn
  have h1 := fun W => lunder_any a a W ha ha va va
  rw [show underB a.toList a.toList = true by simp [underB]] at h1
  have vr : validB (⟨#[46]⟩ : ByteArray).toList = true := by rw [tl]; rfl
  have h2 := fun W => lunder_any a ⟨#[46]⟩ W ha (by unfold maxLen; decide) va vr
  rw [show underB a.toList (⟨#[46]⟩ : ByteArray).toList = true by rw [tl ⟨#[46]⟩]; simp [underB]] at h2
  have h3 := fun W => lunder_any a b W ha hb va vb
  rw [w1] at h3
  have h4 := fun W => lunder_any b a W hb ha vb va
  rw [w2] at h4
  have h5 := fun W => lunder_any b c W hb hc vb vc
  rw [w3] at h5
  have hab : (a.toList == b.toList) = true := by
    rw [beq_iff_eq]
    exact labs_inj (((under_iff (valid_ok vb)).1 w2).eq_of_length_le ((under_iff (valid_ok va)).1 w1).length_le)
  have h6 := fun W => lunder_any a c W ha hc va vc
  rw [show underB a.toList c.toList = true from (under_iff (valid_ok va)).2 (((under_iff (valid_ok vb)).1 w3).trans ((under_iff (valid_ok va)).1 w1))] at h6
  have HT := Lib.hid (InT.start a b.toList va)
  have HVA := Lib.hid va
  have HW := Lib.hid w1
  have HLa := Lib.hid (fun W => Labels_fwd a W ha va)
  have H1 := Lib.hid h1
  have H2 := Lib.hid h2
  have H3 := Lib.hid h3
  have H4 := Lib.hid h4
  have H5 := Lib.hid h5
  have H6 := Lib.hid h6
  clear h1 h2 h3 h4 h5 h6 va vb vc vr w1 w2 w3
  go_enter Try.func5, Try.ntmps5
  go_wp2_with (first | (go_at_call 14; refine (head_any _).mono ?_; rintro e w1 ⟨rfl, hb⟩; have HB := Lib.hid (hb.trans ((Below.refl _ w1).alloc hb.size (.cells #[.string a, .string b, .string c] 9))); clear hb) | (go_at_call 18; refine (HN.out _).mono ?_; rintro e w2 ⟨rfl, rfl⟩))
  refine (HLa.out _).mono ?_
  rintro e w2 ⟨bb, l, hl, rfl, hcc, hbb⟩
  have hn : l.length = (labs a.toList).length := by rw [← hl]; simp [tls]
  have h8 := (valid_len HVA.out).1
  rw [← hn] at h8
  have HNL := Lib.hid hn
  have HB := Lib.hid (HB.out.trans (hbb.mono HB.out.size))
  clear hl hbb hn hcc
  generalize l.length = n at *
  go_wp2_with (first | (go_at_call 20; first | ((with_reducible refine (H1.out _).mono ?_); rintro e w3 ⟨rfl, rfl⟩) | ((with_reducible refine (H2.out _).mono ?_); rintro e w3 ⟨rfl, rfl⟩) | ((with_reducible refine (H3.out _).mono ?_); rintro e w3 ⟨rfl, rfl⟩) | ((with_reducible refine (H4.out _).mono ?_); rintro e w3 ⟨rfl, rfl⟩) | ((with_reducible refine (H5.out _).mono ?_); rintro e w3 ⟨rfl, rfl⟩) | ((with_reducible refine (H6.out _).mono ?_); rintro e w3 ⟨rfl, rfl⟩)))
  go_loop [10, 11, 12] (fun s10 s11 s12 => ∃ (fnd : Bool) (x : ByteArray) (i : Nat), s10 = .bool fnd ∧ s11 = .string x ∧ s12 = .int .i64 i ∧ i ≤ n + 1 ∧ Hid (InT a.toList b.toList i x fnd)) (fun _ _ s12 => n + 1 - (intOf s12).toNat)
  case atStart => exact ⟨false, a, 0, rfl, rfl, rfl, by omega, HT⟩
  case round =>
    obtain ⟨fnd, x, i, rfl, rfl, rfl, hi, HI⟩ := hrel
    clear HT
    by_cases h1 : i ≤ n
    · have htt : (x.toList == b.toList) = true ↔ x.toList = b.toList := beq_iff_eq
      have htr : (x.toList == [46]) = true ↔ x.toList = [46] := beq_iff_eq
      by_cases h2 : i < n
      · have hs := HI.out.step (by rw [← HNL.out]; exact h2) _ htt
        have hin : ((i : Int) == (n : Int)) = false := beq_eq_false_iff_ne.2 (by omega)
        have hrf : (x.toList == [46]) = false := by
          cases q : (x.toList == [46])
          · rfl
          · exact absurd (htr.1 q) hs.1
        have hv := HI.out.1 (by rw [← HNL.out]; omega)
        have hp := fun W => parent_any x W (Nat.le_trans (small hv.1) (by unfold maxLen; omega)) hv.1 hs.1
        have HS := Lib.hid hs.2
        have HP := Lib.hid hp
        clear hs hv hp htr htt
        generalize hz : (x.toList == b.toList) = z at *
        have HZ := Lib.hid hz
        clear hz
        have hz2 := HZ.out
        cases fnd <;> cases z
        all_goals
          go_wp2_with (go_at_call 21; refine (HP.out _).mono ?_; rintro e w4 ⟨rfl, rfl⟩)
          go_round
          case rel => exact ⟨_, parentS x, i + 1, rfl, rfl, by go_num, by omega, HS⟩
          case measure => simp [intOf] <;> omega
      · obtain rfl : i = n := by omega
        have hx := HI.out.root HNL.out
        have hf := HI.out.fnd (by rw [← HNL.out]; omega) _ htt
        subst hx
        have hrt : (rootS.toList == [46]) = true := by rw [rootS_toList]; rfl
        have HF := Lib.hid hf
        have hii : ((i : Int) == (i : Int)) = true := by simp
        clear hf htt htr
        generalize hz : (rootS.toList == b.toList) = z at *
        have HZ := Lib.hid hz
        clear hz
        have hz2 := HZ.out
        cases fnd <;> cases z
        all_goals
          go_wp2_with (go_at_call 21; refine (parent_root _).mono ?_; rintro e w4 ⟨rfl, rfl⟩)
          go_round
          case rel => exact ⟨_, ByteArray.empty, i + 1, rfl, rfl, by go_num, by omega, Lib.hid ⟨fun h => absurd h (by rw [← HNL.out]; omega), HF.out⟩⟩
          case measure => simp [intOf] <;> omega
    · obtain rfl : i = n + 1 := by omega
      have hd := HI.out.done (by rw [← HNL.out]) HVA.out
      rw [HW.out] at hd
      subst hd
      go_wp2_with (first | (go_at_call 20; first | ((with_reducible refine (H3.out _).mono ?_); rintro e w3 ⟨rfl, rfl⟩)))
      go_ret
      exact ⟨rfl, HB.out⟩

theorem walk (a b c : ByteArray) (w : World) (ha : a.size ≤ maxLen) (hb : b.size ≤ maxLen) (hc : c.size ≤ maxLen) :
    Calls Try.prog 5 #[.string a, .string b, .string c] w fun e w' => e = .returned (.bool true) ∧ Below w.heap.size w w' := by
  cases hv : (validB a.toList && validB b.toList && validB c.toList)
  · exact walk_no a b c w ha hb hc hv
  · simp only [Bool.and_eq_true] at hv
    obtain ⟨⟨va, vb⟩, vc⟩ := hv
    cases w1 : underB a.toList b.toList
    · exact walk_f a b c w ha hb hc va vb vc w1
    · cases w2 : underB b.toList a.toList <;> cases w3 : underB b.toList c.toList
      · exact walk_tff a b c w ha hb hc va vb vc w1 w2 w3
      · exact walk_tft a b c w ha hb hc va vb vc w1 w2 w3
      · exact walk_ttf a b c w ha hb hc va vb vc w1 w2 w3
      · exact walk_ttt a b c w ha hb hc va vb vc w1 w2 w3

theorem own : ownKnob Try.prog.godebug = none := by kernel_rfl
theorem laidOut : laidOutB Try.prog = true := by kernel_rfl

set_option maxRecDepth 100000 in
theorem lifted (os : Os) (started : os.Started) (H : Type) (enc : TypeId × Value → H) :
    ReturnsInHanded {} Try.checked os 5 .any (Rows.nameTreeSpec.pre6 enc Try.prog Try.f5 Rows.nameTreeRow.domain false) (Rows.nameTreeSpec.post enc Try.prog Try.f5 false true false false) := by
  refine returnsInHanded_of_change (C := Try.checked) own started (by kernel_rfl) Try.func5
    (ChangeSpec.witness6 (enc := enc) (C := Try.checked) false ⟨#[], #[.string ⟨#[]⟩, .string ⟨#[]⟩, .string ⟨#[]⟩], []⟩ 8 (by kernel_rfl) (by kernel_rfl) (by kernel_rfl) (by kernel_rfl)) ?_
  intro W base args ds gs before hval0 hW hcnd _
  have hval : ∀ (j : Nat) t v, Try.f5.params[j]? = some t → args[j]? = some v → Value.okWide Try.prog W .any base t v := hval0
  have hW' := hW
  obtain ⟨p, q, hA0, hV, rfl, hfz, hnd⟩ := hW
  have hA : DataW.TrodAll enc Try.prog W 0 (fun _ => true) true Try.f5.params.toList args.toList ds p := hA0
  rw [Try.params5] at hA hval
  obtain ⟨v0, vs0, d0, ds0, p0, q0, hargs, rfl, rfl, h0, r0⟩ := trodAll_cons hA
  obtain ⟨v1, vs1, d1, ds1, p1, q1, rfl, rfl, rfl, h1, r1⟩ := trodAll_cons r0
  obtain ⟨v2, vs2, d2, ds2, p2, q2, rfl, rfl, rfl, h2, r2⟩ := trodAll_cons r1
  obtain ⟨rfl, rfl, rfl⟩ := trodAll_nil r2
  obtain rfl : args = #[v0, v1, v2] := by cases args; simp_all
  obtain ⟨rfl, rfl⟩ := trodVars_none hV
  have k0 := h0
  have lt0 : ∀ x ∈ p0, x.block < W.heap.size := by obtain ⟨m, hm⟩ := k0; exact DataW.trod_lt m _ _ _ hm
  have k1 := h1
  have lt1 : ∀ x ∈ p1, x.block < W.heap.size := by obtain ⟨m, hm⟩ := k1; exact DataW.trod_lt m _ _ _ hm
  have k2 := h2
  have lt2 : ∀ x ∈ p2, x.block < W.heap.size := by obtain ⟨m, hm⟩ := k2; exact DataW.trod_lt m _ _ _ hm
  obtain ⟨s0, rfl, rfl, rfl, ws0⟩ := open_string Try.underlying9 (hval 0 9 v0 rfl rfl) h0
  obtain ⟨s1, rfl, rfl, rfl, ws1⟩ := open_string Try.underlying9 (hval 1 9 v1 rfl rfl) h1
  obtain ⟨s2, rfl, rfl, rfl, ws2⟩ := open_string Try.underlying9 (hval 2 9 v2 rfl rfl) h2
  clear hA0 hval0
  refine (walk s0 s1 s2 W ws0 ws1 ws2).mono fun e W' ⟨he, bel⟩ => ?_
  subst he
  exact ⟨_, rfl, _, _, _, [], _, [], hW', trodAll_mk1 (shut_bool Try.underlying4 _), (trodAll_cons_mk (Below.trod laidOut (by kernel_rfl) (of_decide_eq_true (by kernel_rfl)) k0 bel lt0) (trodAll_cons_mk (Below.trod laidOut (by kernel_rfl) (of_decide_eq_true (by kernel_rfl)) k1 bel lt1) (trodAll_cons_mk (Below.trod laidOut (by kernel_rfl) (of_decide_eq_true (by kernel_rfl)) k2 bel lt2) trodAll_mk0))), rfl, bel.frame _, fun h => by cases h⟩

theorem over : Rows.NameTreeSaid :=
  OpenClaim.holds_of_wide 5 Try.f5 rfl rfl rfl rfl rfl rfl rfl ⟨rfl, rfl, rfl, rfl, rfl⟩ rfl rfl rfl rfl rfl (by kernel_rfl) Try.func5 (by kernel_rfl)
    (of_decide_eq_true (by kernel_rfl)) (by unfold Func.isWrapper; rw [if_neg (of_decide_eq_false (by kernel_rfl))]; exact ⟨rfl, rfl⟩)
    (fun os started H enc _ => lifted os started H enc)

end Tree
theorem nameTree_holds : Rows.NameTreeSaid := Tree.over
end Go.Proofs.Ytllobkppehlgbaa
