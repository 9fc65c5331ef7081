/- The contract of valid of package name, and of what calls it alone; no condition beyond those that each theorem names. -/
import Derived.Test.YtkhckgknldiheaaDoorN1
namespace Go.Proofs.YtkhckgknldiheaaDoor
set_option linter.unusedSimpArgs false
set_option linter.unusedVariables false
open Go.RowKit
open NmP

theorem no_dot {l : Bs} {st i : Nat} (nd : ∀ j, st ≤ j → j < i → l[j]? ≠ some 46) : (46 : UInt8) ∉ (l.drop st).take (i - st) := by
  intro h
  obtain ⟨j, hj, e⟩ := List.mem_iff_getElem.1 h
  have h1 : j < i - st := by rw [List.length_take] at hj; omega
  have h2 : ((l.drop st).take (i - st))[j]? = some 46 := by rw [List.getElem?_eq_getElem hj, e]
  rw [List.getElem?_take_of_lt h1, List.getElem?_drop] at h2
  exact nd (st + j) (by omega) (by omega) h2
theorem piece {l : Bs} {st i : Nat} (h : st ≤ i) (nd : ∀ j, st ≤ j → j < i → l[j]? ≠ some 46) (hd : l[i]? = some 46) :
    splitF (l.drop st) = ((l.drop st).take (i - st)) :: splitF (l.drop (i + 1)) := by
  obtain ⟨h4, h5⟩ := List.getElem?_eq_some_iff.1 hd
  have e : l.drop st = (l.drop st).take (i - st) ++ 46 :: l.drop (i + 1) := by
    have a1 := (List.take_append_drop (i - st) (l.drop st)).symm
    rw [List.drop_drop, show st + (i - st) = i by omega, List.drop_eq_getElem_cons h4, h5] at a1
    exact a1
  rw [e]
  rw [splitF_dot, ← e, splitF_none _ (no_dot nd)]
  rfl
theorem last {l : Bs} {st : Nat} (nd : ∀ j, st ≤ j → j < l.length → l[j]? ≠ some 46) : splitF (l.drop st) = [l.drop st] := by
  have := no_dot nd
  rw [List.take_of_length_le (by simp)] at this
  exact splitF_none _ this

/-- Where the loop of valid stands: st: where the label begins, i: the place, lb: how many labels there were. -/
def InV (l : Bs) (lb st i : Nat) : Prop :=
  (st ≤ i ∧ i ≤ l.length ∧ (∀ j, st ≤ j → j < i → l[j]? ≠ some 46) ∧ labsOK true (splitF l) = labsOK ((st : Int) == 0) (splitF (l.drop st)) ∧ (splitF l).length = lb + (splitF (l.drop st)).length) ∨
  (i = l.length + 1 ∧ labsOK true (splitF l) = true ∧ (splitF l).length = lb)

theorem InV.skip {l : Bs} {lb st i : Nat} (h : InV l lb st i) (hi : i < l.length) (hd : l[i]? ≠ some 46) : InV l lb st (i + 1) := by
  rcases h with ⟨h1, h2, h3, h4, h5⟩ | ⟨h1, _⟩
  · refine .inl ⟨by omega, by omega, fun j hj hj2 => ?_, h4, h5⟩
    rcases Nat.lt_or_ge j i with q | q
    · exact h3 j hj q
    · obtain rfl : j = i := by omega
      exact hd
  · omega
theorem InV.dot {l : Bs} {lb st i : Nat} (h : InV l lb st i) (hi : i < l.length) (hd : l[i]? = some 46) :
    (labelB ((l.drop st).take (i - st)) ((st : Int) == 0) = true → InV l (lb + 1) (i + 1) (i + 1)) ∧ (labelB ((l.drop st).take (i - st)) ((st : Int) == 0) = false → labsOK true (splitF l) = false) := by
  rcases h with ⟨h1, h2, h3, h4, h5⟩ | ⟨h1, _⟩
  · have e := piece h1 h3 hd
    rw [e] at h4 h5
    simp only [labsOK] at h4
    constructor
    · intro hb
      rw [hb, Bool.true_and] at h4
      refine .inl ⟨Nat.le_refl _, by omega, fun j a b => by omega, ?_, by simp at h5; omega⟩
      rw [h4, show (((i + 1 : Nat) : Int) == 0) = false from beq_eq_false_iff_ne.2 (by omega)]
    · intro hb
      rw [h4, hb]; rfl
  · omega
theorem InV.fin {l : Bs} {lb st : Nat} (h : InV l lb st l.length) :
    (labelB (l.drop st) ((st : Int) == 0) = true → ∀ k, InV l (lb + 1) k (l.length + 1)) ∧ (labelB (l.drop st) ((st : Int) == 0) = false → labsOK true (splitF l) = false) := by
  rcases h with ⟨h1, h2, h3, h4, h5⟩ | ⟨h1, _⟩
  · have e := last h3
    rw [e] at h4 h5
    simp only [labsOK, Bool.and_true] at h4
    constructor
    · intro hb k
      exact .inr ⟨rfl, by rw [h4, hb], by simpa using h5⟩
    · intro hb
      rw [h4, hb]
  · omega

set_option maxHeartbeats 1000000 in
theorem tvalid_any (s : ByteArray) (w : World) (hs : s.size ≤ maxLen) :
    Calls Tryd.prog 70 #[.string s] w fun e w' => e = .returned (.bool (validB s.toList)) ∧ w = w' := by
  unfold maxLen at hs
  by_cases hr : s.toList = [46]
  · have h2 : (s.toList == [46]) = true := by simpa using hr
    have HR : Hid (validB s.toList = true) := Lib.hid (by simp [validB, hr])
    clear hr
    go_enter Tryd.func70, Tryd.ntmps70
    go_wp2
    go_ret
    exact ⟨by rw [HR.out]; rfl, rfl⟩
  have hrt : (s.toList == [46]) = false := by simpa using hr
  by_cases h0 : s.size = 0
  · have hxe : s = ByteArray.empty := by
      apply ByteArray.ext; apply Array.eq_empty_of_size_eq_zero; exact h0
    subst hxe
    have HR : Hid (validB (ByteArray.empty).toList = false) := Lib.hid (by simp [validB])
    clear hr hrt
    go_enter Tryd.func70, Tryd.ntmps70
    go_wp2
    go_ret
    exact ⟨by rw [HR.out]; rfl, rfl⟩
  have hz0 : ((s.size : Int) == 0) = false := beq_eq_false_iff_ne.2 (by omega)
  by_cases h60 : s.size ≤ 60
  · have HV : Hid (validB s.toList = (labsOK true (splitF s.toList) && decide ((splitF s.toList).length ≤ 8))) := Lib.hid (by
      unfold validB; rw [hrt, tl_len, show decide (1 ≤ s.size) = true from decide_eq_true (by omega), show decide (s.size ≤ 60) = true from decide_eq_true h60]; simp)
    have HI : Hid (InV s.toList 0 0 0) := Lib.hid (.inl ⟨Nat.le_refl _, Nat.zero_le _, fun j _ h => absurd h (Nat.not_lt_zero _), by simp, by simp⟩)
    clear hr
    go_enter Tryd.func70, Tryd.ntmps70
    go_wp2
    go_loop [3, 4, 5] (fun s3 s4 s5 => ∃ lb st i : Nat, i ≤ s.size + 1 ∧ lb ≤ i ∧ (i ≤ s.size → st ≤ i) ∧ s3 = .int .i64 lb ∧ s4 = .int .i64 st ∧ s5 = .int .i64 i ∧ Hid (InV s.toList lb st i)) (fun _ _ s5 => s.size + 2 - (intOf s5).toNat)
    case atStart => exact ⟨0, 0, 0, by omega, Nat.le_refl _, fun _ => Nat.le_refl _, rfl, rfl, rfl, HI⟩
    case round =>
      obtain ⟨lb, st, i, hi, hlb, hst, rfl, rfl, rfl, HN⟩ := hrel
      clear HI
      by_cases h1 : i < s.size
      · have hst2 := hst (by omega)
        clear hst
        have hg := tl_get s i h1
        by_cases h2 : (s[i]).toNat = 46
        · have hd : s.toList[i]? = some 46 := by rw [hg]; congr 1; exact UInt8.toNat_inj.1 h2
          have h3 := HN.out.dot (by rw [tl_len]; exact h1) hd
          rw [← tl_sub] at h3
          have hl := fun W => label_any (s.extract st i) ((st : Int) == 0) W (by unfold maxLen; rw [ByteArray.size_extract]; omega)
          have hq1 : ((s[i].toNat : Int) != 46) = false := by rw [bne_eq_false_iff_eq]; omega
          generalize hb : labelB (s.extract st i).toList ((st : Int) == 0) = b at h3 hl
          have H3 := Lib.hid h3
          have HL := Lib.hid hl
          clear hb h3 hl hd hg
          cases b
          · go_wp2_with (go_at_call 88; refine (HL.out _).mono ?_; rintro e w4 ⟨rfl, rfl⟩)
            go_ret
            exact ⟨by rw [HV.out, H3.out.2 (by first | rfl | trivial)]; rfl, rfl⟩
          · go_wp2_with (go_at_call 88; refine (HL.out _).mono ?_; rintro e w4 ⟨rfl, rfl⟩)
            go_round
            case rel => exact ⟨lb + 1, i + 1, i + 1, by omega, by omega, fun _ => Nat.le_refl _, by go_num, by go_num, by go_num, Lib.hid (H3.out.1 (by first | rfl | trivial))⟩
            case measure => simp [intOf]; omega
        · have hd : s.toList[i]? ≠ some 46 := by rw [hg]; intro q; exact h2 (by rw [Option.some.inj q]; rfl)
          have H3 := Lib.hid (HN.out.skip (by rw [tl_len]; exact h1) hd)
          have hq1 : ((s[i].toNat : Int) != 46) = true := by rw [bne_iff_ne]; omega
          clear hd hg
          go_wp2
          go_round
          case rel => exact ⟨lb, st, i + 1, by omega, by omega, fun _ => by omega, rfl, rfl, by go_num, H3⟩
          case measure => simp [intOf]; omega
      · by_cases h2 : i = s.size
        · subst h2
          have hst2 := hst (by omega)
          clear hst
          have h3 := InV.fin (l := s.toList) (lb := lb) (st := st) (by rw [tl_len]; exact HN.out)
          have he : (s.extract st s.size).toList = s.toList.drop st := by
            rw [tl_sub, List.take_of_length_le (by rw [List.length_drop, tl_len]; omega)]
          rw [← he, tl_len] at h3
          have hl := fun W => label_any (s.extract st s.size) ((st : Int) == 0) W (by unfold maxLen; rw [ByteArray.size_extract]; omega)
          generalize hb : labelB (s.extract st s.size).toList ((st : Int) == 0) = b at h3 hl
          have H3 := Lib.hid h3
          have HL := Lib.hid hl
          clear hb h3 hl he
          cases b
          · go_wp2_with (go_at_call 88; refine (HL.out _).mono ?_; rintro e w4 ⟨rfl, rfl⟩)
            go_ret
            exact ⟨by rw [HV.out, H3.out.2 (by first | rfl | trivial)]; rfl, rfl⟩
          · go_wp2_with (go_at_call 88; refine (HL.out _).mono ?_; rintro e w4 ⟨rfl, rfl⟩)
            go_round
            case rel => exact ⟨lb + 1, s.size + 1, s.size + 1, by omega, by omega, fun _ => Nat.le_refl _, by go_num, by go_num, by go_num, Lib.hid (H3.out.1 (by first | rfl | trivial) _)⟩
            case measure => simp [intOf] <;> omega
        · obtain rfl : i = s.size + 1 := by omega
          have h5 : labsOK true (splitF s.toList) = true ∧ (splitF s.toList).length = lb := by
            rcases HN.out with ⟨_, q, _⟩ | ⟨_, q⟩
            · rw [tl_len] at q; omega
            · exact q
          have H5 := Lib.hid h5
          clear h5
          go_wp2
          go_ret
          refine ⟨ret_bool ?_, rfl⟩
          rw [HV.out, H5.out.1, H5.out.2, Bool.true_and]
          rw [decide_eq_decide]
          omega
  · have HR : Hid (validB s.toList = false) := Lib.hid (by unfold validB; rw [hrt, tl_len]; simp [h60])
    clear hr
    go_enter Tryd.func70, Tryd.ntmps70
    go_wp2
    go_ret
    exact ⟨by rw [HR.out]; rfl, rfl⟩

theorem valid_any (s : ByteArray) (w : World) (hs : s.size ≤ maxLen) :
    Calls Tryd.prog 32 #[.string s] w fun e w' => e = .returned (.bool (validB s.toList)) ∧ w = w' := by
  have h := fun W => tvalid_any s W hs
  generalize validB s.toList = b at *
  have H := Lib.hid h
  clear h
  go_enter Tryd.func32, Tryd.ntmps32
  go_wp2_with (go_at_call 70; refine (H.out _).mono ?_; rintro e w4 ⟨rfl, rfl⟩)
  go_ret
  exact ⟨rfl, rfl⟩
end Go.Proofs.YtkhckgknldiheaaDoor
