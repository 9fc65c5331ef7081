/- Contracts of Compare and Common of package name, and of the statements' own compare; no condition beyond those that each theorem names. -/
import Derived.Test.YtllobkppehlgbaaN5
namespace Go.Proofs.Ytllobkppehlgbaa
open Go.RowKit
open NmP

theorem revL_len {s : ByteArray} (h : validB s.toList = true) : (revL s).length ≤ 8 := by
  have h1 := (valid_len h).1
  have h2 := congrArg List.length (revL_labels s)
  rw [List.length_map, List.length_reverse] at h2
  omega

theorem tcompare_all (s m : ByteArray) (w : World) (hs : s.size ≤ maxLen) (hm : m.size ≤ maxLen) (hvs : validB s.toList = true) (hvm : validB m.toList = true) :
    Calls Try.prog 57 #[.string s, .string m] w fun e w' => e = .returned (.int .i64 (cmpN s.toList m.toList)) ∧ Below w.heap.size w w' := by
  cases hne : (s.toList == m.toList)
  · exact tcompare_any s m w hs hm (revL_len hvs) (revL_len hvm) hne
  · have e : cmpN s.toList m.toList = 0 := by
      rw [cmpN_good.zero]; simpa using hne
    rw [e]
    clear e
    go_enter Try.func57, Try.ntmps57
    go_wp2
    refine bodyPost_ret (v := .int .i64 0) (by simp [results, Try.f57, go_sem]) rfl ⟨rfl, (Below.refl _ _).alloc (Nat.le_refl _) _⟩

set_option maxHeartbeats 400000 in
theorem Compare_any (s z : ByteArray) (w : World) (hs : s.size ≤ maxLen) (hz : z.size ≤ maxLen) (hvs : validB s.toList = true) (hvz : validB z.toList = true) :
    Calls Try.prog 35 #[.string s, .string z] w fun e w' => e = .returned (.tuple #[.int .i64 (cmpN s.toList z.toList), .int .i64 0]) ∧ Below w.heap.size w w' := by
  have h1 := fun W => valid_any s W hs
  have h2 := fun W => valid_any z W hz
  have h3 := fun W => tcompare_all s z W hs hz hvs hvz
  rw [hvs] at h1
  rw [hvz] at h2
  generalize cmpN s.toList z.toList = b at *
  have H1 := Lib.hid h1
  have H2 := Lib.hid h2
  have H3 := Lib.hid h3
  clear h1 h2 h3 hvs hvz
  go_enter Try.func35, Try.ntmps35
  go_wp2_with (first | (go_at_call 15; first | ((with_reducible refine (H1.out _).mono ?_); rintro e w4 ⟨rfl, rfl⟩) | ((with_reducible refine (H2.out _).mono ?_); rintro e w4 ⟨rfl, rfl⟩)) | (go_at_call 57; refine (H3.out _).mono ?_; rintro e w4 ⟨rfl, hb⟩))
  go_ret2
  exact ⟨rfl, hb⟩
theorem lcompare_any (s z : ByteArray) (w : World) (hs : s.size ≤ maxLen) (hz : z.size ≤ maxLen) (hvs : validB s.toList = true) (hvz : validB z.toList = true) :
    Calls Try.prog 19 #[.string s, .string z] w fun e w' => e = .returned (.int .i64 (cmpN s.toList z.toList)) ∧ Below w.heap.size w w' := by
  have h3 := fun W => Compare_any s z W hs hz hvs hvz
  generalize cmpN s.toList z.toList = b at *
  have H3 := Lib.hid h3
  clear h3 hvs hvz
  go_enter Try.func19, Try.ntmps19
  go_wp2_with (go_at_call 35; refine (H3.out _).mono ?_; rintro e w4 ⟨rfl, hb⟩)
  go_ret
  exact ⟨rfl, hb⟩

/-! names -/
set_option maxHeartbeats 400000 in
theorem names_any (L : List ByteArray) (b cap : Nat) (w : World) (hn : L.length ≤ 1000) (hL : ∀ x ∈ L, x.size ≤ maxLen) (hc : ∀ j, (hj : j < L.length) → w.cell? ⟨b, j, none⟩ = some (.string L[j])) :
    Calls Try.prog 18 #[.slice (some ⟨b, 0, none⟩) L.length cap] w fun e w' => e = .returned (.bool (L.all fun x => validB x.toList)) ∧ w = w' := by
  have HC := Lib.hid hc
  have HL := Lib.hid hL
  clear hc hL
  go_enter Try.func18, Try.ntmps18
  go_wp2
  go_loop [7] (fun s7 => ∃ k : Nat, k ≤ L.length ∧ s7 = .int .i64 k ∧ Hid (∀ j, (hj : j < L.length) → j < k → validB L[j].toList = true)) (fun s7 => L.length - (intOf s7).toNat)
  case atStart => exact ⟨0, by omega, rfl, Lib.hid (fun j _ h => absurd h (Nat.not_lt_zero _))⟩
  case round =>
    obtain ⟨k, hk, rfl, HA⟩ := hrel
    by_cases hlt : k < L.length
    · have hcell := HC.out k hlt
      have hv := fun W => valid_any L[k] W (HL.out _ (List.getElem_mem hlt))
      have HX : Hid (validB L[k].toList = validB L[k].toList) := Lib.hid rfl
      generalize hx : L[k] = x at *
      have HXX := Lib.hid hx
      clear hx HX
      cases hvb : validB x.toList <;> rw [hvb] at hv
      · have HV := Lib.hid hv
        have HB := Lib.hid hvb
        clear hv hvb
        go_wp2_with (go_at_call 15; refine (HV.out _).mono ?_; rintro e w4 ⟨rfl, rfl⟩)
        go_ret
        refine ⟨ret_bool ?_, rfl⟩
        rw [eq_comm, List.all_eq_false]
        exact ⟨L[k], List.getElem_mem hlt, by rw [HXX.out, HB.out]; simp⟩
      · have HV := Lib.hid hv
        have HB := Lib.hid hvb
        clear hv hvb
        go_wp2_with (go_at_call 15; refine (HV.out _).mono ?_; rintro e w4 ⟨rfl, rfl⟩)
        go_round
        case rel => exact ⟨k + 1, by omega, by go_num, Lib.hid (fun j hj h => by
          rcases Nat.lt_or_ge j k with q | q
          · exact HA.out j hj q
          · obtain rfl : j = k := by omega
            rw [HXX.out]; exact HB.out)⟩
        case measure => simp [intOf] <;> omega
    · obtain rfl : k = L.length := by omega
      go_wp2
      go_ret
      refine ⟨ret_bool ?_, rfl⟩
      rw [eq_comm, List.all_eq_true]
      intro x hx
      obtain ⟨j, hj, rfl⟩ := List.mem_iff_getElem.1 hx
      exact HA.out j hj hj

/-! Common -/
theorem labelB_mono {l : Bs} (h : labelB l false = true) (f : Bool) : labelB l f = true := by
  simp only [labelB, Bool.false_and, Bool.false_or] at h
  simp only [labelB, h, Bool.or_true]
theorem labsOK_mono : ∀ {r : List Bs} (f : Bool), labsOK false r = true → labsOK f r = true
  | [], _, _ => rfl
  | x :: r, f, h => by
    simp only [labsOK, Bool.and_eq_true] at h ⊢
    exact ⟨labelB_mono h.1 f, h.2⟩
theorem valid_parent {l : Bs} (h : validB l = true) (hr : l ≠ [46]) : validB (parentL l) = true ∧ labs (parentL l) = (labs l).tail := by
  have ok := valid_ok h
  obtain ⟨p1, p2, p3⟩ := parent_cases ok hr
  refine ⟨?_, p1⟩
  by_cases hp : parentL l = [46]
  · rw [hp]; rfl
  · have hl := valid_len h
    simp only [validB, Bool.or_eq_true, Bool.and_eq_true, beq_iff_eq, decide_eq_true_eq] at h ⊢
    rcases h with h | h
    · exact absurd h hr
    · right
      rw [labs_of hp, labs_of hr] at p1
      have hne : 1 ≤ (parentL l).length := by
        cases hq : parentL l with
        | nil =>
          rcases p2 with q | q
          · exact absurd q hp
          · rw [hq] at q; exact absurd rfl (q [] (by simp [splitF]))
        | cons => simp
      have hok : labsOK false (splitF l).tail = true := by
        cases hs : splitF l with
        | nil => rfl
        | cons x r =>
          have := h.1.2
          rw [hs] at this
          simp only [labsOK, Bool.and_eq_true] at this
          exact this.2
      have hlen : (splitF (parentL l)).length ≤ 8 := by
        rw [p1, List.length_tail]; omega
      exact ⟨⟨⟨hne, by omega⟩, by rw [p1]; exact labsOK_mono _ hok⟩, hlen⟩

def comS : Nat → ByteArray → ByteArray → ByteArray
  | 0, x, _ => x
  | k + 1, x, m => if underB m.toList x.toList = true then x else comS k (parentS x) m
theorem comS_spec (m : ByteArray) (hm : validB m.toList = true) : ∀ (k : Nat) (x : ByteArray), validB x.toList = true → (labs x.toList).length < k →
    validB (comS k x m).toList = true ∧ labs (comS k x m).toList <:+ labs x.toList ∧ labs (comS k x m).toList <:+ labs m.toList ∧
      ∀ z : Bs, labs z <:+ labs x.toList → labs z <:+ labs m.toList → labs z <:+ labs (comS k x m).toList
  | 0, x, _, h => by omega
  | k + 1, x, hx, h => by
    unfold comS
    by_cases hu : underB m.toList x.toList = true
    · rw [if_pos hu]
      exact ⟨hx, List.suffix_refl _, (under_iff (valid_ok hm)).1 hu, fun z h1 _ => h1⟩
    · rw [if_neg hu]
      have hr : x.toList ≠ [46] := fun q => hu (by rw [q]; simp [underB])
      obtain ⟨v1, v2⟩ := valid_parent hx hr
      rw [← parentS_toList] at v1 v2
      have hne : labs x.toList ≠ [] := by rw [labs_of hr]; exact splitF_ne _
      have hlt : (labs (parentS x).toList).length < k := by
        rw [v2, List.length_tail]
        have : 0 < (labs x.toList).length := List.length_pos_iff.2 hne
        omega
      obtain ⟨s1, s2, s3, s4⟩ := comS_spec m hm k (parentS x) v1 hlt
      have ht : labs (parentS x).toList <:+ labs x.toList := by rw [v2]; exact List.tail_suffix _
      refine ⟨s1, s2.trans ht, s3, fun z h1 h2 => s4 z ?_ h2⟩
      rw [v2]
      obtain ⟨q, hq⟩ := h1
      cases q with
      | nil =>
        exfalso
        have e : labs z = labs x.toList := hq
        rw [e] at h2
        exact hu ((under_iff (valid_ok hm)).2 h2)
      | cons a q => exact ⟨q, by rw [← hq]; rfl⟩

theorem small {s : ByteArray} (h : validB s.toList = true) : s.size ≤ 60 := by
  have := (valid_len h).2.2; rwa [tl_len] at this

set_option maxHeartbeats 1000000 in
theorem Common_any (s m : ByteArray) (w : World) (hs : s.size ≤ maxLen) (hm : m.size ≤ maxLen) (hvs : validB s.toList = true) (hvm : validB m.toList = true) :
    Calls Try.prog 22 #[.string s, .string m] w fun e w' => e = .returned (.tuple #[.string (comS 9 s m), .int .i64 0]) ∧ w = w' := by
  have h1 := fun W => valid_any s W hs
  have h2 := fun W => valid_any m W hm
  rw [hvs] at h1
  rw [hvm] at h2
  have H1 := Lib.hid h1
  have H2 := Lib.hid h2
  have HVS := Lib.hid hvs
  have HVM := Lib.hid hvm
  have hmx : (60 : Nat) ≤ maxLen := by unfold maxLen; omega
  clear h1 h2 hvs hvm
  go_enter Try.func22, Try.ntmps22
  go_wp2_with (go_at_call 15; first | ((with_reducible refine (H1.out _).mono ?_); rintro e w4 ⟨rfl, rfl⟩) | ((with_reducible refine (H2.out _).mono ?_); rintro e w4 ⟨rfl, rfl⟩))
  go_loop [6] (fun s6 => ∃ (x : ByteArray) (k : Nat), s6 = .string x ∧ Hid (validB x.toList = true) ∧ Hid ((labs x.toList).length < k) ∧ Hid (comS k x m = comS 9 s m) ∧ k ≤ 9) (fun s6 => match s6 with | .string x => (labs x.toList).length | _ => 0)
  case atStart => exact ⟨s, 9, rfl, HVS, Lib.hid (by have := (valid_len HVS.out).1; omega), Lib.hid rfl, Nat.le_refl _⟩
  case round =>
    obtain ⟨x, k, rfl, HX, HK, HE, hk9⟩ := hrel
    have hu := fun W => under_any m x W hm (by have := small HX.out; omega)
    have hp := fun W => tparent_any x W (by have := small HX.out; omega)
    cases k with
    | zero => have := HK.out; omega
    | succ k =>
      have he := HE.out
      rw [show comS (k + 1) x m = if underB m.toList x.toList = true then x else comS k (parentS x) m from rfl] at he
      by_cases hb : underB m.toList x.toList = true
      · rw [if_pos hb] at he
        simp only [hb] at hu
        have HU := Lib.hid hu
        have HEE := Lib.hid he
        clear hu hp he hb
        go_wp2_with (go_at_call 41; refine (HU.out _).mono ?_; rintro e w4 ⟨rfl, rfl⟩)
        go_ret2
        exact ⟨by rw [← HEE.out]; rfl, rfl⟩
      · rw [if_neg hb] at he
        have hr : x.toList ≠ [46] := fun q => hb (by rw [q]; simp [underB])
        obtain ⟨v1, v2⟩ := valid_parent HX.out hr
        rw [← parentS_toList] at v1 v2
        have hne : 0 < (labs x.toList).length := List.length_pos_iff.2 (by rw [labs_of hr]; exact splitF_ne _)
        have hll : (labs (parentS x).toList).length + 1 = (labs x.toList).length := by rw [v2, List.length_tail]; omega
        have hbf : underB m.toList x.toList = false := by simpa using hb
        simp only [hbf] at hu
        have HU := Lib.hid hu
        have HP := Lib.hid hp
        have HEE := Lib.hid he
        have HLL := Lib.hid hll
        have HV1 := Lib.hid v1
        clear hu hp he hb hr v1 v2 hne hll hbf
        go_wp2_with (first | (go_at_call 41; refine (HU.out _).mono ?_; rintro e w4 ⟨rfl, rfl⟩) | (go_at_call 40; refine (HP.out _).mono ?_; rintro e w4 ⟨rfl, rfl⟩))
        go_round
        case rel => exact ⟨parentS x, k, rfl, HV1, Lib.hid (by have := HK.out; have := HLL.out; omega), HEE, by omega⟩
        case measure => have := HLL.out; simp; omega
end Go.Proofs.Ytllobkppehlgbaa
