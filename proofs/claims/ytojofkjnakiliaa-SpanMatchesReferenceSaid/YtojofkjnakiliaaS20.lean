/- The contracts of Normal, Union, Cross and Minus of the reference of package span; no condition beyond those that each theorem names. -/
import Derived.Test.YtojofkjnakiliaaS19
namespace Go.Proofs.Ytojofkjnakiliaa
open Go.RowKit Go.Shelf
open SpP

set_option maxHeartbeats 2000000 in
set_option maxRecDepth 100000 in
theorem rnormal_any {v : Value} {l : List Sp} {w : World} (h : SlS v l w) (hn : l.length ≤ 900) : Calls Try.prog 12 #[v] w (ResPost (normR l) w) := by
  obtain ⟨p, c, rfl⟩ := h.form
  have hll : l.length ≤ 20000 := by omega
  obtain ⟨r, hr⟩ : ∃ r, normR l = r := ⟨_, rfl⟩
  rw [hr]
  obtain ⟨R, hR⟩ : ∃ R, inB l = R := ⟨_, rfl⟩
  unfold normR at hr
  rw [hR] at hr
  have hr2 : (if R = true then (nrm l, 0) else ([], 1)) = r := by
    rw [← hr]
    by_cases q : R = true
    · rw [if_pos q, if_pos ⟨hll, q⟩]
    · rw [if_neg q, if_neg (fun z => q z.2)]
  obtain ⟨n, hln⟩ : ∃ n, l.length = n := ⟨_, rfl⟩
  rw [hln] at h hn ⊢
  have SA := Lib.hid h
  have HL := Lib.hid hln
  have HR := Lib.hid hR
  have Hr := Lib.hid hr2
  clear h hln hR hr hr2 hll
  go_enter Try.func12, Try.ntmps12
  go_wp2
  go_loopw [4] (fun s4 wr => ∃ i : Nat, i ≤ n ∧ s4 = .int .i64 i ∧ Hid (inB (l.drop i) = R) ∧ Hid (RowKit.Below w.heap.size w wr)) (fun s4 _ => n - (intOf s4).toNat)
  case atStart => exact ⟨0, Nat.zero_le _, rfl, HR, Lib.hid (RowKit.Below.refl _ _)⟩
  case round =>
    obtain ⟨i, hi, rfl, HS, HW⟩ := hrel
    by_cases h1 : i < n
    · have ia : i < l.length := by rw [HL.out]; exact h1
      have ga : l[i]? = some l[i] := List.getElem?_eq_getElem ia
      obtain ⟨b, off, rfl, hlt, hRS⟩ : ∃ b off, p = some ⟨b, off, none⟩ ∧ b < w.heap.size ∧ RS b off l w := SA.out.at_ (by omega)
      obtain ⟨a0, a1⟩ := (hRS.keep hlt HW.out).at_ ga
      have hS := HS.out
      rw [drop_of ga, inB_cons] at hS
      generalize l[i] = s at *
      obtain ⟨x, y⟩ := s
      simp only at a0 a1
      unfold inX at hS
      simp only at hS
      clear ga hRS HR
      have hi1 : (i : Int) < (n : Int) := by omega
      have hi0 : (0 : Int) ≤ (i : Int) := by omega
      have bad : (¬ (0 ≤ x ∧ x ≤ y ∧ y ≤ top)) → r = ([], 1) := fun q => by
        rw [← Hr.out, if_neg]
        rw [← hS]
        intro q2
        simp only [Bool.and_eq_true, decide_eq_true_eq] at q2
        exact q ⟨q2.1.1.1, q2.1.1.2, q2.1.2⟩
      by_cases q0 : x < 0
      · have d0 : decide (x < 0) = true := by simpa using q0
        obtain rfl := bad (by omega)
        clear hS bad Hr
        go_wp2
        go_quiet (fail)
        go_wp2
        go_ret2
        exact ⟨_, rfl, SlS.nil none 0 _, below_drewN HW.out _⟩
      · have d0 : decide (x < 0) = false := by simpa using q0
        by_cases q1 : y < x
        · have d1 : decide (y < x) = true := by simpa using q1
          obtain rfl := bad (by omega)
          clear hS bad Hr
          go_wp2
          go_quiet (fail)
          go_wp2
          go_ret2
          exact ⟨_, rfl, SlS.nil none 0 _, below_drewN HW.out _⟩
        · have d1 : decide (y < x) = false := by simpa using q1
          by_cases q2 : 20000000 < y
          · have d2 : decide (20000000 < y) = true := by simpa using q2
            obtain rfl := bad (by unfold top; omega)
            clear hS bad Hr
            go_wp2
            go_quiet (fail)
            go_wp2
            go_ret2
            exact ⟨_, rfl, SlS.nil none 0 _, below_drewN HW.out _⟩
          · have d2 : decide (20000000 < y) = false := by simpa using q2
            have hS2 : inB (l.drop (i + 1)) = R := by
              rw [← hS, show decide (0 ≤ x) = true by simpa using q0, show decide (x ≤ y) = true by simpa using q1, show decide (y ≤ top) = true by rw [decide_eq_true_eq]; unfold top; omega]
              rfl
            have HS2 := Lib.hid hS2
            clear hS bad hS2
            go_wp2
            go_quiet (fail)
            go_wp2
            go_roundw
            case rel => exact ⟨i + 1, by omega, by go_num, HS2, Lib.hid (below_drewN HW.out _)⟩
            case measure => simp [intOf]; omega
    · obtain rfl : i = n := by omega
      have hT : R = true := by
        have := HS.out
        rw [List.drop_eq_nil_of_le (by rw [HL.out]; exact Nat.le_refl _)] at this
        exact this.symm
      subst hT
      have hin := (inB_iff l).1 HR.out
      obtain rfl : r = (nrm l, 0) := by rw [← Hr.out, if_pos rfl]
      have hA := all_any (SA.out.keep HW.out) (by rw [HL.out]; omega)
      rw [all_eq hin] at hA
      have HA := Lib.hid hA
      have hi2 : ¬ (i : Int) < (i : Int) := by omega
      have hi3 : ¬ (20000 : Int) < (i : Int) := by omega
      clear hin hA SA HL HR Hr
      go_wp2_with (go_at_call 30; refine HA.out.mono ?_; rintro e w2 ⟨p2, c2, rfl, hs2, hb2⟩; have HS2 := Lib.hid hs2; have HB2 := Lib.hid hb2; clear hs2 hb2)
      go_ret2
      exact ⟨_, rfl, HS2.out, HW.out.trans (HB2.out.mono HW.out.size)⟩

set_option maxHeartbeats 2000000 in
set_option maxRecDepth 100000 in
theorem runion_any {va vb : Value} {a b : List Sp} {w : World} (ha : SlS va a w) (hb : SlS vb b w) (la : a.length ≤ 900) (lb : b.length ≤ 900) :
    Calls Try.prog 15 #[va, vb] w (ResPost (bothR cU a b) w) := by
  have HVA := Lib.hid (fun W (h : RowKit.Below w.heap.size w W) => rvalid_any (ha.keep h) (by unfold maxLen; omega))
  have HVB := Lib.hid (fun W (h : RowKit.Below w.heap.size w W) => rvalid_any (hb.keep h) (by unfold maxLen; omega))
  have SA := Lib.hid ha
  have SB := Lib.hid hb
  obtain ⟨pa, ca, rfl⟩ := ha.form
  obtain ⟨pb, cb, rfl⟩ := hb.form
  clear ha hb
  obtain ⟨r, hr⟩ : ∃ r, bothR cU a b = r := ⟨_, rfl⟩
  rw [hr]
  unfold bothR at hr
  cases qa : validB a
  · rw [qa, if_neg (by simp)] at hr
    subst hr
    rw [qa] at HVA
    clear qa SA SB HVB
    go_enter Try.func15, Try.ntmps15
    go_wp2_with (go_at_call 23; refine (HVA.out _ (RowKit.Below.refl _ _)).mono ?_; rintro e w1 ⟨rfl, hb1⟩; have HB1 := Lib.hid hb1; clear hb1)
    go_ret2
    exact ⟨_, rfl, SlS.nil none 0 _, HB1.out⟩
  · cases qb : validB b
    · rw [qb, if_neg (by simp)] at hr
      subst hr
      rw [qa] at HVA
      rw [qb] at HVB
      clear qa qb SA SB
      go_enter Try.func15, Try.ntmps15
      go_wp2_with (go_at_call 23; fail)
      refine (HVA.out _ (RowKit.Below.refl _ _)).mono ?_
      rintro e w1 ⟨rfl, hb1⟩
      have HB1 := Lib.hid hb1
      clear hb1
      go_wp2_with (go_at_call 23; fail)
      refine (HVB.out _ HB1.out).mono ?_
      rintro e w2 ⟨rfl, hb2⟩
      have HB2 := Lib.hid hb2
      clear hb2
      go_wp2
      go_ret2
      exact ⟨_, rfl, SlS.nil none 0 _, HB1.out.trans (HB2.out.mono HB1.out.size)⟩
    · have va := (validB_iff a).1 qa
      have vb := (validB_iff b).1 qb
      have VA := Lib.hid va.2
      have VB := Lib.hid vb.2
      rw [qa] at HVA
      rw [qb] at HVB
      rw [qa, qb, if_pos ⟨rfl, rfl⟩] at hr
      have HR := Lib.hid hr
      have hsl := swp_len (c := cU) rfl va.2.inR vb.2.inR
      have hsl2 : (swp cU a b).length ≤ 3600 := by omega
      have HSL := Lib.hid hsl2
      clear qa qb va vb hr hsl hsl2
      go_enter Try.func15, Try.ntmps15
      go_wp2_with (go_at_call 23; fail)
      refine (HVA.out _ (RowKit.Below.refl _ _)).mono ?_
      rintro e w1 ⟨rfl, hb1⟩
      have HB1 := Lib.hid hb1
      clear hb1
      go_wp2_with (go_at_call 23; fail)
      refine (HVB.out _ HB1.out).mono ?_
      rintro e w2 ⟨rfl, hb2⟩
      have HB2 := Lib.hid (HB1.out.trans (hb2.mono HB1.out.size))
      clear hb2
      have hc := either_any (SA.out.keep HB2.out) (SB.out.keep HB2.out) la lb
      rw [either_eq VA.out VB.out] at hc
      have HC := Lib.hid hc
      clear hc
      go_wp2_with (go_at_call 34; fail)
      refine HC.out.mono ?_
      rintro e w4 ⟨p4, c4, rfl, hs4, hb4⟩
      have HS4 := Lib.hid hs4
      have HB4 := Lib.hid (HB2.out.trans (hb4.mono HB2.out.size))
      clear hs4 hb4 HC
      go_wp2_with (go_at_call 33; fail)
      refine (limited_any HS4.out (by have := HSL.out; unfold maxLen; omega)).mono ?_
      rw [HR.out]
      rintro e w5 ⟨sl5, rfl, hs5, hb5⟩
      obtain ⟨p5, c5, rfl⟩ := hs5.form
      have HS5 := Lib.hid hs5
      have HB5 := Lib.hid (HB4.out.trans (hb5.mono HB4.out.size))
      clear hs5 hb5
      go_wp2
      go_ret2
      exact ⟨_, rfl, HS5.out, HB5.out⟩

set_option maxHeartbeats 2000000 in
set_option maxRecDepth 100000 in
theorem rcross_any {va vb : Value} {a b : List Sp} {w : World} (ha : SlS va a w) (hb : SlS vb b w) (la : a.length ≤ 900) (lb : b.length ≤ 900) :
    Calls Try.prog 17 #[va, vb] w (ResPost (bothR cX a b) w) := by
  have HVA := Lib.hid (fun W (h : RowKit.Below w.heap.size w W) => rvalid_any (ha.keep h) (by unfold maxLen; omega))
  have HVB := Lib.hid (fun W (h : RowKit.Below w.heap.size w W) => rvalid_any (hb.keep h) (by unfold maxLen; omega))
  have SA := Lib.hid ha
  have SB := Lib.hid hb
  obtain ⟨pa, ca, rfl⟩ := ha.form
  obtain ⟨pb, cb, rfl⟩ := hb.form
  clear ha hb
  obtain ⟨r, hr⟩ : ∃ r, bothR cX a b = r := ⟨_, rfl⟩
  rw [hr]
  unfold bothR at hr
  cases qa : validB a
  · rw [qa, if_neg (by simp)] at hr
    subst hr
    rw [qa] at HVA
    clear qa SA SB HVB
    go_enter Try.func17, Try.ntmps17
    go_wp2_with (go_at_call 23; refine (HVA.out _ (RowKit.Below.refl _ _)).mono ?_; rintro e w1 ⟨rfl, hb1⟩; have HB1 := Lib.hid hb1; clear hb1)
    go_ret2
    exact ⟨_, rfl, SlS.nil none 0 _, HB1.out⟩
  · cases qb : validB b
    · rw [qb, if_neg (by simp)] at hr
      subst hr
      rw [qa] at HVA
      rw [qb] at HVB
      clear qa qb SA SB
      go_enter Try.func17, Try.ntmps17
      go_wp2_with (go_at_call 23; fail)
      refine (HVA.out _ (RowKit.Below.refl _ _)).mono ?_
      rintro e w1 ⟨rfl, hb1⟩
      have HB1 := Lib.hid hb1
      clear hb1
      go_wp2_with (go_at_call 23; fail)
      refine (HVB.out _ HB1.out).mono ?_
      rintro e w2 ⟨rfl, hb2⟩
      have HB2 := Lib.hid hb2
      clear hb2
      go_wp2
      go_ret2
      exact ⟨_, rfl, SlS.nil none 0 _, HB1.out.trans (HB2.out.mono HB1.out.size)⟩
    · have va := (validB_iff a).1 qa
      have vb := (validB_iff b).1 qb
      have VA := Lib.hid va.2
      have VB := Lib.hid vb.2
      rw [qa] at HVA
      rw [qb] at HVB
      rw [qa, qb, if_pos ⟨rfl, rfl⟩] at hr
      have HR := Lib.hid hr
      have hsl := swp_len (c := cX) rfl va.2.inR vb.2.inR
      have hsl2 : (swp cX a b).length ≤ 3600 := by omega
      have HSL := Lib.hid hsl2
      clear qa qb va vb hr hsl hsl2
      go_enter Try.func17, Try.ntmps17
      go_wp2_with (go_at_call 23; fail)
      refine (HVA.out _ (RowKit.Below.refl _ _)).mono ?_
      rintro e w1 ⟨rfl, hb1⟩
      have HB1 := Lib.hid hb1
      clear hb1
      go_wp2_with (go_at_call 23; fail)
      refine (HVB.out _ HB1.out).mono ?_
      rintro e w2 ⟨rfl, hb2⟩
      have HB2 := Lib.hid (HB1.out.trans (hb2.mono HB1.out.size))
      clear hb2
      have hc := rboth_any (SA.out.keep HB2.out) (SB.out.keep HB2.out) (by omega) (by omega)
      rw [bothL_eq VA.out VB.out] at hc
      have HC := Lib.hid hc
      clear hc
      go_wp2_with (go_at_call 36; fail)
      refine HC.out.mono ?_
      rintro e w4 ⟨p4, c4, rfl, hs4, hb4⟩
      have HS4 := Lib.hid hs4
      have HB4 := Lib.hid (HB2.out.trans (hb4.mono HB2.out.size))
      clear hs4 hb4 HC
      go_wp2_with (go_at_call 33; fail)
      refine (limited_any HS4.out (by have := HSL.out; unfold maxLen; omega)).mono ?_
      rw [HR.out]
      rintro e w5 ⟨sl5, rfl, hs5, hb5⟩
      obtain ⟨p5, c5, rfl⟩ := hs5.form
      have HS5 := Lib.hid hs5
      have HB5 := Lib.hid (HB4.out.trans (hb5.mono HB4.out.size))
      clear hs5 hb5
      go_wp2
      go_ret2
      exact ⟨_, rfl, HS5.out, HB5.out⟩

set_option maxHeartbeats 2000000 in
set_option maxRecDepth 100000 in
theorem rminus_any {va vb : Value} {a b : List Sp} {w : World} (ha : SlS va a w) (hb : SlS vb b w) (la : a.length ≤ 900) (lb : b.length ≤ 900) :
    Calls Try.prog 19 #[va, vb] w (ResPost (bothR cM a b) w) := by
  have HVA := Lib.hid (fun W (h : RowKit.Below w.heap.size w W) => rvalid_any (ha.keep h) (by unfold maxLen; omega))
  have HVB := Lib.hid (fun W (h : RowKit.Below w.heap.size w W) => rvalid_any (hb.keep h) (by unfold maxLen; omega))
  have SA := Lib.hid ha
  have SB := Lib.hid hb
  obtain ⟨pa, ca, rfl⟩ := ha.form
  obtain ⟨pb, cb, rfl⟩ := hb.form
  clear ha hb
  obtain ⟨r, hr⟩ : ∃ r, bothR cM a b = r := ⟨_, rfl⟩
  rw [hr]
  unfold bothR at hr
  cases qa : validB a
  · rw [qa, if_neg (by simp)] at hr
    subst hr
    rw [qa] at HVA
    clear qa SA SB HVB
    go_enter Try.func19, Try.ntmps19
    go_wp2_with (go_at_call 23; refine (HVA.out _ (RowKit.Below.refl _ _)).mono ?_; rintro e w1 ⟨rfl, hb1⟩; have HB1 := Lib.hid hb1; clear hb1)
    go_ret2
    exact ⟨_, rfl, SlS.nil none 0 _, HB1.out⟩
  · cases qb : validB b
    · rw [qb, if_neg (by simp)] at hr
      subst hr
      rw [qa] at HVA
      rw [qb] at HVB
      clear qa qb SA SB
      go_enter Try.func19, Try.ntmps19
      go_wp2_with (go_at_call 23; fail)
      refine (HVA.out _ (RowKit.Below.refl _ _)).mono ?_
      rintro e w1 ⟨rfl, hb1⟩
      have HB1 := Lib.hid hb1
      clear hb1
      go_wp2_with (go_at_call 23; fail)
      refine (HVB.out _ HB1.out).mono ?_
      rintro e w2 ⟨rfl, hb2⟩
      have HB2 := Lib.hid hb2
      clear hb2
      go_wp2
      go_ret2
      exact ⟨_, rfl, SlS.nil none 0 _, HB1.out.trans (HB2.out.mono HB1.out.size)⟩
    · have va := (validB_iff a).1 qa
      have vb := (validB_iff b).1 qb
      have VA := Lib.hid va.2
      have VB := Lib.hid vb.2
      rw [qa] at HVA
      rw [qb] at HVB
      rw [qa, qb, if_pos ⟨rfl, rfl⟩] at hr
      have HR := Lib.hid hr
      have hsl := swp_len (c := cM) rfl va.2.inR vb.2.inR
      have hsl2 : (swp cM a b).length ≤ 3600 := by omega
      have HSL := Lib.hid hsl2
      clear qa qb va vb hr hsl hsl2
      go_enter Try.func19, Try.ntmps19
      go_wp2_with (go_at_call 23; fail)
      refine (HVA.out _ (RowKit.Below.refl _ _)).mono ?_
      rintro e w1 ⟨rfl, hb1⟩
      have HB1 := Lib.hid hb1
      clear hb1
      go_wp2_with (go_at_call 23; fail)
      refine (HVB.out _ HB1.out).mono ?_
      rintro e w2 ⟨rfl, hb2⟩
      have HB2 := Lib.hid (HB1.out.trans (hb2.mono HB1.out.size))
      clear hb2
      have hc := not_any (SB.out.keep HB2.out) (by omega)
      have HC := Lib.hid hc
      have hnl := (not_val VB.out).2
      clear hc
      go_wp2_with (go_at_call 38; fail)
      refine HC.out.mono ?_
      rintro e w3 ⟨p3, c3, rfl, hs3, hb3⟩
      have HS3 := Lib.hid hs3
      have HB3 := Lib.hid (HB2.out.trans (hb3.mono HB2.out.size))
      clear hs3 hb3 HC
      have hc := rboth_any (SA.out.keep HB3.out) HS3.out (by omega) (by omega)
      rw [minus_eq VA.out VB.out] at hc
      have HC := Lib.hid hc
      clear hc
      go_wp2_with (go_at_call 36; fail)
      refine HC.out.mono ?_
      rintro e w4 ⟨p4, c4, rfl, hs4, hb4⟩
      have HS4 := Lib.hid hs4
      have HB4 := Lib.hid (HB3.out.trans (hb4.mono HB3.out.size))
      clear hs4 hb4 HC
      go_wp2_with (go_at_call 33; fail)
      refine (limited_any HS4.out (by have := HSL.out; unfold maxLen; omega)).mono ?_
      rw [HR.out]
      rintro e w5 ⟨sl5, rfl, hs5, hb5⟩
      obtain ⟨p5, c5, rfl⟩ := hs5.form
      have HS5 := Lib.hid hs5
      have HB5 := Lib.hid (HB4.out.trans (hb5.mono HB4.out.size))
      clear hs5 hb5
      go_wp2
      go_ret2
      exact ⟨_, rfl, HS5.out, HB5.out⟩
end Go.Proofs.Ytojofkjnakiliaa
