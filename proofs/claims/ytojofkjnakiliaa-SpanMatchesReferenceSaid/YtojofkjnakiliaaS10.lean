/- The contracts of Union, Cross, Minus and Grow of package span; no condition beyond those that each theorem names. -/
import Derived.Test.YtojofkjnakiliaaS9
namespace Go.Proofs.Ytojofkjnakiliaa
open Go.RowKit Go.Shelf
open SpP

def bothR (c : Int → Int → Bool) (a b : List Sp) : List Sp × Nat := if validB a = true ∧ validB b = true then (if (swp c a b).length ≤ 20000 then (swp c a b, 0) else ([], 2)) else ([], 1)

set_option maxHeartbeats 2000000 in
set_option maxRecDepth 100000 in
theorem both_any {c : Int → Int → Bool} (h0 : c 0 0 = false) {cf : Nat} (hC : Cnt cf c) {va vb : Value} {a b : List Sp} {w : World} (ha : SlS va a w) (hb : SlS vb b w) (la : a.length ≤ maxLen) (lb : b.length ≤ maxLen) :
    Calls Try.prog 31 #[va, vb, .func (.func cf) #[] #[]] w (ResPost (bothR c a b) w) := by
  have HVA := Lib.hid (fun W (h : RowKit.Below w.heap.size w W) => valid_any (ha.keep h) la)
  have HVB := Lib.hid (fun W (h : RowKit.Below w.heap.size w W) => valid_any (hb.keep h) lb)
  have SA := Lib.hid ha
  have SB := Lib.hid hb
  obtain ⟨pa, ca, rfl⟩ := ha.form
  obtain ⟨pb, cb, rfl⟩ := hb.form
  clear ha hb
  obtain ⟨r, hr⟩ : ∃ r, bothR c a b = r := ⟨_, rfl⟩
  rw [hr]
  unfold bothR at hr
  cases qa : validB a
  · rw [qa, if_neg (by simp)] at hr
    subst hr
    rw [qa] at HVA
    clear qa SA SB HVB
    go_enter Try.func31, Try.ntmps31
    go_wp2_with (go_at_call 22; refine (HVA.out _ (RowKit.Below.refl _ _)).mono ?_; rintro e w1 ⟨rfl, hb1⟩; have HB1 := Lib.hid hb1; clear hb1)
    go_ret2
    exact ⟨_, rfl, SlS.nil none 0 _, HB1.out⟩
  · cases qb : validB b
    · rw [qb, if_neg (by simp)] at hr
      subst hr
      rw [qa] at HVA
      rw [qb] at HVB
      clear qa qb SA SB
      go_enter Try.func31, Try.ntmps31
      go_wp2_with (go_at_call 22; fail)
      refine (HVA.out _ (RowKit.Below.refl _ _)).mono ?_
      rintro e w1 ⟨rfl, hb1⟩
      have HB1 := Lib.hid hb1
      clear hb1
      go_wp2_with (go_at_call 22; fail)
      refine (HVB.out _ HB1.out).mono ?_
      rintro e w2 ⟨rfl, hb2⟩
      have HB2 := Lib.hid hb2
      clear hb2
      go_wp2
      go_ret2
      exact ⟨_, rfl, SlS.nil none 0 _, HB1.out.trans (HB2.out.mono HB1.out.size)⟩
    · have va := (validB_iff a).1 qa
      have vb := (validB_iff b).1 qb
      have HIA := Lib.hid va.2.inR
      have HIB := Lib.hid vb.2.inR
      have LA := Lib.hid va.1
      have LB := Lib.hid vb.1
      rw [qa] at HVA
      rw [qb] at HVB
      rw [qa, qb, if_pos ⟨rfl, rfl⟩] at hr
      have HEN := Lib.hid (fun W (h : RowKit.Below w.heap.size w W) => ends_any (SA.out.keep h) (SB.out.keep h) va.1 vb.1)
      have hsl := swp_len (c := c) h0 va.2.inR vb.2.inR
      have hsl2 : (swp c a b).length ≤ 80000 := by omega
      have HR := Lib.hid hr
      clear qa qb va vb hr hsl
      go_enter Try.func31, Try.ntmps31
      go_wp2_with (go_at_call 22; fail)
      refine (HVA.out _ (RowKit.Below.refl _ _)).mono ?_
      rintro e w1 ⟨rfl, hb1⟩
      have HB1 := Lib.hid hb1
      clear hb1
      go_wp2_with (go_at_call 22; fail)
      refine (HVB.out _ HB1.out).mono ?_
      rintro e w2 ⟨rfl, hb2⟩
      have HB2 := Lib.hid (HB1.out.trans (hb2.mono HB1.out.size))
      clear hb2
      go_wp2_with (go_at_call 28; fail)
      refine (HEN.out _ HB2.out).mono ?_
      rintro e w3 ⟨B, d, rfl, hp, hs, hE, hb3⟩
      have HSW := Lib.hid (sweep_sl h0 hC hp hs hE HIA.out HIB.out LA.out LB.out)
      have HB3 := Lib.hid (HB2.out.trans (hb3.mono HB2.out.size))
      clear hp hs hE hb3
      go_wp2_with (go_at_call 27; fail)
      refine HSW.out.mono ?_
      rintro e w4 ⟨p4, c4, rfl, hs4, hb4⟩
      have HS4 := Lib.hid hs4
      have HB4 := Lib.hid (HB3.out.trans (hb4.mono HB3.out.size))
      clear hs4 hb4
      by_cases hl : (swp c a b).length ≤ 20000
      · obtain rfl : r = (swp c a b, 0) := by rw [← HR.out, if_pos hl]
        clear HR HSW HEN hC h0
        generalize swp c a b = s at *
        have hl2 : ¬ (20000 : Int) < (s.length : Int) := by omega
        go_wp2
        go_ret2
        exact ⟨_, rfl, HS4.out, HB4.out⟩
      · obtain rfl : r = ([], 2) := by rw [← HR.out, if_neg hl]
        clear HR HSW HEN hC h0
        generalize swp c a b = s at *
        have hl2 : (20000 : Int) < (s.length : Int) := by omega
        go_wp2
        go_ret2
        exact ⟨_, rfl, SlS.nil none 0 _, HB4.out⟩

theorem union_any {va vb : Value} {a b : List Sp} {w : World} (ha : SlS va a w) (hb : SlS vb b w) (la : a.length ≤ maxLen) (lb : b.length ≤ maxLen) : Calls Try.prog 14 #[va, vb] w (ResPost (bothR cU a b) w) := by
  have H := Lib.hid (both_any (c := cU) rfl cnt_U ha hb la lb)
  obtain ⟨pa, ca, rfl⟩ := ha.form
  obtain ⟨pb, cb, rfl⟩ := hb.form
  generalize bothR cU a b = r at *
  clear ha hb
  go_enter Try.func14, Try.ntmps14
  go_wp2_with (go_at_call 31; refine H.out.mono ?_; rintro e w1 ⟨sl, rfl, hs, hb1⟩; obtain ⟨p1, c1, rfl⟩ := hs.form; have HS := Lib.hid hs; have HB := Lib.hid hb1; clear hs hb1)
  go_ret2
  exact ⟨_, rfl, HS.out, HB.out⟩
theorem cross_any {va vb : Value} {a b : List Sp} {w : World} (ha : SlS va a w) (hb : SlS vb b w) (la : a.length ≤ maxLen) (lb : b.length ≤ maxLen) : Calls Try.prog 16 #[va, vb] w (ResPost (bothR cX a b) w) := by
  have H := Lib.hid (both_any (c := cX) rfl cnt_X ha hb la lb)
  obtain ⟨pa, ca, rfl⟩ := ha.form
  obtain ⟨pb, cb, rfl⟩ := hb.form
  generalize bothR cX a b = r at *
  clear ha hb
  go_enter Try.func16, Try.ntmps16
  go_wp2_with (go_at_call 31; refine H.out.mono ?_; rintro e w1 ⟨sl, rfl, hs, hb1⟩; obtain ⟨p1, c1, rfl⟩ := hs.form; have HS := Lib.hid hs; have HB := Lib.hid hb1; clear hs hb1)
  go_ret2
  exact ⟨_, rfl, HS.out, HB.out⟩
theorem minus_any {va vb : Value} {a b : List Sp} {w : World} (ha : SlS va a w) (hb : SlS vb b w) (la : a.length ≤ maxLen) (lb : b.length ≤ maxLen) : Calls Try.prog 18 #[va, vb] w (ResPost (bothR cM a b) w) := by
  have H := Lib.hid (both_any (c := cM) rfl cnt_M ha hb la lb)
  obtain ⟨pa, ca, rfl⟩ := ha.form
  obtain ⟨pb, cb, rfl⟩ := hb.form
  generalize bothR cM a b = r at *
  clear ha hb
  go_enter Try.func18, Try.ntmps18
  go_wp2_with (go_at_call 31; refine H.out.mono ?_; rintro e w1 ⟨sl, rfl, hs, hb1⟩; obtain ⟨p1, c1, rfl⟩ := hs.form; have HS := Lib.hid hs; have HB := Lib.hid hb1; clear hs hb1)
  go_ret2
  exact ⟨_, rfl, HS.out, HB.out⟩

theorem within_any (x a b : Int) (w : World) : Calls Try.prog 39 #[.int .i64 x, .int .i64 a, .int .i64 b] w fun e w' => e = .returned (.bool (decide (a ≤ x) && decide (x ≤ b))) ∧ w = w' := by
  by_cases q0 : a ≤ x
  · have d0 : decide (a ≤ x) = true := by simpa using q0
    rw [d0, Bool.true_and]
    go_enter Try.func39, Try.ntmps39
    go_wp2
    go_ret
    exact ⟨rfl, rfl⟩
  · have d0 : decide (a ≤ x) = false := by simpa using q0
    rw [d0, Bool.false_and]
    go_enter Try.func39, Try.ntmps39
    go_wp2
    go_ret
    exact ⟨rfl, rfl⟩
end Go.Proofs.Ytojofkjnakiliaa
