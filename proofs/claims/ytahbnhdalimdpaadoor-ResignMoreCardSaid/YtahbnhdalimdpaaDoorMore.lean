/- ResignMore of layer 25 is true for all numbers, and leaves its arguments as they were; the card: the table of the rules starts as the program's text lays it (the row's own condition); no other condition. -/
import Derived.Test.YtahbnhdalimdpaaDoorRH
namespace Go.Proofs.YtahbnhdalimdpaaDoor
set_option linter.unusedSimpArgs false
set_option linter.unusedVariables false
open Go.RowKit Go.Shelf
open SpP
namespace More

set_option maxHeartbeats 2000000 in
set_option maxRecDepth 100000 in
theorem walk_bad (b e n d f m s : Int) (w : World) (hr : RuleAt w) (h : (TR b e n d f).2 ≠ 0) :
    Calls Tryd.prog 3 #[.int .i64 b, .int .i64 e, .int .i64 n, .int .i64 d, .int .i64 f, .int .u16 m, .int .u16 s] w fun e' w' => e' = .returned (.bool true) ∧ RowKit.Below w.heap.size w w' := by
  have hl := TR_err h
  have T := Lib.hid (fun W => times_any b e n d f W)
  generalize TR b e n d f = r at *
  obtain ⟨l, k⟩ := r
  simp only at h hl
  subst hl
  have z : ((k : Int) == 0) = false := beq_eq_false_iff_ne.2 (by omega)
  have z2 : ((k : Int) != 0) = true := by simp only [bne, z]; rfl
  have HH := Lib.hid (head_any w hr)
  clear h hr
  go_enter Tryd.func3, Tryd.ntmps3
  go_wp2_with fail
  refine HH.out.mono ?_
  rintro e1 w1 ⟨rfl, hb⟩
  have HB1 := Lib.hid hb
  clear hb
  go_wp2_with fail
  refine (T.out _).mono ?_
  rintro e2 w2 ⟨sl, rfl, hs, hb⟩
  obtain ⟨p, c, rfl⟩ := hs.form
  have HB2 := Lib.hid (HB1.out.trans (hb.mono HB1.out.size))
  clear hs hb
  go_wp2
  go_ret
  exact ⟨rfl, HB2.out⟩

set_option maxHeartbeats 4000000 in
set_option maxRecDepth 100000 in
theorem walk_lo (b e n d f m s : Int) (w : World) (hr : RuleAt w) (hi : Inb b e n d f) (m0 : 0 ≤ m) (m1 : m ≤ 65535) (s0 : 0 ≤ s) (s1 : s ≤ 65535) (hm : n + m < 10000000) (l la lb lc : List Int)
    (h0 : TR b e n d f = (l, 0)) (ha : TR b e (n + m) d f = (la, 0)) (hb : TR b e n d (s % (f + 1)) = (lb, 0)) (hc : TR b e n (s % (d + 1)) f = (lc, 0))
    (fa : la[0]? = some b) (fb : lb[0]? = some b) (fc : lc[0]? = some b) (nl na nb nc : Nat) (hl : l.length = nl) (hla : la.length = na) (hlb : lb.length = nb) (hlc : lc.length = nc) (ga : na ≤ nl) (gb : nb ≤ nl) (gc : nc ≤ nl) (gl : (nl : Int) ≤ e - b) (gl4 : nl ≤ 400) (pa : 0 < na) (pb : 0 < nb) (pc : 0 < nc) :
    Calls Tryd.prog 3 #[.int .i64 b, .int .i64 e, .int .i64 n, .int .i64 d, .int .i64 f, .int .u16 m, .int .u16 s] w fun e' w' => e' = .returned (.bool true) ∧ RowKit.Below w.heap.size w w' := by
  obtain ⟨⟨d0, d1⟩, ⟨b0, b1⟩, ⟨e0, e1⟩, ⟨n0, n1⟩, ⟨f0, f1⟩, hbe⟩ := hi
  have T := Lib.hid (fun W => times_any b e n d f W)
  rw [h0] at T
  have TA := Lib.hid (fun W => times_any b e (n + m) d f W)
  rw [ha] at TA
  have TB := Lib.hid (fun W => times_any b e n d (s % (f + 1)) W)
  rw [hb] at TB
  have TC := Lib.hid (fun W => times_any b e n (s % (d + 1)) f W)
  rw [hc] at TC
  have HH := Lib.hid (head_any w hr)
  have FA := Lib.hid fa
  have FB := Lib.hid fb
  have FC := Lib.hid fc
  have LL := Lib.hid hl
  have LA := Lib.hid hla
  have LB := Lib.hid hlb
  have LC := Lib.hid hlc
  clear hr h0 ha hb hc fa fb fc hl hla hlb hlc
  have w1 : IntKind.i64.wrap (n + m) = n + m := IntWalk.i64_in _ (by omega)
  have w2 : IntKind.i64.wrap (f + 1) = f + 1 := IntWalk.i64_in _ (by omega)
  have w3 : IntKind.i64.wrap (d + 1) = d + 1 := IntWalk.i64_in _ (by omega)
  have w4 : IntKind.i64.wrap (e - b) = e - b := IntWalk.i64_in _ (by omega)
  have z1 : ¬ (n : Int) < 0 := by omega
  have ia : (na : Int) ≤ (nl : Int) := by omega
  have ib : (nb : Int) ≤ (nl : Int) := by omega
  have ic : (nc : Int) ≤ (nl : Int) := by omega
  have za : ((na : Int) == 0) = false := beq_eq_false_iff_ne.2 (by omega)
  have zb : ((nb : Int) == 0) = false := beq_eq_false_iff_ne.2 (by omega)
  have zc : ((nc : Int) == 0) = false := beq_eq_false_iff_ne.2 (by omega)
  have pa' : (0 : Int) < (na : Int) := by omega
  have pb' : (0 : Int) < (nb : Int) := by omega
  have pc' : (0 : Int) < (nc : Int) := by omega
  go_enter Tryd.func3, Tryd.ntmps3
  go_wp2_with fail
  refine HH.out.mono ?_
  rintro e1' w1' ⟨rfl, hb1⟩
  have HB1 := Lib.hid hb1
  clear hb1
  go_wp2_with fail
  refine (T.out _).mono ?_
  rintro e2 w2' ⟨sl, rfl, hs, hb2⟩
  obtain ⟨p, c, rfl⟩ := hs.form
  have HB2 := Lib.hid (HB1.out.trans (hb2.mono HB1.out.size))
  clear hs hb2
  rw [LL.out]
  go_wp2_with fail
  refine (TA.out _).mono ?_
  rintro e3 w3' ⟨sla, rfl, hsa, hb3⟩
  obtain ⟨qa, ca, rfl⟩ := hsa.form
  have HB3 := Lib.hid (HB2.out.trans (hb3.mono HB2.out.size))
  have SA3 := Lib.hid hsa
  clear hsa hb3
  rw [LA.out] at SA3 ⊢
  go_wp2_with fail
  refine (TB.out _).mono ?_
  rintro e4 w4' ⟨slb, rfl, hsb, hb4⟩
  obtain ⟨qb, cb, rfl⟩ := hsb.form
  have HB4 := Lib.hid (HB3.out.trans (hb4.mono HB3.out.size))
  have SA4 := Lib.hid (SA3.out.keep hb4)
  have SB4 := Lib.hid hsb
  clear hsb hb4 SA3
  rw [LB.out] at SB4 ⊢
  go_wp2_with fail
  refine (TC.out _).mono ?_
  rintro e5 w5' ⟨slc, rfl, hsc, hb5⟩
  obtain ⟨qc, cc, rfl⟩ := hsc.form
  have HB5 := Lib.hid (HB4.out.trans (hb5.mono HB4.out.size))
  have SA5 := SA4.out.keep hb5
  have SB5 := SB4.out.keep hb5
  rw [LC.out] at hsc ⊢
  obtain ⟨xa, oa, rfl, _, ra⟩ := SA5.at_ (by rw [LA.out]; exact pa)
  obtain ⟨xb, ob, rfl, _, rb⟩ := SB5.at_ (by rw [LB.out]; exact pb)
  obtain ⟨xc, oc, rfl, _, rc⟩ := hsc.at_ (by rw [LC.out]; exact pc)
  have k1 : w5'.cell? ⟨xa, oa, none⟩ = some (.int .i64 b) := ra 0 b FA.out
  have k2 : w5'.cell? ⟨xb, ob, none⟩ = some (.int .i64 b) := rb 0 b FB.out
  have k3 : w5'.cell? ⟨xc, oc, none⟩ = some (.int .i64 b) := rc 0 b FC.out
  clear hsc hb5 SA4 SB4 SA5 SB5 ra rb rc
  go_wp2
  go_ret
  exact ⟨rfl, HB5.out⟩
set_option maxHeartbeats 4000000 in
set_option maxRecDepth 100000 in
theorem walk_hi (b e n d f m s : Int) (w : World) (hr : RuleAt w) (hi : Inb b e n d f) (m0 : 0 ≤ m) (m1 : m ≤ 65535) (s0 : 0 ≤ s) (s1 : s ≤ 65535) (hm : 10000000 ≤ n + m) (l la lb lc : List Int)
    (h0 : TR b e n d f = (l, 0)) (ha : TR b e 10000000 d f = (la, 0)) (hb : TR b e n d (s % (f + 1)) = (lb, 0)) (hc : TR b e n (s % (d + 1)) f = (lc, 0))
    (fa : la[0]? = some b) (fb : lb[0]? = some b) (fc : lc[0]? = some b) (nl na nb nc : Nat) (hl : l.length = nl) (hla : la.length = na) (hlb : lb.length = nb) (hlc : lc.length = nc) (ga : na ≤ nl) (gb : nb ≤ nl) (gc : nc ≤ nl) (gl : (nl : Int) ≤ e - b) (gl4 : nl ≤ 400) (pa : 0 < na) (pb : 0 < nb) (pc : 0 < nc) :
    Calls Tryd.prog 3 #[.int .i64 b, .int .i64 e, .int .i64 n, .int .i64 d, .int .i64 f, .int .u16 m, .int .u16 s] w fun e' w' => e' = .returned (.bool true) ∧ RowKit.Below w.heap.size w w' := by
  obtain ⟨⟨d0, d1⟩, ⟨b0, b1⟩, ⟨e0, e1⟩, ⟨n0, n1⟩, ⟨f0, f1⟩, hbe⟩ := hi
  have T := Lib.hid (fun W => times_any b e n d f W)
  rw [h0] at T
  have TA := Lib.hid (fun W => times_any b e 10000000 d f W)
  rw [ha] at TA
  have TB := Lib.hid (fun W => times_any b e n d (s % (f + 1)) W)
  rw [hb] at TB
  have TC := Lib.hid (fun W => times_any b e n (s % (d + 1)) f W)
  rw [hc] at TC
  have HH := Lib.hid (head_any w hr)
  have FA := Lib.hid fa
  have FB := Lib.hid fb
  have FC := Lib.hid fc
  have LL := Lib.hid hl
  have LA := Lib.hid hla
  have LB := Lib.hid hlb
  have LC := Lib.hid hlc
  clear hr h0 ha hb hc fa fb fc hl hla hlb hlc
  have w1 : IntKind.i64.wrap (n + m) = n + m := IntWalk.i64_in _ (by omega)
  have w2 : IntKind.i64.wrap (f + 1) = f + 1 := IntWalk.i64_in _ (by omega)
  have w3 : IntKind.i64.wrap (d + 1) = d + 1 := IntWalk.i64_in _ (by omega)
  have w4 : IntKind.i64.wrap (e - b) = e - b := IntWalk.i64_in _ (by omega)
  have z1 : ¬ (n : Int) < 0 := by omega
  have ia : (na : Int) ≤ (nl : Int) := by omega
  have ib : (nb : Int) ≤ (nl : Int) := by omega
  have ic : (nc : Int) ≤ (nl : Int) := by omega
  have za : ((na : Int) == 0) = false := beq_eq_false_iff_ne.2 (by omega)
  have zb : ((nb : Int) == 0) = false := beq_eq_false_iff_ne.2 (by omega)
  have zc : ((nc : Int) == 0) = false := beq_eq_false_iff_ne.2 (by omega)
  have pa' : (0 : Int) < (na : Int) := by omega
  have pb' : (0 : Int) < (nb : Int) := by omega
  have pc' : (0 : Int) < (nc : Int) := by omega
  go_enter Tryd.func3, Tryd.ntmps3
  go_wp2_with fail
  refine HH.out.mono ?_
  rintro e1' w1' ⟨rfl, hb1⟩
  have HB1 := Lib.hid hb1
  clear hb1
  go_wp2_with fail
  refine (T.out _).mono ?_
  rintro e2 w2' ⟨sl, rfl, hs, hb2⟩
  obtain ⟨p, c, rfl⟩ := hs.form
  have HB2 := Lib.hid (HB1.out.trans (hb2.mono HB1.out.size))
  clear hs hb2
  rw [LL.out]
  go_wp2_with fail
  refine (TA.out _).mono ?_
  rintro e3 w3' ⟨sla, rfl, hsa, hb3⟩
  obtain ⟨qa, ca, rfl⟩ := hsa.form
  have HB3 := Lib.hid (HB2.out.trans (hb3.mono HB2.out.size))
  have SA3 := Lib.hid hsa
  clear hsa hb3
  rw [LA.out] at SA3 ⊢
  go_wp2_with fail
  refine (TB.out _).mono ?_
  rintro e4 w4' ⟨slb, rfl, hsb, hb4⟩
  obtain ⟨qb, cb, rfl⟩ := hsb.form
  have HB4 := Lib.hid (HB3.out.trans (hb4.mono HB3.out.size))
  have SA4 := Lib.hid (SA3.out.keep hb4)
  have SB4 := Lib.hid hsb
  clear hsb hb4 SA3
  rw [LB.out] at SB4 ⊢
  go_wp2_with fail
  refine (TC.out _).mono ?_
  rintro e5 w5' ⟨slc, rfl, hsc, hb5⟩
  obtain ⟨qc, cc, rfl⟩ := hsc.form
  have HB5 := Lib.hid (HB4.out.trans (hb5.mono HB4.out.size))
  have SA5 := SA4.out.keep hb5
  have SB5 := SB4.out.keep hb5
  rw [LC.out] at hsc ⊢
  obtain ⟨xa, oa, rfl, _, ra⟩ := SA5.at_ (by rw [LA.out]; exact pa)
  obtain ⟨xb, ob, rfl, _, rb⟩ := SB5.at_ (by rw [LB.out]; exact pb)
  obtain ⟨xc, oc, rfl, _, rc⟩ := hsc.at_ (by rw [LC.out]; exact pc)
  have k1 : w5'.cell? ⟨xa, oa, none⟩ = some (.int .i64 b) := ra 0 b FA.out
  have k2 : w5'.cell? ⟨xb, ob, none⟩ = some (.int .i64 b) := rb 0 b FB.out
  have k3 : w5'.cell? ⟨xc, oc, none⟩ = some (.int .i64 b) := rc 0 b FC.out
  clear hsc hb5 SA4 SB4 SA5 SB5 ra rb rc
  go_wp2
  go_ret
  exact ⟨rfl, HB5.out⟩

theorem seq_zero {b e s : Int} (hs : 1 ≤ s) (h : b < e) : (seqT b e s)[0]? = some b := by
  rw [seqT_get b e s 0 (cnt_pos hs h)]; simp
theorem walk (b e n d f m s : Int) (w : World) (hr : RuleAt w) (m0 : 0 ≤ m) (m1 : m ≤ 65535) (s0 : 0 ≤ s) (s1 : s ≤ 65535) :
    Calls Tryd.prog 3 #[.int .i64 b, .int .i64 e, .int .i64 n, .int .i64 d, .int .i64 f, .int .u16 m, .int .u16 s] w fun e' w' => e' = .returned (.bool true) ∧ RowKit.Below w.heap.size w w' := by
  by_cases h : (TR b e n d f).2 = 0
  · obtain ⟨hi, hS, hc4, hT⟩ := TR_ok h
    have h0 : TR b e n d f = (seqT b e (n - max 1 f - 3 * d + 2), 0) := TR_of hi hS hc4
    obtain ⟨⟨d0, d1⟩, ⟨b0, b1⟩, ⟨e0, e1⟩, ⟨n0, n1⟩, ⟨f0, f1⟩, hbe⟩ := hi
    have hf1 : 0 ≤ s % (f + 1) := Int.emod_nonneg _ (by omega)
    have hf2 : s % (f + 1) < f + 1 := Int.emod_lt_of_pos _ (by omega)
    have hd1 : 0 ≤ s % (d + 1) := Int.emod_nonneg _ (by omega)
    have hd2 : s % (d + 1) < d + 1 := Int.emod_lt_of_pos _ (by omega)
    have hi : Inb b e n d f := ⟨⟨d0, d1⟩, ⟨b0, b1⟩, ⟨e0, e1⟩, ⟨n0, n1⟩, ⟨f0, f1⟩, hbe⟩
    generalize hF : s % (f + 1) = F at *
    generalize hD : s % (d + 1) = D at *
    have iB : Inb b e n d F := ⟨⟨d0, d1⟩, ⟨b0, b1⟩, ⟨e0, e1⟩, ⟨n0, n1⟩, ⟨by omega, by omega⟩, hbe⟩
    have iC : Inb b e n D f := ⟨⟨by omega, by omega⟩, ⟨by omega, b1⟩, ⟨e0, e1⟩, ⟨n0, n1⟩, ⟨f0, f1⟩, hbe⟩
    have sB : n - max 1 f - 3 * d + 2 ≤ n - max 1 F - 3 * d + 2 := by omega
    have sC : n - max 1 f - 3 * d + 2 ≤ n - max 1 f - 3 * D + 2 := by omega
    have mB := cnt_mono (b := b) (e := e) hS sB
    have mC := cnt_mono (b := b) (e := e) hS sC
    have hb := TR_of iB (by omega) (by omega)
    have hc := TR_of iC (by omega) (by omega)
    have gl := cnt_le hS hbe
    by_cases hm : n + m < 10000000
    · have iA : Inb b e (n + m) d f := ⟨⟨d0, d1⟩, ⟨b0, b1⟩, ⟨e0, e1⟩, ⟨by omega, by omega⟩, ⟨f0, f1⟩, hbe⟩
      have sA : n - max 1 f - 3 * d + 2 ≤ (n + m) - max 1 f - 3 * d + 2 := by omega
      have mA := cnt_mono (b := b) (e := e) hS sA
      have ha := TR_of iA (by omega) (by omega)
      exact walk_lo b e n d f m s w hr hi m0 m1 s0 s1 hm _ _ _ _ h0 ha (by rw [hF]; exact hb) (by rw [hD]; exact hc) (seq_zero (by omega) hbe) (seq_zero (by omega) hbe) (seq_zero (by omega) hbe) _ _ _ _ (seqT_len _ _ _) (seqT_len _ _ _) (seqT_len _ _ _) (seqT_len _ _ _) mA mB mC gl hc4 (cnt_pos (by omega) hbe) (cnt_pos (by omega) hbe) (cnt_pos (by omega) hbe)
    · have iA : Inb b e 10000000 d f := ⟨⟨d0, d1⟩, ⟨b0, b1⟩, ⟨e0, e1⟩, ⟨by omega, by omega⟩, ⟨f0, f1⟩, hbe⟩
      have sA : n - max 1 f - 3 * d + 2 ≤ 10000000 - max 1 f - 3 * d + 2 := by omega
      have mA := cnt_mono (b := b) (e := e) hS sA
      have ha := TR_of iA (by omega) (by omega)
      exact walk_hi b e n d f m s w hr hi m0 m1 s0 s1 (by omega) _ _ _ _ h0 ha (by rw [hF]; exact hb) (by rw [hD]; exact hc) (seq_zero (by omega) hbe) (seq_zero (by omega) hbe) (seq_zero (by omega) hbe) _ _ _ _ (seqT_len _ _ _) (seqT_len _ _ _) (seqT_len _ _ _) (seqT_len _ _ _) mA mB mC gl hc4 (cnt_pos (by omega) hbe) (cnt_pos (by omega) hbe) (cnt_pos (by omega) hbe)
  · exact walk_bad b e n d f m s w hr h
end More
end Go.Proofs.YtahbnhdalimdpaaDoor
