/- SpanGrows of layer 20 is true for every input, and leaves its arguments as they were; no condition. (Written by wip/tools/genspangrows.py.) -/
import Derived.Test.YtojofkjnakiliaaS14
namespace Go.Proofs.Ytojofkjnakiliaa
open Go.ChangeShapes Go.WideShapes Go.ChangeAt Go.RowKit Go.Joins Go.Shelf
open Go.ChangeMaps (open_string shut_string)
open SpP
namespace Grows
set_option linter.unusedVariables false

/-- A stretch reaches to a time, when it is grown. -/
def reach (b a t : Int) (s : Sp) : Bool := decide (s.1 - b ≤ t) && decide (t < s.2 + a)
theorem reach_next {l : List Sp} {i : Nat} {s : Sp} (b a t : Int) (h : l[i]? = some s) : (l.take (i + 1)).any (reach b a t) = ((l.take i).any (reach b a t) || reach b a t s) := by
  rw [List.take_add_one, h, List.any_append]
  simp
theorem grow_ok {l : List Sp} (h : Val l) (hl : l.length ≤ 1000) {b a : Int} (hb : 0 ≤ b ∧ b ≤ top) (ha : 0 ≤ a ∧ a ≤ top) : growR l b a = (nrm (grown l b a), 0) ∧ (nrm (grown l b a)).length ≤ 2 * l.length ∧ Val (nrm (grown l b a)) := by
  have hg := grown_inR h hb.1 ha.1
  refine ⟨?_, ?_, nrm_val hg⟩
  · unfold growR
    rw [if_pos ⟨(validB_iff l).2 ⟨by omega, h⟩, hb, ha⟩]
  · have := nrm_len hg
    rwa [grown_len] at this

set_option maxHeartbeats 1000000 in
set_option maxRecDepth 100000 in
theorem walk_1 {va : Value} {a : List Sp} {w : World} (ha : SlS va a w) (x1 x2 x3 x4 x5 : Int) (LA : Hid (a.length ≤ maxLen)) (FA : Hid (decide (a.length ≤ 60) = false)) :
    Calls Try.prog 7 #[va, .int .u32 x1, .int .u32 x2, .int .u32 x3, .int .u32 x4, .int .u32 x5] w fun e w' => e = .returned (.bool true) ∧ RowKit.Below w.heap.size w w' := by
  have H0 := Lib.hid ((AllS.start w).add ha)
  obtain ⟨pa, ca, rfl⟩ := ha.form
  clear ha
  go_enter Try.func7, Try.ntmps7
  go_wp2_with fail
  refine (head_any _).mono ?_
  rintro e w1 ⟨rfl, hb⟩
  have H2 := Lib.hid (H0.out.step hb)
  clear H0
  clear hb
  go_wp2_with fail
  have hN := few_sl (H2.out.nth 0 rfl) LA.out
  rw [FA.out] at hN
  refine hN.mono ?_
  clear hN
  rintro e w3 ⟨rfl, hb⟩
  have H4 := Lib.hid (H2.out.step hb)
  clear H2
  clear hb
  go_wp2
  go_ret
  exact ⟨rfl, H4.out.1⟩
set_option maxHeartbeats 1000000 in
set_option maxRecDepth 100000 in
theorem walk_2 {va : Value} {a : List Sp} {w : World} (ha : SlS va a w) (x1 x2 x3 x4 x5 : Int) (LA : Hid (a.length ≤ maxLen)) (FA : Hid (decide (a.length ≤ 60) = true)) (VA : Hid (validB a = false)) :
    Calls Try.prog 7 #[va, .int .u32 x1, .int .u32 x2, .int .u32 x3, .int .u32 x4, .int .u32 x5] w fun e w' => e = .returned (.bool true) ∧ RowKit.Below w.heap.size w w' := by
  have H0 := Lib.hid ((AllS.start w).add ha)
  obtain ⟨pa, ca, rfl⟩ := ha.form
  clear ha
  go_enter Try.func7, Try.ntmps7
  go_wp2_with fail
  refine (head_any _).mono ?_
  rintro e w1 ⟨rfl, hb⟩
  have H2 := Lib.hid (H0.out.step hb)
  clear H0
  clear hb
  go_wp2_with fail
  have hN := few_sl (H2.out.nth 0 rfl) LA.out
  rw [FA.out] at hN
  refine hN.mono ?_
  clear hN
  rintro e w3 ⟨rfl, hb⟩
  have H4 := Lib.hid (H2.out.step hb)
  clear H2
  clear hb
  go_wp2_with fail
  have hN := rvalid_any (H4.out.nth 0 rfl) LA.out
  rw [VA.out] at hN
  refine hN.mono ?_
  clear hN
  rintro e w5 ⟨rfl, hb⟩
  have H6 := Lib.hid (H4.out.step hb)
  clear H4
  clear hb
  go_wp2
  go_ret
  exact ⟨rfl, H6.out.1⟩

set_option maxHeartbeats 4000000 in
set_option maxRecDepth 100000 in
theorem main {va : Value} {a g k : List Sp} {w : World} (ha : SlS va a w) (x1 x2 x3 x4 x5 : Int) (LA : Hid (a.length ≤ maxLen)) (FA : Hid (decide (a.length ≤ 60) = true)) (VA : Hid (validB a = true)) (b c m n at_ : Int) (e1 : x1 % 10000000 = b) (e2 : x2 % 10000000 = c) (e3 : x3 % 10000000 = m) (e4 : x4 % 10000000 = n) (e5 : x5 % 20000000 = at_)
    (p1 : 0 ≤ x1) (p2 : 0 ≤ x2) (p3 : 0 ≤ x3) (p4 : 0 ≤ x4) (p5 : 0 ≤ x5) (r1 : x1 ≤ 4294967295) (r2 : x2 ≤ 4294967295) (r3 : x3 ≤ 4294967295) (r4 : x4 ≤ 4294967295) (r5 : x5 ≤ 4294967295)
    (b1 : 0 ≤ b) (b2 : b ≤ 10000000) (c1 : 0 ≤ c) (c2 : c ≤ 10000000) (m1 : 0 ≤ m) (m2 : m ≤ 10000000) (n1 : 0 ≤ n) (n2 : n ≤ 10000000)
    (KA : a.length ≤ 60) (IA : Hid (InR a)) (LG : Hid (g.length ≤ maxLen)) (LK : Hid (k.length ≤ maxLen)) (VG : Hid (validB g = true))
    (HG : Hid (growR a b c = (g, 0))) (HS : Hid (growR a 0 0 = (a, 0))) (HT : Hid (growR g m n = (k, 0))) (HO : Hid (growR a (b + m) (c + n) = (k, 0))) (HR : Hid (hasS g at_ = a.any (reach b c at_))) :
    Calls Try.prog 7 #[va, .int .u32 x1, .int .u32 x2, .int .u32 x3, .int .u32 x4, .int .u32 x5] w fun e w' => e = .returned (.bool true) ∧ RowKit.Below w.heap.size w w' := by
  have H0 := Lib.hid ((AllS.start w).add ha)
  obtain ⟨pa, ca, rfl⟩ := ha.form
  clear ha
  go_enter Try.func7, Try.ntmps7
  go_wp2_with fail
  refine (head_any _).mono ?_
  rintro e w1 ⟨rfl, hb⟩
  have H2 := Lib.hid (H0.out.step hb)
  clear H0
  clear hb
  go_wp2_with fail
  have hN := few_sl (H2.out.nth 0 rfl) LA.out
  rw [FA.out] at hN
  refine hN.mono ?_
  clear hN
  rintro e w3 ⟨rfl, hb⟩
  have H4 := Lib.hid (H2.out.step hb)
  clear H2
  clear hb
  go_wp2_with fail
  have hN := rvalid_any (H4.out.nth 0 rfl) LA.out
  rw [VA.out] at hN
  refine hN.mono ?_
  clear hN
  rintro e w5 ⟨rfl, hb⟩
  have H6 := Lib.hid (H4.out.step hb)
  clear H4
  clear hb
  go_wp2_with fail
  have hN := grow_any (H6.out.nth 0 rfl) LA.out b c
  rw [HG.out] at hN
  refine hN.mono ?_
  clear hN
  rintro e w7 ⟨sl7, rfl, hs, hb⟩
  obtain ⟨p7, c7, rfl⟩ := hs.form
  have H8 := Lib.hid ((H6.out.step hb).add hs)
  clear H6
  clear hs hb
  go_wp2_with fail
  have hN := grow_any (H8.out.nth 1 rfl) LA.out 0 0
  rw [HS.out] at hN
  refine hN.mono ?_
  clear hN
  rintro e w9 ⟨sl9, rfl, hs, hb⟩
  obtain ⟨p9, c9, rfl⟩ := hs.form
  have H10 := Lib.hid ((H8.out.step hb).add hs)
  clear H8
  clear hs hb
  go_wp2_with fail
  have hN := grow_any (H10.out.nth 1 rfl) LG.out m n
  rw [HT.out] at hN
  refine hN.mono ?_
  clear hN
  rintro e w11 ⟨sl11, rfl, hs, hb⟩
  obtain ⟨p11, c11, rfl⟩ := hs.form
  have H12 := Lib.hid ((H10.out.step hb).add hs)
  clear H10
  clear hs hb
  go_wp2_with fail
  have hN := grow_any (H12.out.nth 3 rfl) LA.out (b + m) (c + n)
  rw [HO.out] at hN
  refine hN.mono ?_
  clear hN
  rintro e w13 ⟨sl13, rfl, hs, hb⟩
  obtain ⟨p13, c13, rfl⟩ := hs.form
  have H14 := Lib.hid ((H12.out.step hb).add hs)
  clear H12
  clear hs hb
  go_wp2_with fail
  have hN := valid_any (H14.out.nth 3 rfl) LG.out
  rw [VG.out] at hN
  refine hN.mono ?_
  clear hN
  rintro e w15 ⟨rfl, hb⟩
  have H16 := Lib.hid (H14.out.step hb)
  clear H14
  clear hb
  go_wp2_with fail
  have hN := same_any (H16.out.nth 2 rfl) (H16.out.nth 4 rfl) LA.out
  rw [show decide (a = a) = true from decide_eq_true rfl] at hN
  refine hN.mono ?_
  clear hN
  rintro e w17 ⟨rfl, hb⟩
  have H18 := Lib.hid (H16.out.step hb)
  clear H16
  clear hb
  go_wp2_with fail
  have hN := same_any (H18.out.nth 1 rfl) (H18.out.nth 0 rfl) LK.out
  rw [show decide (k = k) = true from decide_eq_true rfl] at hN
  refine hN.mono ?_
  clear hN
  rintro e w19 ⟨rfl, hb⟩
  have H20 := Lib.hid (H18.out.step hb)
  clear H18
  clear hb
  go_wp2
  have H9 := H20
  clear H20
  obtain ⟨na, hna⟩ : ∃ na, a.length = na := ⟨_, rfl⟩
  have HNA := Lib.hid hna
  rw [hna]
  have SAA := H9.out.nth 4 rfl
  rw [hna] at SAA KA
  have SA := Lib.hid SAA
  clear hna SAA
  generalize hWW : w19 = WW at *
  clear hWW
  go_loopw [118, 27] (fun s118 s27 wr => ∃ i : Nat, i ≤ na ∧ s118 = .int .i64 i ∧ s27 = .bool ((a.take i).any (reach b c at_)) ∧ Hid (RowKit.Below WW.heap.size WW wr)) (fun s118 _ _ => na - (intOf s118).toNat)
  case atStart => exact ⟨0, by omega, rfl, rfl, Lib.hid (RowKit.Below.refl _ _)⟩
  case round =>
    obtain ⟨i, hi, rfl, rfl, HB⟩ := hrel
    by_cases h1 : i < na
    · have ia : i < a.length := by rw [HNA.out]; exact h1
      have ga : a[i]? = some a[i] := List.getElem?_eq_getElem ia
      have hSA := SA.out.keep HB.out
      obtain ⟨b', off, rfl, hlt, hRS⟩ : ∃ b off, pa = some ⟨b, off, none⟩ ∧ b < wr.heap.size ∧ RS b off a wr := by
        exact hSA.at_ (by omega)
      obtain ⟨z0, z1⟩ := hRS.at_ ga
      have hxy := IA.out _ (List.mem_of_getElem? ga)
      have HRN := Lib.hid (reach_next b c at_ ga)
      unfold top at hxy
      generalize a[i] = s at *
      obtain ⟨x, y⟩ := s
      simp only at z0 z1 hxy
      have hx0 := hxy.1
      have hx1 := hxy.2.1
      have hx2 := hxy.2.2
      have hi1 : (i : Int) < (na : Int) := by omega
      obtain ⟨ac, hac⟩ : ∃ ac, (a.take i).any (reach b c at_) = ac := ⟨_, rfl⟩
      rw [hac] at HRN ⊢
      clear ga hSA hRS hxy hac
      cases ac
      · by_cases q1 : x - b ≤ at_
        · have d1 : decide (x - b ≤ at_) = true := by simpa using q1
          by_cases q2 : at_ < y + c
          · have d2 : decide (at_ < y + c) = true := by simpa using q2
            have HV : Hid (reach b c at_ (x, y) = true) := Lib.hid (by unfold reach; simp only [d1, d2, Bool.and_self])
            go_wp2
            go_roundw
            case rel => exact ⟨i + 1, by omega, by go_num, by rw [HRN.out, HV.out]; rfl, Lib.hid (HB.out.alloc HB.out.size _)⟩
            case measure => simp [intOf]; omega
          · have d2 : decide (at_ < y + c) = false := by simpa using q2
            have HV : Hid (reach b c at_ (x, y) = false) := Lib.hid (by unfold reach; simp only [d2, Bool.and_false])
            go_wp2
            go_roundw
            case rel => exact ⟨i + 1, by omega, by go_num, by rw [HRN.out, HV.out]; rfl, Lib.hid (HB.out.alloc HB.out.size _)⟩
            case measure => simp [intOf]; omega
        · have d1 : decide (x - b ≤ at_) = false := by simpa using q1
          have HV : Hid (reach b c at_ (x, y) = false) := Lib.hid (by unfold reach; simp only [d1, Bool.false_and])
          go_wp2
          go_roundw
          case rel => exact ⟨i + 1, by omega, by go_num, by rw [HRN.out, HV.out]; rfl, Lib.hid (HB.out.alloc HB.out.size _)⟩
          case measure => simp [intOf]; omega
      · go_wp2
        go_roundw
        case rel => exact ⟨i + 1, by omega, by go_num, by rw [HRN.out]; rfl, Lib.hid (HB.out.alloc HB.out.size _)⟩
        case measure => simp [intOf]; omega
    · obtain rfl : i = na := by omega
      have HHA := Lib.hid (has_any ((H9.out.step HB.out).nth 3 rfl) LG.out at_)
      have hq : hasS g at_ = (a.take i).any (reach b c at_) := by rw [HR.out, List.take_of_length_le (by rw [HNA.out]; exact Nat.le_refl _)]
      rw [hq] at HHA
      obtain ⟨q, hqq⟩ : ∃ q, (a.take i).any (reach b c at_) = q := ⟨_, rfl⟩
      rw [hqq] at HHA ⊢
      clear hq hqq
      cases q
      all_goals
        go_wp2_with fail
        refine HHA.out.mono ?_
        rintro e wx ⟨rfl, hbx⟩
        have HBX := Lib.hid hbx
        clear hbx
        go_wp2
        go_ret
        exact ⟨rfl, H9.out.1.trans ((HB.out.trans (HBX.out.mono HB.out.size)).mono H9.out.1.size)⟩

theorem wf32 {n : Int} (h : (Lit.int .u32 n).wf = true) : 0 ≤ n ∧ n ≤ 4294967295 := by
  simp [Lit.wf, IntKind.min, IntKind.max, IntKind.signed, IntKind.bits] at h
  omega
theorem walk (a : Option Addr) (na ca : Nat) (x1 x2 x3 x4 x5 : Int) (w : World) (ha : ∃ l : List Sp, l.length = na ∧ SlS (.slice a na ca) l w ∧ l.length ≤ maxLen) (w1 : (Lit.int .u32 x1).wf = true) (w2 : (Lit.int .u32 x2).wf = true) (w3 : (Lit.int .u32 x3).wf = true) (w4 : (Lit.int .u32 x4).wf = true) (w5 : (Lit.int .u32 x5).wf = true) :
    Calls Try.prog 7 #[.slice a na ca, .int .u32 x1, .int .u32 x2, .int .u32 x3, .int .u32 x4, .int .u32 x5] w fun e w' => e = .returned (.bool true) ∧ RowKit.Below w.heap.size w w' := by
  obtain ⟨la, _, sa, ma⟩ := ha
  have LA := Lib.hid ma
  cases fa : decide (la.length ≤ 60)
  · exact walk_1 sa x1 x2 x3 x4 x5 LA (Lib.hid fa)
  cases va : validB la
  · exact walk_2 sa x1 x2 x3 x4 x5 LA (Lib.hid fa) (Lib.hid va)
  have hla := of_decide_eq_true fa
  have xa := ((validB_iff la).1 va).2
  obtain ⟨p1, r1⟩ := wf32 w1
  obtain ⟨p2, r2⟩ := wf32 w2
  obtain ⟨p3, r3⟩ := wf32 w3
  obtain ⟨p4, r4⟩ := wf32 w4
  obtain ⟨p5, r5⟩ := wf32 w5
  obtain ⟨g1, g2, g3⟩ := grow_ok (b := x1 % 10000000) (a := x2 % 10000000) xa (by omega) (by unfold top; omega) (by unfold top; omega)
  obtain ⟨s1, s2, s3⟩ := grow_ok (b := 0) (a := 0) xa (by omega) (by unfold top; omega) (by unfold top; omega)
  obtain ⟨t1, t2, t3⟩ := grow_ok (b := x3 % 10000000) (a := x4 % 10000000) g3 (by omega) (by unfold top; omega) (by unfold top; omega)
  obtain ⟨o1, o2, o3⟩ := grow_ok (b := x1 % 10000000 + x3 % 10000000) (a := x2 % 10000000 + x4 % 10000000) xa (by omega) (by unfold top; omega) (by unfold top; omega)
  rw [grow_zero xa] at s1
  rw [← grow_twice xa (by omega) (by omega) (by omega) (by omega)] at o1
  have hr := grow_has xa (b := x1 % 10000000) (a := x2 % 10000000) (t := x5 % 20000000) (by omega) (by omega) (by omega) (by unfold top; omega)
  exact main sa x1 x2 x3 x4 x5 LA (Lib.hid fa) (Lib.hid va) _ _ _ _ _ rfl rfl rfl rfl rfl p1 p2 p3 p4 p5 r1 r2 r3 r4 r5 (by omega) (by omega) (by omega) (by omega) (by omega) (by omega) (by omega) (by omega) hla (Lib.hid xa.inR) (Lib.hid (lenS (n := 120) (by omega) (by omega))) (Lib.hid (lenS (n := 240) (by omega) (by omega))) (Lib.hid (val_ok g3 (by omega))) (Lib.hid g1) (Lib.hid s1) (Lib.hid t1) (Lib.hid o1) (Lib.hid hr)

theorem own : ownKnob Try.prog.godebug = none := by kernel_rfl
theorem laidOut : laidOutB Try.prog = true := by kernel_rfl

set_option maxRecDepth 100000 in
theorem lifted (os : Os) (started : os.Started) (H : Type) (enc : TypeId × Value → H) :
    ReturnsInHanded {} Try.checked os 7 .any (Rows.spanGrowsSpec.pre6 enc Try.prog Try.f7 Rows.spanGrowsRow.domain false) (Rows.spanGrowsSpec.post enc Try.prog Try.f7 false true false false) := by
  refine returnsInHanded_of_change (C := Try.checked) own started (by kernel_rfl) Try.func7
    (ChangeSpec.witness6 (enc := enc) (C := Try.checked) false ⟨#[], #[.slice none 0 0, .int .u32 0, .int .u32 0, .int .u32 0, .int .u32 0, .int .u32 0], []⟩ 8 (by kernel_rfl) (by kernel_rfl) (by kernel_rfl) (by kernel_rfl)) ?_
  intro W base args ds gs before hval0 hW hcnd _
  have hval : ∀ (j : Nat) t v, Try.f7.params[j]? = some t → args[j]? = some v → Value.okWide Try.prog W .any base t v := hval0
  have hW' := hW
  obtain ⟨p, q, hA0, hV, rfl, hfz, hnd⟩ := hW
  have hA : DataW.TrodAll enc Try.prog W 0 (fun _ => true) true Try.f7.params.toList args.toList ds p := hA0
  rw [Try.params7] at hA hval
  obtain ⟨v0, vs0, d0, ds0, p0, q0, hargs, rfl, rfl, h0, r0⟩ := trodAll_cons hA
  obtain ⟨v1, vs1, d1, ds1, p1, q1, rfl, rfl, rfl, h1, r1⟩ := trodAll_cons r0
  obtain ⟨v2, vs2, d2, ds2, p2, q2, rfl, rfl, rfl, h2, r2⟩ := trodAll_cons r1
  obtain ⟨v3, vs3, d3, ds3, p3, q3, rfl, rfl, rfl, h3, r3⟩ := trodAll_cons r2
  obtain ⟨v4, vs4, d4, ds4, p4, q4, rfl, rfl, rfl, h4, r4⟩ := trodAll_cons r3
  obtain ⟨v5, vs5, d5, ds5, p5, q5, rfl, rfl, rfl, h5, r5⟩ := trodAll_cons r4
  obtain ⟨rfl, rfl, rfl⟩ := trodAll_nil r5
  obtain rfl : args = #[v0, v1, v2, v3, v4, v5] := by cases args; simp_all
  obtain ⟨rfl, rfl⟩ := trodVars_none hV
  have k0 := h0
  have lt0 : ∀ x ∈ p0, x.block < W.heap.size := by obtain ⟨m, hm⟩ := k0; exact DataW.trod_lt m _ _ _ hm
  have k1 := h1
  have lt1 : ∀ x ∈ p1, x.block < W.heap.size := by obtain ⟨m, hm⟩ := k1; exact DataW.trod_lt m _ _ _ hm
  have k2 := h2
  have lt2 : ∀ x ∈ p2, x.block < W.heap.size := by obtain ⟨m, hm⟩ := k2; exact DataW.trod_lt m _ _ _ hm
  have k3 := h3
  have lt3 : ∀ x ∈ p3, x.block < W.heap.size := by obtain ⟨m, hm⟩ := k3; exact DataW.trod_lt m _ _ _ hm
  have k4 := h4
  have lt4 : ∀ x ∈ p4, x.block < W.heap.size := by obtain ⟨m, hm⟩ := k4; exact DataW.trod_lt m _ _ _ hm
  have k5 := h5
  have lt5 : ∀ x ∈ p5, x.block < W.heap.size := by obtain ⟨m, hm⟩ := k5; exact DataW.trod_lt m _ _ _ hm
  obtain ⟨a0, len0, cap0, rfl⟩ := okWide_slice Try.underlying22 (hval 0 22 v0 rfl rfl)
  have w0 := open_spans h0
  obtain ⟨a1, rfl, rfl, rfl, w1⟩ := open_int Try.underlying37 (hval 1 37 v1 rfl rfl) h1
  obtain ⟨a2, rfl, rfl, rfl, w2⟩ := open_int Try.underlying37 (hval 2 37 v2 rfl rfl) h2
  obtain ⟨a3, rfl, rfl, rfl, w3⟩ := open_int Try.underlying37 (hval 3 37 v3 rfl rfl) h3
  obtain ⟨a4, rfl, rfl, rfl, w4⟩ := open_int Try.underlying37 (hval 4 37 v4 rfl rfl) h4
  obtain ⟨a5, rfl, rfl, rfl, w5⟩ := open_int Try.underlying37 (hval 5 37 v5 rfl rfl) h5
  clear hA0 hval0
  refine (walk a0 len0 cap0 a1 a2 a3 a4 a5 W w0 w1 w2 w3 w4 w5).mono fun e W' ⟨he, bel⟩ => ?_
  subst he
  exact ⟨_, rfl, _, _, _, [], _, [], hW', trodAll_mk1 (shut_bool Try.underlying4 _), (trodAll_cons_mk (Below.trod laidOut (by kernel_rfl) (of_decide_eq_true (by kernel_rfl)) k0 bel lt0) (trodAll_cons_mk (Below.trod laidOut (by kernel_rfl) (of_decide_eq_true (by kernel_rfl)) k1 bel lt1) (trodAll_cons_mk (Below.trod laidOut (by kernel_rfl) (of_decide_eq_true (by kernel_rfl)) k2 bel lt2) (trodAll_cons_mk (Below.trod laidOut (by kernel_rfl) (of_decide_eq_true (by kernel_rfl)) k3 bel lt3) (trodAll_cons_mk (Below.trod laidOut (by kernel_rfl) (of_decide_eq_true (by kernel_rfl)) k4 bel lt4) (trodAll_cons_mk (Below.trod laidOut (by kernel_rfl) (of_decide_eq_true (by kernel_rfl)) k5 bel lt5) trodAll_mk0)))))), rfl, bel.frame _, fun h => by cases h⟩

theorem over : Rows.SpanGrowsSaid :=
  OpenClaim.holds_of_wide 7 Try.f7 rfl rfl rfl rfl rfl rfl rfl ⟨rfl, rfl, rfl, rfl, rfl⟩ rfl rfl rfl rfl rfl (by kernel_rfl) Try.func7 (by kernel_rfl)
    (of_decide_eq_true (by kernel_rfl)) (by unfold Func.isWrapper; rw [if_neg (of_decide_eq_false (by kernel_rfl))]; exact ⟨rfl, rfl⟩)
    (fun os started H enc _ => lifted os started H enc)


end Grows
theorem spanGrows_holds : Rows.SpanGrowsSaid := Grows.over
end Go.Proofs.Ytojofkjnakiliaa
