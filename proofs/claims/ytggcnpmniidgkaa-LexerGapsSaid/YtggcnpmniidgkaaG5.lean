/- The walk of LexerGaps where the gap is inserted at the end, kinds 0 to 2 (yes); no condition beyond those that each theorem names. -/
import Derived.Test.YtggcnpmniidgkaaG2
import Derived.Test.YtggcnpmniidgkaaShelf
namespace Go.Proofs.Ytggcnpmniidgkaa
open Go.RowKit Go.Maps Go.Shelf
open NmP
namespace Gaps
set_option linter.unusedVariables false

set_option maxHeartbeats 4000000 in
set_option maxRecDepth 100000 in
theorem walk_yes (s : ByteArray) (wh kd : Nat) (w : World) (hwh : wh < 256) (hkd : kd < 256) (A1 : List Tok) (hr : lexR s.toList = (A1, 0, 0)) (n : Nat) (hnl : A1.length = n) (hn : n ≤ 2000) (hn0 : 0 < n)
    (k : Nat) (hkn : k = n) (hk : wh % (n + 1) = k) (r : Nat) (hr5 : kd % 5 = r) (hm1 : Small A1) (hr3 : r < 3) (m0 : Nat) (hm0 : m0 ≤ s.size) (hli : Lib.lastIndexByte s ((10 : UInt8).toNat : Int) + 1 = m0) (hct : decide (0 ≤ Lib.indexByte (s.extract m0 s.size).data.toList 35) = true) (p : Nat) (hsp : s.size = p) (hp : p ≤ 8000)
    (q : Nat) (hq : ((⟨#[10]⟩ : ByteArray) ++ gapK r).size = q) (hq12 : q ≤ 12)
    (hfin : p + q ≤ 8000 → ∀ s' : ByteArray, s'.toList = s.toList ++ ((⟨#[10]⟩ : ByteArray) ++ gapK r).toList → lexR s'.toList = (A1, 0, 0)) :
    Calls Try.prog 4 #[.string s, .int .u8 wh, .int .u8 kd] w fun e w' => e = .returned (.bool true) ∧ Below w.heap.size w w' := by
  have HA := Lib.hid (fun W => Lex_raw s W (by unfold maxLen; omega) _ hr)
  have hki : (wh : Int) % ((n : Int) + 1) = (k : Int) := by rw [← hk]; rfl
  have hne : (((n : Int) + 1) == 0) = false := beq_eq_false_iff_ne.2 (by omega)
  have hlt : ¬ (k : Int) < (n : Int) := by omega
  have hkle : k ≤ n := by omega
  have hnk : n - k = 0 := by omega
  have hr5i : (kd : Int) % 5 = (r : Int) := by rw [← hr5]; rfl
  have hr5b : r < 5 := by omega
  have hr3i : (r : Int) < 3 := by omega
  have HLI : Hid (∀ W, Calls Try.prog 19 #[.string s, .string ⟨#[10]⟩] W fun e w' => e = .returned (.int .i64 ((m0 : Int) - 1)) ∧ w' = W) := Lib.hid (fun W => by
    have h := Try.strings_LastIndex_one s ⟨#[10]⟩ rfl (by omega) W
    have e1 : Lib.lastIndexByte s (((⟨#[10]⟩ : ByteArray)[0]'(by decide)).toNat : Int) = (m0 : Int) - 1 := by
      have : Lib.lastIndexByte s ((10 : UInt8).toNat : Int) = (m0 : Int) - 1 := by omega
      exact this
    rw [e1] at h
    exact h)
  have HCT : Hid (∀ W, Calls Try.prog 18 #[.string (s.extract m0 p), .string ⟨#[35]⟩] W fun e w' => e = .returned (.bool true) ∧ w' = W) := Lib.hid (fun W => by
    have h := Try.strings_Contains_one (s.extract m0 p) 35 W
    rw [hsp] at hct
    rwa [hct] at h)
  clear hli hct
  rw [hsp] at hm0
  have HC := Lib.hid (fun W => gapK_cell W r hr5b)
  have hgs := gapK_size r
  have HF := Lib.hid hfin
  have HN := Lib.hid hnl
  have HK := Lib.hid hkn
  have HM1 := Lib.hid hm1
  clear hk hr5 hr hfin hnl hkn hm1
  by_cases h8 : 8000 < p + q
  · have h8i : (8000 : Int) < (p : Int) + (q : Int) := by omega
    clear HF
    generalize gapK r = G at *
    go_enter Try.func4, Try.ntmps4
    go_wp2_with (first | (go_at_call 14; refine (head_any _).mono ?_; rintro e w1 ⟨rfl, hb1⟩; have HW := Lib.hid hb1; clear hb1) | (go_at_call 15; fail))
    refine (HA.out _).mono ?_
    rintro e w2 ⟨va, rfl, sa, hb2⟩
    obtain ⟨pa, ca, rfl⟩ := row_form sa
    rw [HN.out]
    replace HW := Lib.hid (HW.out.trans (hb2.mono HW.out.size))
    clear sa hb2
    have hcell := HC.out w2
    go_wp2_with (first | (go_at_call 19; refine (HLI.out _).mono ?_; rintro e w3 ⟨rfl, rfl⟩) | (go_at_call 18; refine (HCT.out _).mono ?_; rintro e w3 ⟨rfl, rfl⟩))
    go_ret
    exact ⟨rfl, HW.out.alloc HW.out.size _⟩
  · have h8i : ¬ (8000 : Int) < (p : Int) + (q : Int) := by omega
    have hx1 : (s.extract 0 p).size = p := by rw [ByteArray.size_extract]; omega
    have hx2 : (s.extract p p).size = 0 := by rw [ByteArray.size_extract]; omega
    have hsz : (s.extract 0 p ++ ((⟨#[10]⟩ : ByteArray) ++ gapK r)).size ≤ maxLen := by
      unfold maxLen
      rw [ByteArray.size_append, hx1, hq]
      omega
    have htl : (s.extract 0 p ++ ((⟨#[10]⟩ : ByteArray) ++ gapK r)).toList = s.toList ++ ((⟨#[10]⟩ : ByteArray) ++ gapK r).toList := by
      have e1 : (s.extract 0 p).toList = s.toList := by rw [tl_sub, List.drop_zero, Nat.sub_zero, List.take_of_length_le (by rw [tl_len]; omega)]
      have e3 : (s.extract 0 p ++ ((⟨#[10]⟩ : ByteArray) ++ gapK r)).toList = (s.extract 0 p).toList ++ ((⟨#[10]⟩ : ByteArray) ++ gapK r).toList := by
        simp only [tl, ByteArray.data_append]
        simp
      rw [e3, e1]
    have HL := Lib.hid (fun W => Lex_raw (s.extract 0 p ++ ((⟨#[10]⟩ : ByteArray) ++ gapK r)) W hsz _ (HF.out (by omega) _ htl))
    clear HF hsz htl
    generalize gapK r = G at *
    go_enter Try.func4, Try.ntmps4
    go_wp2_with (first | (go_at_call 14; refine (head_any _).mono ?_; rintro e w1 ⟨rfl, hb1⟩; have HW := Lib.hid hb1; clear hb1) | (go_at_call 15; fail))
    refine (HA.out _).mono ?_
    rintro e w2 ⟨va, rfl, sa, hb2⟩
    rcases row_or sa HN.out with ⟨h0, _⟩ | ⟨b, ca, rfl, hbl, hca, hcm, hrt⟩
    · omega
    · replace HW := Lib.hid (HW.out.trans (hb2.mono HW.out.size))
      clear sa hb2
      have hcell := HC.out w2
      have hrt2 := hrt.keep hbl (below_1 w2 five)
      have HRT := Lib.hid hrt2
      have hbl2 : b < (w2.alloc five).heap.size := Nat.lt_of_lt_of_le hbl (below_1 w2 five).size
      replace HW := Lib.hid (HW.out.alloc HW.out.size five)
      clear hrt hrt2
      unfold maxLen at hcm
      go_wp2_with (first | (go_at_call 19; refine (HLI.out _).mono ?_; rintro e w3 ⟨rfl, rfl⟩) | (go_at_call 18; refine (HCT.out _).mono ?_; rintro e w3 ⟨rfl, rfl⟩))
      clear hcell
      generalize w2.alloc _ = W3 at *
      go_region_with (go_at_call 15; refine (HL.out _).mono ?_; rintro e w5 ⟨vb, rfl, sb, hb5⟩)
      have HRT3 := Lib.hid (HRT.out.keep hbl2 ((Below.refl _ W3).drew))
      replace HW := Lib.hid (HW.out.drew)
      have hbl3 : b < W3.drew.heap.size := hbl2
      clear HRT hbl2
      have C2 : Hid (∀ p1 p2 c c' W, Calls Try.prog 17 #[.slice p1 0 c, .slice p2 0 c', .int .i64 (q : Int)] W fun e w' => e = .returned (.bool true) ∧ Below W.heap.size W w') := Lib.hid (fun p1 p2 c c' W => by
        exact same_none p1 p2 c c' _ W)
      rcases row_or sb HN.out with ⟨h0, rfl⟩ | ⟨g, cb, rfl, hgl, hcb, hcbm, hrtb⟩
      · omega
      · replace HW := Lib.hid (HW.out.trans (hb5.mono HW.out.size))
        have hra := HRT3.out.keep hbl3 hb5
        have hbl5 : b < w5.heap.size := Nat.lt_of_lt_of_le hbl3 hb5.size
        clear HRT3 hbl3 sb hb5 HL
        unfold maxLen at hcbm
        have hA1k : A1.length = k := by rw [HN.out, HK.out]
        have PA1 := SlT.row (c := ca) hA1k hbl5 hra
        have PB1 := SlT.row (c := cb) hA1k hgl hrtb
        have C1 := Lib.hid (fun d os => same_lit (PA1.keep (below_regrown w5 d os)) (PB1.keep (below_regrown w5 d os)) HM1.out)
        clear PA1 PB1 hra hrtb hA1k
        by_cases z1 : k = ca
        · subst z1
          by_cases z2 : k = cb
          · subst z2
            go_wp2
            refine wp_region_quiet_below (by kernel_rfl) (by kernel_rfl) ?_
            repeat (go_big_quiet_step ((first | (go_at_call 17; (with_reducible exact Calls.regrown_of (C1.out _ _))) | (go_at_call 17; (with_reducible exact Calls.regrown_of (C2.out _ _ _ _ _))))))
            refine wpQuiet_nil ?_
            intro _ hw'
            obtain ⟨⟨dq, osq⟩, hw''⟩ := hw'
            subst hw''
            go_wp2
            go_ret
            exact ⟨rfl, HW.out.trans ((below_regrown _ dq osq).mono HW.out.size)⟩
          · have z2l : k < cb := by omega
            go_wp2
            refine wp_region_quiet_below (by kernel_rfl) (by kernel_rfl) ?_
            repeat (go_big_quiet_step ((first | (go_at_call 17; (with_reducible exact Calls.regrown_of (C1.out _ _))) | (go_at_call 17; (with_reducible exact Calls.regrown_of (C2.out _ _ _ _ _))))))
            refine wpQuiet_nil ?_
            intro _ hw'
            obtain ⟨⟨dq, osq⟩, hw''⟩ := hw'
            subst hw''
            go_wp2
            go_ret
            exact ⟨rfl, HW.out.trans ((below_regrown _ dq osq).mono HW.out.size)⟩
        · have z1l : k < ca := by omega
          by_cases z2 : k = cb
          · subst z2
            go_wp2
            refine wp_region_quiet_below (by kernel_rfl) (by kernel_rfl) ?_
            repeat (go_big_quiet_step ((first | (go_at_call 17; (with_reducible exact Calls.regrown_of (C1.out _ _))) | (go_at_call 17; (with_reducible exact Calls.regrown_of (C2.out _ _ _ _ _))))))
            refine wpQuiet_nil ?_
            intro _ hw'
            obtain ⟨⟨dq, osq⟩, hw''⟩ := hw'
            subst hw''
            go_wp2
            go_ret
            exact ⟨rfl, HW.out.trans ((below_regrown _ dq osq).mono HW.out.size)⟩
          · have z2l : k < cb := by omega
            go_wp2
            refine wp_region_quiet_below (by kernel_rfl) (by kernel_rfl) ?_
            repeat (go_big_quiet_step ((first | (go_at_call 17; (with_reducible exact Calls.regrown_of (C1.out _ _))) | (go_at_call 17; (with_reducible exact Calls.regrown_of (C2.out _ _ _ _ _))))))
            refine wpQuiet_nil ?_
            intro _ hw'
            obtain ⟨⟨dq, osq⟩, hw''⟩ := hw'
            subst hw''
            go_wp2
            go_ret
            exact ⟨rfl, HW.out.trans ((below_regrown _ dq osq).mono HW.out.size)⟩
end Gaps
end Go.Proofs.Ytggcnpmniidgkaa
