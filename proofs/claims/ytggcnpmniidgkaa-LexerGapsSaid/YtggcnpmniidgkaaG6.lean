/- The walk of LexerGaps where the gap is inserted at the end, kinds 3 and 4; no condition beyond those that each theorem names. -/
import Derived.Test.YtggcnpmniidgkaaG2
namespace Go.Proofs.Ytggcnpmniidgkaa
open Go.RowKit Go.Maps Go.Shelf
open NmP
namespace Gaps
set_option linter.unusedVariables false

set_option maxHeartbeats 8000000 in
set_option maxRecDepth 100000 in
theorem walk_hi0 (s : ByteArray) (wh kd : Nat) (w : World) (hwh : wh < 256) (hkd : kd < 256) (hr : lexR s.toList = ([], 0, 0)) (r : Nat) (hr5 : kd % 5 = r) (hr3 : 3 ≤ r) (p : Nat) (hsp : s.size = p) (hp : p ≤ 8000)
    (hfin : p + (gapK r).size ≤ 8000 → ∀ s' : ByteArray, s'.toList = s.toList ++ (gapK r).toList → lexR s'.toList = ([], 0, 0)) :
    Calls Try.prog 4 #[.string s, .int .u8 wh, .int .u8 kd] w fun e w' => e = .returned (.bool true) ∧ Below w.heap.size w w' := by
  have HA := Lib.hid (fun W => Lex_raw s W (by unfold maxLen; omega) _ hr)
  have hr5i : (kd : Int) % 5 = (r : Int) := by rw [← hr5]; rfl
  have hr5b : r < 5 := by omega
  have hr3i : ¬ (r : Int) < 3 := by omega
  have HC := Lib.hid (fun W => gapK_cell W r hr5b)
  have hgs := gapK_size r
  have HF := Lib.hid hfin
  clear hr5 hr hfin
  by_cases h8 : 8000 < p + (gapK r).size
  · have h8i : (8000 : Int) < (p : Int) + ((gapK r).size : Int) := by omega
    clear HF
    generalize gapK r = G at *
    go_enter Try.func4, Try.ntmps4
    go_wp2_with (first | (go_at_call 14; refine (head_any _).mono ?_; rintro e w1 ⟨rfl, hb1⟩; have HW := Lib.hid hb1; clear hb1) | (go_at_call 15; fail))
    refine (HA.out _).mono ?_
    rintro e w2 ⟨va, rfl, sa, hb2⟩
    obtain ⟨pa, ca, rfl⟩ := row_form sa
    rw [show (([] : List Tok)).length = 0 from rfl]
    replace HW := Lib.hid (HW.out.trans (hb2.mono HW.out.size))
    clear sa hb2
    have hcell := HC.out w2
    go_wp2
    go_ret
    exact ⟨rfl, HW.out.alloc HW.out.size _⟩
  · have h8i : ¬ (8000 : Int) < (p : Int) + ((gapK r).size : Int) := by omega
    have hx1 : (s.extract 0 p).size = p := by rw [ByteArray.size_extract]; omega
    have hx2 : (s.extract p p).size = 0 := by rw [ByteArray.size_extract]; omega
    have hsz : (s.extract 0 p ++ gapK r).size ≤ maxLen := by
      unfold maxLen
      rw [ByteArray.size_append, hx1]
      omega
    have htl : (s.extract 0 p ++ gapK r).toList = s.toList ++ (gapK r).toList := by
      have e1 : (s.extract 0 p).toList = s.toList := by rw [tl_sub, List.drop_zero, Nat.sub_zero, List.take_of_length_le (by rw [tl_len]; omega)]
      have e3 : (s.extract 0 p ++ gapK r).toList = (s.extract 0 p).toList ++ (gapK r).toList := by
        simp only [tl, ByteArray.data_append]
        simp
      rw [e3, e1]
    have HL := Lib.hid (fun W => Lex_raw (s.extract 0 p ++ gapK r) W hsz _ (HF.out (by omega) _ htl))
    clear HF hsz htl
    generalize gapK r = G at *
    go_enter Try.func4, Try.ntmps4
    go_wp2_with (first | (go_at_call 14; refine (head_any _).mono ?_; rintro e w1 ⟨rfl, hb1⟩; have HW := Lib.hid hb1; clear hb1) | (go_at_call 15; fail))
    refine (HA.out _).mono ?_
    rintro e w2 ⟨va, rfl, sa, hb2⟩
    have C2 : Hid (∀ p q c c' y W, Calls Try.prog 17 #[.slice p 0 c, .slice q 0 c', .int .i64 y] W fun e w' => e = .returned (.bool true) ∧ Below W.heap.size W w') := Lib.hid (fun p q c c' y W => same_none p q c c' y W)
    have hcell := HC.out w2
    replace HW := Lib.hid (HW.out.trans (hb2.mono HW.out.size))
    rcases row_or sa rfl with ⟨h0, rfl⟩ | ⟨b, ca, rfl, hbl, hca, hcm, hrt⟩
    · clear sa hb2
      go_wp2
      clear hcell
      replace HW := Lib.hid (HW.out.alloc HW.out.size five)
      generalize w2.alloc _ = W3 at *
      go_region_with (go_at_call 15; refine (HL.out _).mono ?_; rintro e w5 ⟨vb, rfl, sb, hb5⟩)
      replace HW := Lib.hid ((HW.out.drew).trans (hb5.mono HW.out.size))
      rcases row_or sb rfl with ⟨h0, rfl⟩ | ⟨g, cb, rfl, hgl, hcb, hcbm, hrtb⟩
      · clear sb hb5
        go_wp2
        refine wp_region_quiet_below (by kernel_rfl) (by kernel_rfl) ?_
        repeat (go_big_quiet_step ((first | (go_at_call 17; (with_reducible exact Calls.regrown_of (C2.out _ _ _ _ _ _))))))
        refine wpQuiet_nil ?_
        intro _ hw'
        obtain ⟨⟨dq, osq⟩, hw''⟩ := hw'
        subst hw''
        go_wp2
        go_ret
        exact ⟨rfl, HW.out.trans ((below_regrown _ dq osq).mono HW.out.size)⟩
      · clear sb hb5 hrtb
        unfold maxLen at hcbm
        by_cases z2 : 0 = cb
        · subst z2
          go_wp2
          refine wp_region_quiet_below (by kernel_rfl) (by kernel_rfl) ?_
          repeat (go_big_quiet_step ((first | (go_at_call 17; (with_reducible exact Calls.regrown_of (C2.out _ _ _ _ _ _))))))
          refine wpQuiet_nil ?_
          intro _ hw'
          obtain ⟨⟨dq, osq⟩, hw''⟩ := hw'
          subst hw''
          go_wp2
          go_ret
          exact ⟨rfl, HW.out.trans ((below_regrown _ dq osq).mono HW.out.size)⟩
        · have z2l : 0 < cb := by omega
          go_wp2
          refine wp_region_quiet_below (by kernel_rfl) (by kernel_rfl) ?_
          repeat (go_big_quiet_step ((first | (go_at_call 17; (with_reducible exact Calls.regrown_of (C2.out _ _ _ _ _ _))))))
          refine wpQuiet_nil ?_
          intro _ hw'
          obtain ⟨⟨dq, osq⟩, hw''⟩ := hw'
          subst hw''
          go_wp2
          go_ret
          exact ⟨rfl, HW.out.trans ((below_regrown _ dq osq).mono HW.out.size)⟩
    · clear sa hb2 hrt
      unfold maxLen at hcm
      by_cases z1 : 0 = ca
      · subst z1
        go_wp2
        clear hcell
        replace HW := Lib.hid (HW.out.alloc HW.out.size five)
        generalize w2.alloc _ = W3 at *
        go_region_with (go_at_call 15; refine (HL.out _).mono ?_; rintro e w5 ⟨vb, rfl, sb, hb5⟩)
        replace HW := Lib.hid ((HW.out.drew).trans (hb5.mono HW.out.size))
        rcases row_or sb rfl with ⟨h0, rfl⟩ | ⟨g, cb, rfl, hgl, hcb, hcbm, hrtb⟩
        · clear sb hb5
          go_wp2
          refine wp_region_quiet_below (by kernel_rfl) (by kernel_rfl) ?_
          repeat (go_big_quiet_step ((first | (go_at_call 17; (with_reducible exact Calls.regrown_of (C2.out _ _ _ _ _ _))))))
          refine wpQuiet_nil ?_
          intro _ hw'
          obtain ⟨⟨dq, osq⟩, hw''⟩ := hw'
          subst hw''
          go_wp2
          go_ret
          exact ⟨rfl, HW.out.trans ((below_regrown _ dq osq).mono HW.out.size)⟩
        · clear sb hb5 hrtb
          unfold maxLen at hcbm
          by_cases z2 : 0 = cb
          · subst z2
            go_wp2
            refine wp_region_quiet_below (by kernel_rfl) (by kernel_rfl) ?_
            repeat (go_big_quiet_step ((first | (go_at_call 17; (with_reducible exact Calls.regrown_of (C2.out _ _ _ _ _ _))))))
            refine wpQuiet_nil ?_
            intro _ hw'
            obtain ⟨⟨dq, osq⟩, hw''⟩ := hw'
            subst hw''
            go_wp2
            go_ret
            exact ⟨rfl, HW.out.trans ((below_regrown _ dq osq).mono HW.out.size)⟩
          · have z2l : 0 < cb := by omega
            go_wp2
            refine wp_region_quiet_below (by kernel_rfl) (by kernel_rfl) ?_
            repeat (go_big_quiet_step ((first | (go_at_call 17; (with_reducible exact Calls.regrown_of (C2.out _ _ _ _ _ _))))))
            refine wpQuiet_nil ?_
            intro _ hw'
            obtain ⟨⟨dq, osq⟩, hw''⟩ := hw'
            subst hw''
            go_wp2
            go_ret
            exact ⟨rfl, HW.out.trans ((below_regrown _ dq osq).mono HW.out.size)⟩
      · have z1l : 0 < ca := by omega
        go_wp2
        clear hcell
        replace HW := Lib.hid (HW.out.alloc HW.out.size five)
        generalize w2.alloc _ = W3 at *
        go_region_with (go_at_call 15; refine (HL.out _).mono ?_; rintro e w5 ⟨vb, rfl, sb, hb5⟩)
        replace HW := Lib.hid ((HW.out.drew).trans (hb5.mono HW.out.size))
        rcases row_or sb rfl with ⟨h0, rfl⟩ | ⟨g, cb, rfl, hgl, hcb, hcbm, hrtb⟩
        · clear sb hb5
          go_wp2
          refine wp_region_quiet_below (by kernel_rfl) (by kernel_rfl) ?_
          repeat (go_big_quiet_step ((first | (go_at_call 17; (with_reducible exact Calls.regrown_of (C2.out _ _ _ _ _ _))))))
          refine wpQuiet_nil ?_
          intro _ hw'
          obtain ⟨⟨dq, osq⟩, hw''⟩ := hw'
          subst hw''
          go_wp2
          go_ret
          exact ⟨rfl, HW.out.trans ((below_regrown _ dq osq).mono HW.out.size)⟩
        · clear sb hb5 hrtb
          unfold maxLen at hcbm
          by_cases z2 : 0 = cb
          · subst z2
            go_wp2
            refine wp_region_quiet_below (by kernel_rfl) (by kernel_rfl) ?_
            repeat (go_big_quiet_step ((first | (go_at_call 17; (with_reducible exact Calls.regrown_of (C2.out _ _ _ _ _ _))))))
            refine wpQuiet_nil ?_
            intro _ hw'
            obtain ⟨⟨dq, osq⟩, hw''⟩ := hw'
            subst hw''
            go_wp2
            go_ret
            exact ⟨rfl, HW.out.trans ((below_regrown _ dq osq).mono HW.out.size)⟩
          · have z2l : 0 < cb := by omega
            go_wp2
            refine wp_region_quiet_below (by kernel_rfl) (by kernel_rfl) ?_
            repeat (go_big_quiet_step ((first | (go_at_call 17; (with_reducible exact Calls.regrown_of (C2.out _ _ _ _ _ _))))))
            refine wpQuiet_nil ?_
            intro _ hw'
            obtain ⟨⟨dq, osq⟩, hw''⟩ := hw'
            subst hw''
            go_wp2
            go_ret
            exact ⟨rfl, HW.out.trans ((below_regrown _ dq osq).mono HW.out.size)⟩
end Gaps
end Go.Proofs.Ytggcnpmniidgkaa
