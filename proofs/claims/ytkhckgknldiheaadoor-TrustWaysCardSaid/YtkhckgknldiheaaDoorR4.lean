/- The contract of fits of package record; no condition beyond those that each theorem names. -/
import Derived.Test.YtkhckgknldiheaaDoorR3
namespace Go.Proofs.YtkhckgknldiheaaDoor
set_option linter.unusedSimpArgs false
set_option linter.unusedVariables false
open Go.RowKit
open NmP

/-- A name that begins with the sign of a wildcard. -/
def wildB (l : Bs) : Bool := l[0]? == some 42
theorem wild_any (x : ByteArray) (w : World) (h : 1 ≤ x.size) (hx : x.size ≤ 100) : Calls Tryd.prog 65 #[.string x] w fun e w' => e = .returned (.bool (wildB x.toList)) ∧ w = w' := by
  have e : wildB x.toList = decide ((x[0]'(by omega)).toNat = 42) := by unfold wildB; rw [tl_get x 0 (by omega), some_c]; rfl
  rw [e]
  by_cases q : (x[0]'(by omega)).toNat = 42
  · have hb : (((x[0]'(by omega)).toNat : Int) == 42) = true := by rw [q]; rfl
    rw [decide_eq_true q]
    clear q e
    go_enter Tryd.func65, Tryd.ntmps65
    go_wp2
    go_ret
    exact ⟨rfl, rfl⟩
  · have hb : (((x[0]'(by omega)).toNat : Int) == 42) = false := beq_eq_false_iff_ne.2 (by omega)
    rw [decide_eq_false q]
    clear q e
    go_enter Tryd.func65, Tryd.ntmps65
    go_wp2
    go_ret
    exact ⟨rfl, rfl⟩
/-- A datum keeps a rule: k says what its text is. -/
def textB (k : Int) (l : Bs) : Bool := if k = 1 then validB l && !wildB l else if k = 3 then validB l else if k = 2 then plainB l else l.isEmpty
def fitsB (k lN mN lM mM typ : Int) (l : Bs) (n m : Int) : Bool := (decide (lN ≤ n) && decide (n ≤ mN)) && (decide (lM ≤ m) && decide (m ≤ mM)) && !(decide (typ = 8) && !decide (n % 2 = 0)) && textB k l
theorem valid_small {l : Bs} (h : validB l = true) : 1 ≤ l.length ∧ l.length ≤ 60 := (valid_len h).2
set_option maxHeartbeats 1000000 in
theorem fits_any (k lN mN lM mM typ n m : Int) (x : ByteArray) (b1 b2 : Bool) (w : World) (hx : x.size ≤ maxLen) (hN : 0 ≤ lN) :
    Calls Tryd.prog 66 #[.agg #[.string x, .int .i64 n, .int .i64 m], .agg #[.int .i64 k, .int .i64 lN, .int .i64 mN, .int .i64 lM, .int .i64 mM, .bool b1, .bool b2], .int .i64 typ] w fun e w' => e = .returned (.bool (fitsB k lN mN lM mM typ x.toList n m)) ∧ Below w.heap.size w w' := by
  obtain ⟨R, hR⟩ : ∃ R, fitsB k lN mN lM mM typ x.toList n m = R := ⟨_, rfl⟩
  rw [hR]
  unfold fitsB at hR
  have C1 := Lib.hid (fun W => within_any n lN mN W)
  have C2 := Lib.hid (fun W => within_any m lM mM W)
  have CV := Lib.hid (fun W => valid_any x W hx)
  have CP := Lib.hid (fun W => plain_any x W hx)
  have hb2 : Below w.heap.size w ((w.alloc (.cells #[.string x, .int .i64 n, .int .i64 m] 65)).alloc (.cells #[.int .i64 k, .int .i64 lN, .int .i64 mN, .int .i64 lM, .int .i64 mM, .bool b1, .bool b2] 101)) := ((Below.refl _ w).alloc (Nat.le_refl _) _).alloc (by simp) _
  have HB := Lib.hid hb2
  by_cases q1 : lN ≤ n ∧ n ≤ mN
  case neg =>
    rw [show (decide (lN ≤ n) && decide (n ≤ mN)) = false by rw [Bool.eq_false_iff]; intro z; simp at z; exact q1 z] at C1 hR
    obtain rfl : R = false := by rw [← hR]; rfl
    clear hR q1 hb2
    go_enter Tryd.func66, Tryd.ntmps66
    go_wp2_with (go_at_call 64; (with_reducible refine (C1.out _).mono ?_); rintro e w1 ⟨rfl, rfl⟩)
    go_ret
    exact ⟨rfl, HB.out⟩
  have hn0 : 0 ≤ n := by omega
  rw [show (decide (lN ≤ n) && decide (n ≤ mN)) = true by simpa using q1] at C1 hR
  by_cases q2 : lM ≤ m ∧ m ≤ mM
  case neg =>
    rw [show (decide (lM ≤ m) && decide (m ≤ mM)) = false by rw [Bool.eq_false_iff]; intro z; simp at z; exact q2 z] at C2 hR
    obtain rfl : R = false := by rw [← hR]; rfl
    clear hR q1 q2 hb2
    go_enter Tryd.func66, Tryd.ntmps66
    go_wp2_with (go_at_call 64; first | ((with_reducible refine (C1.out _).mono ?_); rintro e w1 ⟨rfl, rfl⟩) | ((with_reducible refine (C2.out _).mono ?_); rintro e w1 ⟨rfl, rfl⟩))
    go_ret
    exact ⟨rfl, HB.out⟩
  rw [show (decide (lM ≤ m) && decide (m ≤ mM)) = true by simpa using q2] at C2 hR
  by_cases q3 : typ = 8
  · subst q3
    by_cases q4 : n % 2 = 0
    · have y1 : (n % 2 != 0) = false := by rw [q4]; rfl
      rw [show (decide ((8 : Int) = 8) && !decide (n % 2 = 0)) = false by simp [q4]] at hR
      by_cases p1 : k = 1
      · subst p1
        rw [show textB 1 x.toList = (validB x.toList && !wildB x.toList) from if_pos rfl] at hR
        cases hv : validB x.toList
        · rw [hv] at hR CV
          obtain rfl : R = false := by rw [← hR]; rfl
          clear hR hv CP hb2
          go_enter Tryd.func66, Tryd.ntmps66
          go_wp2_with (first | (go_at_call 64; first | ((with_reducible refine (C1.out _).mono ?_); rintro e w1 ⟨rfl, rfl⟩) | ((with_reducible refine (C2.out _).mono ?_); rintro e w1 ⟨rfl, rfl⟩)) | (go_at_call 32; refine (CV.out _).mono ?_; rintro e w1 ⟨rfl, rfl⟩))
          go_ret
          exact ⟨rfl, HB.out⟩
        · have hl := valid_small hv
          rw [tl_len] at hl
          have CW := Lib.hid (fun W => wild_any x W hl.1 (by omega))
          rw [hv] at hR CV
          obtain ⟨r, hr⟩ : ∃ r, wildB x.toList = r := ⟨_, rfl⟩
          rw [hr] at hR CW
          obtain rfl : R = !r := by rw [← hR]; cases r <;> rfl
          clear hR hv hr hl CP hb2
          cases r
          all_goals
            go_enter Tryd.func66, Tryd.ntmps66
            go_wp2_with (first | (go_at_call 64; first | ((with_reducible refine (C1.out _).mono ?_); rintro e w1 ⟨rfl, rfl⟩) | ((with_reducible refine (C2.out _).mono ?_); rintro e w1 ⟨rfl, rfl⟩)) | (go_at_call 32; refine (CV.out _).mono ?_; rintro e w1 ⟨rfl, rfl⟩) | (go_at_call 65; refine (CW.out _).mono ?_; rintro e w1 ⟨rfl, rfl⟩))
            go_ret
            exact ⟨rfl, HB.out⟩
      · have z1 : (k == 1) = false := beq_eq_false_iff_ne.2 p1
        by_cases p3 : k = 3
        · subst p3
          rw [show textB 3 x.toList = validB x.toList by unfold textB; rw [if_neg (by decide), if_pos rfl]] at hR
          obtain rfl : R = validB x.toList := by rw [← hR]; simp
          clear hR hb2 CP
          generalize validB x.toList = r at *
          go_enter Tryd.func66, Tryd.ntmps66
          go_wp2_with (first | (go_at_call 64; first | ((with_reducible refine (C1.out _).mono ?_); rintro e w1 ⟨rfl, rfl⟩) | ((with_reducible refine (C2.out _).mono ?_); rintro e w1 ⟨rfl, rfl⟩)) | (go_at_call 32; refine (CV.out _).mono ?_; rintro e w1 ⟨rfl, rfl⟩))
          go_ret
          exact ⟨rfl, HB.out⟩
        · have z3 : (k == 3) = false := beq_eq_false_iff_ne.2 p3
          by_cases p2 : k = 2
          · subst p2
            rw [show textB 2 x.toList = plainB x.toList by unfold textB; rw [if_neg (by decide), if_neg (by decide), if_pos rfl]] at hR
            obtain rfl : R = plainB x.toList := by rw [← hR]; simp
            clear hR hb2 CV
            generalize plainB x.toList = r at *
            go_enter Tryd.func66, Tryd.ntmps66
            go_wp2_with (first | (go_at_call 64; first | ((with_reducible refine (C1.out _).mono ?_); rintro e w1 ⟨rfl, rfl⟩) | ((with_reducible refine (C2.out _).mono ?_); rintro e w1 ⟨rfl, rfl⟩)) | (go_at_call 83; refine (CP.out _).mono ?_; rintro e w1 ⟨rfl, rfl⟩))
            go_ret
            exact ⟨rfl, HB.out⟩
          · have z2 : (k == 2) = false := beq_eq_false_iff_ne.2 p2
            rw [show textB k x.toList = x.toList.isEmpty by unfold textB; rw [if_neg p1, if_neg p3, if_neg p2]] at hR
            obtain rfl : R = x.toList.isEmpty := by rw [← hR]; simp
            clear hR hb2 CV CP p1 p2 p3
            go_enter Tryd.func66, Tryd.ntmps66
            go_wp2_with (first | (go_at_call 64; first | ((with_reducible refine (C1.out _).mono ?_); rintro e w1 ⟨rfl, rfl⟩) | ((with_reducible refine (C2.out _).mono ?_); rintro e w1 ⟨rfl, rfl⟩)))
            go_ret
            exact ⟨rfl, HB.out⟩
    · have y1 : (n % 2 != 0) = true := by rw [bne_iff_ne]; exact q4
      rw [show (decide ((8 : Int) = 8) && !decide (n % 2 = 0)) = true by simp [q4]] at hR
      obtain rfl : R = false := by rw [← hR]; rfl
      clear hR q4 hb2 CV CP
      go_enter Tryd.func66, Tryd.ntmps66
      go_wp2_with (first | (go_at_call 64; first | ((with_reducible refine (C1.out _).mono ?_); rintro e w1 ⟨rfl, rfl⟩) | ((with_reducible refine (C2.out _).mono ?_); rintro e w1 ⟨rfl, rfl⟩)))
      go_ret
      exact ⟨rfl, HB.out⟩
  · have y2 : (typ == 8) = false := beq_eq_false_iff_ne.2 q3
    rw [show (decide (typ = 8) && !decide (n % 2 = 0)) = false by simp [q3]] at hR
    clear q3
    by_cases p1 : k = 1
    · subst p1
      rw [show textB 1 x.toList = (validB x.toList && !wildB x.toList) from if_pos rfl] at hR
      cases hv : validB x.toList
      · rw [hv] at hR CV
        obtain rfl : R = false := by rw [← hR]; rfl
        clear hR hv CP hb2
        go_enter Tryd.func66, Tryd.ntmps66
        go_wp2_with (first | (go_at_call 64; first | ((with_reducible refine (C1.out _).mono ?_); rintro e w1 ⟨rfl, rfl⟩) | ((with_reducible refine (C2.out _).mono ?_); rintro e w1 ⟨rfl, rfl⟩)) | (go_at_call 32; refine (CV.out _).mono ?_; rintro e w1 ⟨rfl, rfl⟩))
        go_ret
        exact ⟨rfl, HB.out⟩
      · have hl := valid_small hv
        rw [tl_len] at hl
        have CW := Lib.hid (fun W => wild_any x W hl.1 (by omega))
        rw [hv] at hR CV
        obtain ⟨r, hr⟩ : ∃ r, wildB x.toList = r := ⟨_, rfl⟩
        rw [hr] at hR CW
        obtain rfl : R = !r := by rw [← hR]; cases r <;> rfl
        clear hR hv hr hl CP hb2
        cases r
        all_goals
          go_enter Tryd.func66, Tryd.ntmps66
          go_wp2_with (first | (go_at_call 64; first | ((with_reducible refine (C1.out _).mono ?_); rintro e w1 ⟨rfl, rfl⟩) | ((with_reducible refine (C2.out _).mono ?_); rintro e w1 ⟨rfl, rfl⟩)) | (go_at_call 32; refine (CV.out _).mono ?_; rintro e w1 ⟨rfl, rfl⟩) | (go_at_call 65; refine (CW.out _).mono ?_; rintro e w1 ⟨rfl, rfl⟩))
          go_ret
          exact ⟨rfl, HB.out⟩
    · have z1 : (k == 1) = false := beq_eq_false_iff_ne.2 p1
      by_cases p3 : k = 3
      · subst p3
        rw [show textB 3 x.toList = validB x.toList by unfold textB; rw [if_neg (by decide), if_pos rfl]] at hR
        obtain rfl : R = validB x.toList := by rw [← hR]; simp
        clear hR hb2 CP
        generalize validB x.toList = r at *
        go_enter Tryd.func66, Tryd.ntmps66
        go_wp2_with (first | (go_at_call 64; first | ((with_reducible refine (C1.out _).mono ?_); rintro e w1 ⟨rfl, rfl⟩) | ((with_reducible refine (C2.out _).mono ?_); rintro e w1 ⟨rfl, rfl⟩)) | (go_at_call 32; refine (CV.out _).mono ?_; rintro e w1 ⟨rfl, rfl⟩))
        go_ret
        exact ⟨rfl, HB.out⟩
      · have z3 : (k == 3) = false := beq_eq_false_iff_ne.2 p3
        by_cases p2 : k = 2
        · subst p2
          rw [show textB 2 x.toList = plainB x.toList by unfold textB; rw [if_neg (by decide), if_neg (by decide), if_pos rfl]] at hR
          obtain rfl : R = plainB x.toList := by rw [← hR]; simp
          clear hR hb2 CV
          generalize plainB x.toList = r at *
          go_enter Tryd.func66, Tryd.ntmps66
          go_wp2_with (first | (go_at_call 64; first | ((with_reducible refine (C1.out _).mono ?_); rintro e w1 ⟨rfl, rfl⟩) | ((with_reducible refine (C2.out _).mono ?_); rintro e w1 ⟨rfl, rfl⟩)) | (go_at_call 83; refine (CP.out _).mono ?_; rintro e w1 ⟨rfl, rfl⟩))
          go_ret
          exact ⟨rfl, HB.out⟩
        · have z2 : (k == 2) = false := beq_eq_false_iff_ne.2 p2
          rw [show textB k x.toList = x.toList.isEmpty by unfold textB; rw [if_neg p1, if_neg p3, if_neg p2]] at hR
          obtain rfl : R = x.toList.isEmpty := by rw [← hR]; simp
          clear hR hb2 CV CP p1 p2 p3
          go_enter Tryd.func66, Tryd.ntmps66
          go_wp2_with (first | (go_at_call 64; first | ((with_reducible refine (C1.out _).mono ?_); rintro e w1 ⟨rfl, rfl⟩) | ((with_reducible refine (C2.out _).mono ?_); rintro e w1 ⟨rfl, rfl⟩)))
          go_ret
          exact ⟨rfl, HB.out⟩
end Go.Proofs.YtkhckgknldiheaaDoor
