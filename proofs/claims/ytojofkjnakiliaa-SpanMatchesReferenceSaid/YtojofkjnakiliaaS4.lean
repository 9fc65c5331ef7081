/- The contracts of Valid, Same and Has of the reference of package span; no condition beyond those that each theorem names. -/
import Derived.Test.YtojofkjnakiliaaS3
namespace Go.Proofs.Ytojofkjnakiliaa
open Go.RowKit
open SpP

theorem rvalid_none (p : Option Addr) (c : Nat) (w : World) : Calls Try.prog 23 #[.slice p 0 c] w fun e w' => e = .returned (.bool true) ∧ Below w.heap.size w w' := by
  go_enter Try.func23, Try.ntmps23
  go_wp2
  refine wp_loop_rounds 1 ?_
  rw [rounds_succ]
  go_wp2
  go_ret
  exact ⟨rfl, Below.refl _ _⟩

set_option maxHeartbeats 2000000 in
set_option maxRecDepth 100000 in
theorem rvalid_row (l : List Sp) (b off c : Nat) (w : World) (hn : l.length ≤ maxLen) (hb : b < w.heap.size) (hA : RS b off l w) :
    Calls Try.prog 23 #[.slice (some ⟨b, off, none⟩) l.length c] w fun e w' => e = .returned (.bool (validB l)) ∧ Below w.heap.size w w' := by
  unfold maxLen at hn
  have hv : validB l = (vFrom (-1) l && decide (l.length ≤ 20000)) := Bool.and_comm _ _
  rw [hv]
  obtain ⟨n, hln⟩ : ∃ n, l.length = n := ⟨_, rfl⟩
  rw [hln]
  rw [hln] at hn
  have hdn : decide (n ≤ 20000) = decide ((n : Int) ≤ 20000) := by rw [decide_eq_decide]; omega
  rw [hdn]
  have HL := Lib.hid hln
  have HA := Lib.hid hA
  generalize hR : vFrom (-1) l = R
  have HR := Lib.hid hR
  clear hA hR hln hv hdn
  go_enter Try.func23, Try.ntmps23
  go_wp2
  go_loopw [3] (fun s3 wr => ∃ i : Nat, i ≤ n ∧ s3 = .int .i64 i ∧ Hid (vFrom (lastEnd l i) (l.drop i) = R) ∧ Hid (-1 ≤ lastEnd l i) ∧ Hid (Below w.heap.size w wr)) (fun s3 _ => n - (intOf s3).toNat)
  case atStart => exact ⟨0, Nat.zero_le _, rfl, HR, Lib.hid (by show (-1 : Int) ≤ -1; omega), Lib.hid (Below.refl _ _)⟩
  case round =>
    obtain ⟨i, hi, rfl, HS, HE, HW⟩ := hrel
    by_cases h1 : i < n
    · have ia : i < l.length := by rw [HL.out]; exact h1
      have ga : l[i]? = some l[i] := List.getElem?_eq_getElem ia
      obtain ⟨a0, a1⟩ := (HA.out.keep hb HW.out).at_ ga
      have hdr := drop_of ga
      have hle := lastEnd_succ ga
      have hS := HS.out
      rw [hdr] at hS
      have h10 : (i : Int) < (n : Int) := by omega
      have h13 : (0 : Int) ≤ (i : Int) := by omega
      generalize l[i] = s at *
      obtain ⟨x, y⟩ := s
      simp only at a0 a1 hle
      have hlo := HE.out
      have HLE := Lib.hid hle
      clear hle hdr ga
      by_cases q0 : x < 0
      · have d0 : decide (x < 0) = true := by simpa using q0
        rw [vFrom_bad (by simp only; omega)] at hS
        subst hS
        clear hlo HR
        go_wp2
        go_quiet (fail)
        go_wp2
        go_ret
        exact ⟨rfl, below_drewN HW.out _⟩
      · have d0 : decide (x < 0) = false := by simpa using q0
        by_cases q1 : x < y
        · have n1 : ¬ y ≤ x := by omega
          have d1 : decide (y ≤ x) = false := by simpa using q1
          by_cases q2 : y ≤ top
          · have q2' : y ≤ 20000000 := q2
            have n2 : ¬ 20000000 < y := by omega
            have d2 : decide (20000000 < y) = false := by simpa using q2'
            cases i with
            | zero =>
              have d3 : decide ((0 : Int) < 0) = false := rfl
              rw [vFrom_good ⟨by simp only; show (-1 : Int) < x; omega, q1, q2⟩] at hS
              have HS2 := Lib.hid hS
              clear hS hlo HR
              simp only [Nat.zero_mul, Nat.add_zero] at a0 a1
              have h14 : (0 : Int) < (n : Int) := by omega
              go_wp2
              go_quiet (fail)
              go_wp2
              go_roundw
              case rel => exact ⟨1, h1, rfl, Lib.hid (by rw [HLE.out]; exact HS2.out), Lib.hid (by rw [HLE.out]; omega), Lib.hid (below_drewN HW.out _)⟩
              case measure =>
                simp [intOf]
                omega
            | succ k =>
              have hk : k < l.length := by omega
              have gk : l[k]? = some l[k] := List.getElem?_eq_getElem hk
              obtain ⟨_, b1⟩ := (HA.out.keep hb HW.out).at_ gk
              have hlk := lastEnd_succ gk
              rw [hlk] at hS hlo
              generalize l[k].2 = z at *
              have d3 : decide ((0 : Int) < (k : Int) + 1) = true := by rw [decide_eq_true_eq]; omega
              have h11 : (k : Int) + 1 < (n : Int) := by omega
              have h12 : (k : Int) < (n : Int) := by omega
              have w1 : IntKind.i64.wrap ((k : Int) + 1 - 1) = (k : Int) := by
                rw [Int.add_sub_cancel]
                exact IntWalk.i64_in _ (by omega)
              have w2 : IntKind.i64.wrap (k : Int) = (k : Int) := IntWalk.i64_in _ (by omega)
              rw [Int.natCast_add, Int.natCast_one]
              by_cases q3 : z < x
              · have n3 : ¬ x ≤ z := by omega
                have d4 : decide (x ≤ z) = false := by simpa using q3
                rw [vFrom_good ⟨q3, q1, q2⟩] at hS
                have HS2 := Lib.hid hS
                clear hS hlo HR hlk gk
                go_wp2
                go_quiet (fail)
                go_wp2
                go_roundw
                case rel => exact ⟨k + 2, by omega, by go_num, Lib.hid (by rw [HLE.out]; exact HS2.out), Lib.hid (by rw [HLE.out]; omega), Lib.hid (below_drewN HW.out _)⟩
                case measure => simp [intOf]; omega
              · have n3 : x ≤ z := by omega
                have d4 : decide (x ≤ z) = true := by simpa using n3
                rw [vFrom_bad (by simp only; omega)] at hS
                subst hS
                clear hlo HR hlk gk
                go_wp2
                go_quiet (fail)
                go_wp2
                go_ret
                exact ⟨rfl, below_drewN HW.out _⟩
          · have q2' : ¬ y ≤ 20000000 := q2
            have n2 : 20000000 < y := by omega
            have d2 : decide (20000000 < y) = true := by simpa using n2
            rw [vFrom_bad (fun q => q2 q.2.2)] at hS
            subst hS
            clear hlo HR
            go_wp2
            go_quiet (fail)
            go_wp2
            go_ret
            exact ⟨rfl, below_drewN HW.out _⟩
        · have n1 : y ≤ x := by omega
          have d1 : decide (y ≤ x) = true := by simpa using n1
          rw [vFrom_bad (fun q => q1 q.2.1)] at hS
          subst hS
          clear hlo HR
          go_wp2
          go_quiet (fail)
          go_wp2
          go_ret
          exact ⟨rfl, below_drewN HW.out _⟩
    · obtain rfl : i = n := by omega
      have hT : R = true := by
        have := HS.out
        rw [List.drop_eq_nil_of_le (by rw [HL.out]; exact Nat.le_refl _)] at this
        exact this.symm
      subst hT
      go_wp2
      go_ret
      exact ⟨rfl, HW.out⟩
theorem rvalid_any {v : Value} {l : List Sp} {w : World} (h : SlS v l w) (hn : l.length ≤ maxLen) :
    Calls Try.prog 23 #[v] w fun e w' => e = .returned (.bool (validB l)) ∧ Below w.heap.size w w' := by
  rcases h with ⟨rfl, p, c, rfl⟩ | ⟨b, off, c, rfl, h1, h2⟩
  · exact rvalid_none p c w
  · exact rvalid_row l b off c w hn h1 h2

theorem same_diff (p q : Option Addr) (n m c d : Nat) (w : World) (h : n ≠ m) :
    Calls Try.prog 13 #[.slice p n c, .slice q m d] w fun e w' => e = .returned (.bool false) ∧ Below w.heap.size w w' := by
  have hq : ((n : Int) == (m : Int)) = false := beq_eq_false_iff_ne.2 (by omega)
  go_enter Try.func13, Try.ntmps13
  go_wp2
  go_ret
  exact ⟨rfl, Below.refl _ _⟩
theorem same_none (p q : Option Addr) (c d : Nat) (w : World) :
    Calls Try.prog 13 #[.slice p 0 c, .slice q 0 d] w fun e w' => e = .returned (.bool true) ∧ Below w.heap.size w w' := by
  go_enter Try.func13, Try.ntmps13
  go_wp2
  refine wp_loop_rounds 1 ?_
  rw [rounds_succ]
  go_wp2
  go_ret
  exact ⟨rfl, Below.refl _ _⟩

set_option maxHeartbeats 2000000 in
set_option maxRecDepth 100000 in
theorem same_row (la lb : List Sp) (ba oa ca bb ob cb : Nat) (w : World) (hn : la.length ≤ maxLen) (hl : la.length = lb.length)
    (ha : ba < w.heap.size) (hb : bb < w.heap.size) (hA : RS ba oa la w) (hB : RS bb ob lb w) :
    Calls Try.prog 13 #[.slice (some ⟨ba, oa, none⟩) la.length ca, .slice (some ⟨bb, ob, none⟩) lb.length cb] w fun e w' => e = .returned (.bool (decide (la = lb))) ∧ Below w.heap.size w w' := by
  unfold maxLen at hn
  obtain ⟨n, hln⟩ : ∃ n, la.length = n := ⟨_, rfl⟩
  have hlm : lb.length = n := by omega
  rw [hln, hlm]
  rw [hln] at hn
  have HL := Lib.hid hln
  have HM := Lib.hid hlm
  have HA := Lib.hid hA
  have HB := Lib.hid hB
  generalize hR : decide (la = lb) = R
  have HR := Lib.hid hR
  clear hA hB hR hl hln hlm
  go_enter Try.func13, Try.ntmps13
  go_wp2
  go_loopw [5] (fun s5 wr => ∃ i : Nat, i ≤ n ∧ s5 = .int .i64 i ∧ Hid (decide (la.drop i = lb.drop i) = R) ∧ Hid (Below w.heap.size w wr)) (fun s5 _ => n - (intOf s5).toNat)
  case atStart => exact ⟨0, Nat.zero_le _, rfl, HR, Lib.hid (Below.refl _ _)⟩
  case round =>
    obtain ⟨i, hi, rfl, HS, HW⟩ := hrel
    by_cases h1 : i < n
    · have ia : i < la.length := by rw [HL.out]; exact h1
      have ib : i < lb.length := by rw [HM.out]; exact h1
      have ga : la[i]? = some la[i] := List.getElem?_eq_getElem ia
      have gb : lb[i]? = some lb[i] := List.getElem?_eq_getElem ib
      obtain ⟨a0, a1⟩ := (HA.out.keep ha HW.out).at_ ga
      obtain ⟨b0, b1⟩ := (HB.out.keep hb HW.out).at_ gb
      have hS := HS.out
      rw [drop_of ga, drop_of gb] at hS
      generalize la[i] = ta at *
      generalize lb[i] = tb at *
      obtain ⟨x, y⟩ := ta
      obtain ⟨u, v⟩ := tb
      simp only at a0 a1 b0 b1
      have hi1 : (i : Int) < (n : Int) := by omega
      have hi0 : (0 : Int) ≤ (i : Int) := by omega
      clear ga gb HR
      by_cases q0 : x = u
      · have z0 : (x == u) = true := by rw [q0]; simp
        by_cases q1 : y = v
        · have z1 : (y == v) = true := by rw [q1]; simp
          have HF : Hid (decide (la.drop (i + 1) = lb.drop (i + 1)) = R) := Lib.hid (by rw [← hS]; simp [q0, q1])
          clear hS q0 q1
          go_wp2
          go_quiet (fail)
          go_wp2
          go_roundw
          case rel => exact ⟨i + 1, by omega, by go_num, HF, Lib.hid (below_drewN HW.out _)⟩
          case measure => simp [intOf]; omega
        · have z1 : (y == v) = false := by simpa using q1
          obtain rfl : R = false := by rw [← hS]; simp [q1]
          clear hS q0
          go_wp2
          go_quiet (fail)
          go_wp2
          go_ret
          exact ⟨rfl, below_drewN HW.out _⟩
      · have z0 : (x == u) = false := by simpa using q0
        obtain rfl : R = false := by rw [← hS]; simp [q0]
        clear hS
        go_wp2
        go_quiet (fail)
        go_wp2
        go_ret
        exact ⟨rfl, below_drewN HW.out _⟩
    · obtain rfl : i = n := by omega
      have hT : R = true := by
        have := HS.out
        rw [List.drop_eq_nil_of_le (by rw [HL.out]; exact Nat.le_refl _), List.drop_eq_nil_of_le (by rw [HM.out]; exact Nat.le_refl _)] at this
        exact this.symm
      subst hT
      go_wp2
      go_ret
      exact ⟨rfl, HW.out⟩
theorem same_any {la lb : List Sp} {va vb : Value} {w : World} (ha : SlS va la w) (hb : SlS vb lb w) (hn : la.length ≤ maxLen) :
    Calls Try.prog 13 #[va, vb] w fun e w' => e = .returned (.bool (decide (la = lb))) ∧ Below w.heap.size w w' := by
  by_cases hl : la.length = lb.length
  · rcases ha with ⟨rfl, p, c, rfl⟩ | ⟨b1, o1, c1, rfl, l1, r1⟩
    · obtain rfl : lb = [] := List.eq_nil_of_length_eq_zero (by simpa using hl.symm)
      obtain ⟨q, d, rfl⟩ := hb.form
      exact same_none p q c d w
    · rcases hb with ⟨rfl, q, d, rfl⟩ | ⟨b2, o2, c2, rfl, l2, r2⟩
      · obtain rfl : la = [] := List.eq_nil_of_length_eq_zero (by simpa using hl)
        exact same_none _ q _ d w
      · exact same_row la lb b1 o1 c1 b2 o2 c2 w hn hl l1 l2 r1 r2
  · obtain ⟨p, c, rfl⟩ := ha.form
    obtain ⟨q, d, rfl⟩ := hb.form
    have : decide (la = lb) = false := by rw [decide_eq_false_iff_not]; intro e; rw [e] at hl; exact hl rfl
    rw [this]
    exact same_diff p q _ _ c d w hl
end Go.Proofs.Ytojofkjnakiliaa
