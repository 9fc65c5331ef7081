/- The contract of Grow of the reference of package span; no condition beyond those that each theorem names. -/
import Derived.Test.YtojofkjnakiliaaS20
namespace Go.Proofs.Ytojofkjnakiliaa
open Go.RowKit Go.Shelf
open SpP

theorem grown_cons (s : Sp) (r : List Sp) (b a : Int) : grown (s :: r) b a = (max 0 (s.1 - b), min 20000000 (s.2 + a)) :: grown r b a := rfl

theorem rgrow_bad {v : Value} {l : List Sp} {w : World} (h : SlS v l w) (hn : l.length ≤ 900) (b a : Int) (hv : validB l = false ∨ b < 0 ∨ 20000000 < b ∨ a < 0 ∨ 20000000 < a) :
    Calls Try.prog 21 #[v, .int .i64 b, .int .i64 a] w (ResPost ([], 1) w) := by
  have HVA := Lib.hid (rvalid_any h (by unfold maxLen; omega))
  obtain ⟨p, c, rfl⟩ := h.form
  clear h
  cases qa : validB l
  · rw [qa] at HVA
    clear qa hv
    go_enter Try.func21, Try.ntmps21
    go_wp2_with (go_at_call 23; refine HVA.out.mono ?_; rintro e w1 ⟨rfl, hb1⟩; have HB1 := Lib.hid hb1; clear hb1)
    go_ret2
    exact ⟨_, rfl, SlS.nil none 0 _, HB1.out⟩
  · rw [qa] at HVA hv
    have hv : b < 0 ∨ 20000000 < b ∨ a < 0 ∨ 20000000 < a := by simpa using hv
    clear qa
    by_cases q0 : b < 0
    · have d0 : decide (b < 0) = true := by simpa using q0
      clear hv
      go_enter Try.func21, Try.ntmps21
      go_wp2_with (go_at_call 23; refine HVA.out.mono ?_; rintro e w1 ⟨rfl, hb1⟩; have HB1 := Lib.hid hb1; clear hb1)
      go_ret2
      exact ⟨_, rfl, SlS.nil none 0 _, HB1.out⟩
    · have d0 : decide (b < 0) = false := by simpa using q0
      by_cases q1 : 20000000 < b
      · have d1 : decide (20000000 < b) = true := by simpa using q1
        clear hv
        go_enter Try.func21, Try.ntmps21
        go_wp2_with (go_at_call 23; refine HVA.out.mono ?_; rintro e w1 ⟨rfl, hb1⟩; have HB1 := Lib.hid hb1; clear hb1)
        go_ret2
        exact ⟨_, rfl, SlS.nil none 0 _, HB1.out⟩
      · have d1 : decide (20000000 < b) = false := by simpa using q1
        by_cases q2 : a < 0
        · have d2 : decide (a < 0) = true := by simpa using q2
          clear hv
          go_enter Try.func21, Try.ntmps21
          go_wp2_with (go_at_call 23; refine HVA.out.mono ?_; rintro e w1 ⟨rfl, hb1⟩; have HB1 := Lib.hid hb1; clear hb1)
          go_ret2
          exact ⟨_, rfl, SlS.nil none 0 _, HB1.out⟩
        · have d2 : decide (a < 0) = false := by simpa using q2
          have q3 : 20000000 < a := by omega
          have d3 : decide (20000000 < a) = true := by simpa using q3
          clear hv
          go_enter Try.func21, Try.ntmps21
          go_wp2_with (go_at_call 23; refine HVA.out.mono ?_; rintro e w1 ⟨rfl, hb1⟩; have HB1 := Lib.hid hb1; clear hb1)
          go_ret2
          exact ⟨_, rfl, SlS.nil none 0 _, HB1.out⟩

set_option maxHeartbeats 2000000 in
set_option maxRecDepth 100000 in
theorem rgrow_good {v : Value} {l : List Sp} {w : World} (h : SlS v l w) (hn : l.length ≤ 900) (b a : Int) (qa : validB l = true) (b0 : 0 ≤ b) (b1 : b ≤ 20000000) (a0 : 0 ≤ a) (a1 : a ≤ 20000000) :
    Calls Try.prog 21 #[v, .int .i64 b, .int .i64 a] w (ResPost (nrm (grown l b a), 0) w) := by
  have HVA := Lib.hid (rvalid_any h (by unfold maxLen; omega))
  rw [qa] at HVA
  have hin := ((validB_iff l).1 qa).2.inR
  rw [← all_eq (grown_inR' hin b0 a0)]
  have HIR := Lib.hid hin
  obtain ⟨R, hR⟩ : ∃ R, allL (grown l b a) = R := ⟨_, rfl⟩
  rw [hR]
  have HR : Hid ((grown (l.drop 0) b a).foldl wth [] = R) := Lib.hid hR
  obtain ⟨p, c, rfl⟩ := h.form
  have SA := Lib.hid h
  obtain ⟨n, hln⟩ : ∃ n, l.length = n := ⟨_, rfl⟩
  rw [hln] at hn SA HVA ⊢
  have HL := Lib.hid hln
  have d0 : decide (b < 0) = false := by simpa using b0
  have d1 : decide (20000000 < b) = false := by simpa using b1
  have d2 : decide (a < 0) = false := by simpa using a0
  have d3 : decide (20000000 < a) = false := by simpa using a1
  clear h hln hR qa hin
  go_enter Try.func21, Try.ntmps21
  go_wp2_with (go_at_call 23; refine HVA.out.mono ?_; rintro e w1 ⟨rfl, hb1⟩; have HB1 := Lib.hid hb1; clear hb1)
  clear HVA
  go_loopw [8, 9] (fun s3 s4 wr => ∃ (i k : Nat) (p3 : Option Addr) (c3 : Nat) (o : List Sp), i ≤ n ∧ s3 = .slice p3 k c3 ∧ s4 = .int .i64 i ∧ k ≤ i ∧ Hid (o.length = k) ∧ Hid ((grown (l.drop i) b a).foldl wth o = R) ∧ Hid (SlS s3 o wr) ∧ Hid (RowKit.Below w.heap.size w wr)) (fun _ s4 _ => n - (intOf s4).toNat)
  case atStart => exact ⟨0, 0, none, 0, [], Nat.zero_le _, rfl, rfl, Nat.le_refl _, Lib.hid rfl, HR, Lib.hid (SlS.nil none 0 _), HB1⟩
  case round =>
    obtain ⟨i, k, p3, c3, o, hi, rfl, rfl, hk, HK, HG, HO, HW⟩ := hrel
    by_cases h1 : i < n
    · have ia : i < l.length := by rw [HL.out]; exact h1
      have ga : l[i]? = some l[i] := List.getElem?_eq_getElem ia
      obtain ⟨b', off, rfl, hlt, hRS⟩ : ∃ b off, p = some ⟨b, off, none⟩ ∧ b < w.heap.size ∧ RS b off l w := SA.out.at_ (by omega)
      obtain ⟨z0, z1⟩ := (hRS.keep hlt HW.out).at_ ga
      have hin := HIR.out _ (List.mem_of_getElem? ga)
      have hG := HG.out
      rw [drop_of ga, grown_cons, List.foldl_cons] at hG
      have hi1 : (i : Int) < (n : Int) := by omega
      have hi0 : (0 : Int) ≤ (i : Int) := by omega
      generalize l[i] = xx at *
      obtain ⟨x, y⟩ := xx
      simp only at z0 z1 hin hG
      have hy : y ≤ 20000000 := hin.2.2
      have w1 : IntKind.i64.wrap (x - b) = x - b := IntWalk.i64_in _ (by omega)
      have w2 : IntKind.i64.wrap (y + a) = y + a := IntWalk.i64_in _ (by omega)
      have hwl := wth_len o (max 0 (x - b), min 20000000 (y + a))
      rw [HK.out] at hwl
      have hc := with_any (v := .slice p3 k c3) (HO.out.keep (show RowKit.Below wr.heap.size wr wr.drew from below_drewN (RowKit.Below.refl wr.heap.size wr) 1)) (by rw [HK.out]; omega) (max 0 (x - b)) (min 20000000 (y + a))
      have HC := Lib.hid hc
      have HG := Lib.hid hG
      clear ga hRS hG hc HO hin
      go_wp2
      go_region_with (go_at_call 40; refine HC.out.mono ?_; rintro e w3 ⟨p4, c4, rfl, hs3, hb3⟩; have HS3 := Lib.hid hs3; have HB3 := Lib.hid ((show RowKit.Below w.heap.size w wr.drew from below_drewN HW.out 1).trans (hb3.mono HW.out.size)); clear hs3 hb3)
      all_goals
        go_wp2
        go_roundw
        case rel => exact ⟨i + 1, _, p4, c4, wth o (max 0 (x - b), min 20000000 (y + a)), by omega, rfl, by go_num, by omega, Lib.hid rfl, HG, HS3, HB3⟩
        case measure => simp [intOf]; omega
    · obtain rfl : i = n := by omega
      have hG := HG.out
      rw [List.drop_eq_nil_of_le (by rw [HL.out]; exact Nat.le_refl _)] at hG
      obtain rfl : R = o := by rw [← hG]; rfl
      clear hG HG HR SA HL
      have hi2 : ¬ (i : Int) < (i : Int) := by omega
      go_wp2
      go_ret2
      exact ⟨_, rfl, HO.out, HW.out⟩
theorem rgrow_any {v : Value} {l : List Sp} {w : World} (h : SlS v l w) (hn : l.length ≤ 900) (b a : Int) :
    Calls Try.prog 21 #[v, .int .i64 b, .int .i64 a] w (ResPost (growR l b a) w) := by
  unfold growR
  by_cases q : validB l = true ∧ (0 ≤ b ∧ b ≤ top) ∧ 0 ≤ a ∧ a ≤ top
  · rw [if_pos q]
    exact rgrow_good h hn b a q.1 q.2.1.1 q.2.1.2 q.2.2.1 q.2.2.2
  · rw [if_neg q]
    refine rgrow_bad h hn b a ?_
    cases qa : validB l
    · exact .inl rfl
    · refine .inr ?_
      rw [qa] at q
      unfold top at q
      simp only [true_and] at q
      omega
end Go.Proofs.Ytojofkjnakiliaa
