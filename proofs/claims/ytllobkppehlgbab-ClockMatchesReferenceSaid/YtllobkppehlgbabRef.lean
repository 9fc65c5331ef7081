/- Contracts of the reference implementation of package clock; no condition beyond those that each theorem names. -/
import Derived.Test.YtllobkppehlgbabC5
namespace Go.Proofs.Ytllobkppehlgbab
open Go.RowKit
namespace Ref

set_option maxHeartbeats 1000000 in
theorem rshows_any (off ev t : Int) (w : World) (hv : vldB off ev = true) (h0 : 0 ≤ t) (h1 : t ≤ 20000000) :
    Calls Try.prog 23 #[.agg #[.int .i64 off, .int .i64 ev], .int .i64 t] w fun e w' => e = .returned (.int .i64 (shw off ev t)) ∧ Below w.heap.size w w' := by
  have hov := vld_off hv
  have hev : ev = 0 ∨ 2 ≤ ev ∨ ev ≤ -2 := by simp [vldB] at hv; omega
  have hr : -10000000 ≤ ev ∧ ev ≤ 10000000 := by simp [vldB] at hv; omega
  have ha := fun W => abs_any ev W (by omega) (by omega)
  clear hv
  rcases hev with h | h | h
  · subst h
    rw [show shw off 0 t = t + off by unfold shw; simp]
    go_enter Try.func23, Try.ntmps23
    go_wp2
    go_ret
    exact ⟨rfl, (Below.refl _ _).alloc (Nat.le_refl _) _⟩
  · rw [if_neg (by omega)] at ha
    have hz1 : (ev == 0) = false := beq_eq_false_iff_ne.2 (by omega)
    have hd : 0 ≤ t / ev ∧ t / ev ≤ t := IntWalk.tdiv_le t ev h0 (by omega)
    have hs : shw off ev t = t + off + t / ev := by unfold shw; rw [if_neg (by omega), Int.tdiv_eq_ediv_of_nonneg h0]
    have HS := Lib.hid hs
    have HA := Lib.hid ha
    clear hs ha
    go_enter Try.func23, Try.ntmps23
    go_wp2_with (go_at_call 21; refine (HA.out _).mono ?_; rintro e w4 ⟨rfl, rfl⟩)
    go_ret
    exact ⟨by rw [HS.out]; rfl, (Below.refl _ _).alloc (Nat.le_refl _) _⟩
  · rw [if_pos (by omega)] at ha
    have hz1 : (ev == 0) = false := beq_eq_false_iff_ne.2 (by omega)
    obtain ⟨k, rfl⟩ : ∃ k, ev = -k := ⟨-ev, by omega⟩
    rw [Int.neg_neg] at ha
    have hd : 0 ≤ t / k ∧ t / k ≤ t := IntWalk.tdiv_le t k h0 (by omega)
    have hs : shw off (-k) t = t + off + -(t / k) := by unfold shw; rw [if_neg (by omega), Int.tdiv_neg, Int.tdiv_eq_ediv_of_nonneg h0]
    have HS := Lib.hid hs
    have HA := Lib.hid ha
    clear hs ha
    go_enter Try.func23, Try.ntmps23
    go_wp2_with (go_at_call 21; refine (HA.out _).mono ?_; rintro e w4 ⟨rfl, rfl⟩)
    go_ret
    exact ⟨by rw [HS.out]; rfl, (Below.refl _ _).alloc (Nat.le_refl _) _⟩

set_option maxHeartbeats 1000000 in
theorem rshow_err (off ev t : Int) (w : World) (h : vldB off ev = false ∨ t < 0 ∨ 20000000 < t) :
    Calls Try.prog 12 #[.agg #[.int .i64 off, .int .i64 ev], .int .i64 t] w fun e w' => e = .returned (.tuple #[.int .i64 0, .int .i64 1]) ∧ Below w.heap.size w w' := by
  have hc := rvalid_any off ev
  cases hv : vldB off ev <;> rw [hv] at hc h
  · clear h
    go_enter Try.func12, Try.ntmps12
    go_wp2_with (go_at_call 18; refine (hc _).mono ?_; rintro e w' ⟨rfl, hb⟩)
    all_goals go_ret2
    all_goals exact ⟨rfl, ((Below.refl _ _).alloc (Nat.le_refl _) _).trans (hb.mono (by simp))⟩
  · have h : t < 0 ∨ 20000000 < t := by simpa using h
    go_enter Try.func12, Try.ntmps12
    go_wp2_with (go_at_call 18; refine (hc _).mono ?_; rintro e w' ⟨rfl, hb⟩)
    all_goals go_ret2
    all_goals exact ⟨rfl, ((Below.refl _ _).alloc (Nat.le_refl _) _).trans (hb.mono (by simp))⟩

set_option maxHeartbeats 1000000 in
theorem rshow_ok (off ev t : Int) (w : World) (hv : vldB off ev = true) (h0 : 0 ≤ t) (h1 : t ≤ 20000000) :
    Calls Try.prog 12 #[.agg #[.int .i64 off, .int .i64 ev], .int .i64 t] w fun e w' => e = .returned (.tuple #[.int .i64 (shw off ev t), .int .i64 0]) ∧ Below w.heap.size w w' := by
  have k := startC off ev w
  have hc := rvalid_any off ev
  rw [hv] at hc
  have HS := Lib.hid (fun W => rshows_any off ev t W hv h0 h1)
  go_enter Try.func12, Try.ntmps12
  go_wp2_with (first | (go_at_call 18; refine (hc _).mono ?_; rintro e w' ⟨rfl, hb⟩; obtain ⟨k, p, q⟩ := nextC k.out hb; clear hb) | (go_at_call 23; refine (HS.out _).mono ?_; rintro e w' ⟨rfl, hb⟩; obtain ⟨k, p, q⟩ := nextC k.out hb; clear hb))
  go_ret2
  exact ⟨rfl, k.out.1⟩

set_option maxHeartbeats 1000000 in
theorem rwithin_err (off ev d fin : Int) (w : World) (h : vldB off ev = false ∨ d < 0 ∨ 1000 < d ∨ fin < 1 ∨ 20000000 < fin) :
    Calls Try.prog 16 #[.agg #[.int .i64 off, .int .i64 ev], .int .i64 d, .int .i64 fin] w fun e w' => e = .returned (.tuple #[.bool false, .int .i64 1]) ∧ Below w.heap.size w w' := by
  have hc := rvalid_any off ev
  cases hv : vldB off ev <;> rw [hv] at hc h
  · clear h
    go_enter Try.func16, Try.ntmps16
    go_wp2_with (go_at_call 18; refine (hc _).mono ?_; rintro e w' ⟨rfl, hb⟩)
    all_goals go_ret2
    all_goals exact ⟨rfl, ((Below.refl _ _).alloc (Nat.le_refl _) _).trans (hb.mono (by simp))⟩
  · have h : d < 0 ∨ 1000 < d ∨ fin < 1 ∨ 20000000 < fin := by simpa using h
    go_enter Try.func16, Try.ntmps16
    go_wp2_with (go_at_call 18; refine (hc _).mono ?_; rintro e w' ⟨rfl, hb⟩)
    all_goals go_ret2
    all_goals exact ⟨rfl, ((Below.refl _ _).alloc (Nat.le_refl _) _).trans (hb.mono (by simp))⟩

def abv (n : Int) : Int := if n < 0 then -n else n
theorem abv_le (n d : Int) : abv n ≤ d ↔ (-d ≤ n ∧ n ≤ d) := by unfold abv; split <;> omega
theorem abv_any (n : Int) (w : World) (h0 : -1000000000 ≤ n) (h1 : n ≤ 1000000000) :
    Calls Try.prog 21 #[.int .i64 n] w fun e w' => e = .returned (.int .i64 (abv n)) ∧ w = w' := abs_any n w (by omega) (by omega)

set_option maxHeartbeats 1000000 in
theorem rwithin_ok (off ev d : Int) (n : Nat) (w : World) (hv : vldB off ev = true) (h0 : 0 ≤ d) (h1 : d ≤ 1000) (h2 : 1 ≤ n) (h3 : n ≤ 20000000) :
    Calls Try.prog 16 #[.agg #[.int .i64 off, .int .i64 ev], .int .i64 d, .int .i64 n] w fun e w' => e = .returned (.tuple #[.bool (inB off ev d 0 && inB off ev d (n - 1)), .int .i64 0]) ∧ Below w.heap.size w w' := by
  have k := startC off ev w
  have hc := rvalid_any off ev
  rw [hv] at hc
  have HC := Lib.hid hc
  have HV := Lib.hid hv
  clear hc hv
  go_enter Try.func16, Try.ntmps16
  go_wp2_with (go_at_call 18; refine (HC.out _).mono ?_; rintro e w' ⟨rfl, hb⟩; obtain ⟨k, p, q⟩ := nextC k.out hb; clear hb)
  go_loopw [8] (fun s8 wr => ∃ i : Nat, i ≤ n ∧ s8 = .int .i64 i ∧ Hid (KeptC off ev w wr) ∧ Hid (∀ j : Nat, j < i → inB off ev d j = true)) (fun s8 _ => n - (intOf s8).toNat)
  case atStart => exact ⟨0, by omega, rfl, k, Lib.hid (fun j hj => absurd hj (Nat.not_lt_zero _))⟩
  case round =>
    obtain ⟨i, hi, rfl, k2, HA⟩ := hrel
    have p2 := k2.out.2.2.1
    have q2 := k2.out.2.2.2
    by_cases hlt : i < n
    · have hs := fun W => rshows_any off ev i W HV.out (by omega) (by omega)
      have hbd := shw_bd off ev i HV.out (by omega) (by omega)
      have hin : inB off ev d i = decide (abv (shw off ev i - i) ≤ d) := by
        unfold inB; rw [decide_eq_decide]; exact (abv_le _ _).symm
      have HF : Hid (¬ abv (shw off ev i - i) ≤ d → (inB off ev d 0 && inB off ev d ((n : Int) - 1)) = false) := Lib.hid (fun hno => by
        cases hh : (inB off ev d 0 && inB off ev d ((n : Int) - 1))
        · rfl
        · exact absurd ((abv_le _ _).2 (in_all off ev d n i HV.out hh (by omega) (by omega))) hno)
      generalize shw off ev (i : Int) = x at *
      have HS := Lib.hid hs
      have HX := Lib.hid (fun W => abv_any (x - i) W (by omega) (by omega))
      have HI := Lib.hid hin
      clear hs hin
      by_cases hle : abv (x - i) ≤ d
      · generalize abv (x - (i : Int)) = y at *
        go_wp2_with (first | (go_at_call 23; refine (HS.out _).mono ?_; rintro e w' ⟨rfl, hb⟩; obtain ⟨k2, p2, q2⟩ := nextC k2.out hb; clear hb) | (go_at_call 21; refine (HX.out _).mono ?_; rintro e w4 ⟨rfl, rfl⟩))
        go_roundw
        case rel => exact ⟨i + 1, by omega, by go_num, k2, Lib.hid (fun j hj => by
          rcases Nat.lt_or_ge j i with h | h
          · exact HA.out j h
          · obtain rfl : j = i := by omega
            rw [HI.out]; simp; omega)⟩
        case measure => simp [intOf]; omega
      · generalize abv (x - (i : Int)) = y at *
        go_wp2_with (first | (go_at_call 23; refine (HS.out _).mono ?_; rintro e w' ⟨rfl, hb⟩; obtain ⟨k2, p2, q2⟩ := nextC k2.out hb; clear hb) | (go_at_call 21; refine (HX.out _).mono ?_; rintro e w4 ⟨rfl, rfl⟩))
        go_ret2
        refine ⟨?_, k2.out.1⟩
        rw [HF.out (by omega)]
        rfl
    · obtain rfl : i = n := by omega
      go_wp2
      go_ret2
      refine ⟨?_, k2.out.1⟩
      have e1 := HA.out 0 (by omega)
      have e2 := HA.out (i - 1) (by omega)
      rw [show ((i - 1 : Nat) : Int) = (i : Int) - 1 by omega] at e2
      rw [show ((0 : Nat) : Int) = 0 from rfl] at e1
      rw [e1, e2]
      rfl
end Ref
end Go.Proofs.Ytllobkppehlgbab
