/- Contracts of the functions of package clock and of its reference that the statements of layer 24 call; no condition beyond those that each theorem names. -/
import Derived.Test.YtllobkppehlgbabRows
import Derived.WalkKit
import Derived.WalkSpells
import Derived.WalkLawsBesides
import Derived.WalkSmall
import Derived.Deep.QuietTactic
import Derived.BigQuiet
import Derived.Deep.LoopGhost
import Derived.Lib.Hide
namespace Go.Proofs.Ytllobkppehlgbab
open Go.RowKit

theorem bcell {W w1 : World} (hb : Below W.heap.size W w1) : (∀ b o, b < W.heap.size → w1.cell? ⟨b, o, none⟩ = W.cell? ⟨b, o, none⟩) ∧ (∀ b o, b < W.heap.size → w1.frozen? ⟨b, o, none⟩ = W.frozen? ⟨b, o, none⟩) :=
  ⟨fun b o h => hb.cell (p := ⟨b, o, none⟩) h, fun b o h => hb.frozen (p := ⟨b, o, none⟩) h⟩

def vldB (off ev : Int) : Bool := decide (-1000 ≤ off ∧ off ≤ 1000 ∧ (ev = 0 ∨ (2 ≤ ev ∧ ev ≤ 10000000) ∨ (-10000000 ≤ ev ∧ ev ≤ -2)))
def shw (off ev t : Int) : Int := if ev = 0 then t + off else t + off + t.tdiv ev

set_option maxHeartbeats 400000 in
theorem abs_any (n : Int) (w : World) (h0 : -4611686018427387904 ≤ n) (h1 : n ≤ 4611686018427387904) :
    Calls Try.prog 21 #[.int .i64 n] w fun e w' => e = .returned (.int .i64 (if n < 0 then -n else n)) ∧ w = w' := by
  by_cases h : n < 0
  · rw [if_pos h]
    go_enter Try.func21, Try.ntmps21
    go_wp2
    go_ret
    exact ⟨rfl, rfl⟩
  · rw [if_neg h]
    go_enter Try.func21, Try.ntmps21
    go_wp2
    go_ret
    exact ⟨rfl, rfl⟩

theorem ret_bool {a b : Bool} (h : a = b) : Ending.returned (.bool a) = .returned (.bool b) := by rw [h]

set_option maxHeartbeats 400000 in
theorem valid_any (off ev : Int) (w : World) :
    Calls Try.prog 17 #[.agg #[.int .i64 off, .int .i64 ev]] w fun e w' => e = .returned (.bool (vldB off ev)) ∧ Below w.heap.size w w' := by
  go_enter Try.func17, Try.ntmps17
  go_wp2
  all_goals go_ret
  all_goals refine ⟨ret_bool ?_, (Below.refl _ _).alloc (Nat.le_refl _) _⟩
  all_goals (rw [Bool.eq_iff_iff]; simp [vldB]; try omega)

set_option maxHeartbeats 400000 in
theorem rvalid_any (off ev : Int) (w : World) :
    Calls Try.prog 18 #[.agg #[.int .i64 off, .int .i64 ev]] w fun e w' => e = .returned (.bool (vldB off ev)) ∧ Below w.heap.size w w' := by
  go_enter Try.func18, Try.ntmps18
  go_wp2_with (go_at_call 21; refine (abs_any _ _ (by omega) (by omega)).mono ?_; rintro e w' ⟨rfl, rfl⟩)
  all_goals go_ret
  all_goals refine ⟨ret_bool ?_, (Below.refl _ _).alloc (Nat.le_refl _) _⟩
  all_goals (rw [Bool.eq_iff_iff]; simp [vldB]; try omega)

theorem wrap_quo (t ev : Int) (h0 : 0 ≤ t) (h1 : t ≤ 20000000) : IntKind.i64.wrap (t.tdiv ev) = t.tdiv ev := by
  have h := Int.natAbs_tdiv_le_natAbs t ev
  exact IntWalk.i64_in _ (by omega)

set_option maxHeartbeats 400000 in
theorem dial_any (off ev t : Int) (w : World) (h0 : 0 ≤ t) (h1 : t ≤ 20000000) (h2 : -1000 ≤ off) (h3 : off ≤ 1000) :
    Calls Try.prog 22 #[.agg #[.int .i64 off, .int .i64 ev], .int .i64 t] w fun e w' => e = .returned (.int .i64 (shw off ev t)) ∧ Below w.heap.size w w' := by
  by_cases hz : ev = 0
  · subst hz
    go_enter Try.func22, Try.ntmps22
    go_wp2
    go_ret
    exact ⟨rfl, (Below.refl _ _).alloc (Nat.le_refl _) _⟩
  · have hz1 : (ev == 0) = false := by simpa using hz
    have hq := wrap_quo t ev h0 h1
    have hq1 := Int.natAbs_tdiv_le_natAbs t ev
    have hs : shw off ev t = t + off + t.tdiv ev := by unfold shw; rw [if_neg hz]
    have hw1 : IntKind.i64.wrap (t + off) = t + off := IntWalk.i64_in _ (by omega)
    have hw2 : IntKind.i64.wrap (t + off + t.tdiv ev) = t + off + t.tdiv ev := IntWalk.i64_in _ (by omega)
    clear hq1
    have HS := Lib.hid hs
    clear hs
    go_enter Try.func22, Try.ntmps22
    go_wp2
    go_quiet (fail)
    go_wp2
    go_ret
    exact ⟨by rw [HS.out]; rfl, below_drewN ((Below.refl _ _).alloc (Nat.le_refl _) _) _⟩

set_option maxHeartbeats 400000 in
theorem show_err (off ev t : Int) (w : World) (h : ¬ (vldB off ev = true ∧ 0 ≤ t ∧ t ≤ 20000000)) :
    Calls Try.prog 11 #[.agg #[.int .i64 off, .int .i64 ev], .int .i64 t] w fun e w' => e = .returned (.tuple #[.int .i64 0, .int .i64 1]) ∧ Below w.heap.size w w' := by
  cases hv : vldB off ev
  · have hc := valid_any off ev
    rw [hv] at hc
    clear h
    go_enter Try.func11, Try.ntmps11
    go_wp2_with (go_at_call 17; refine (hc _).mono ?_; rintro e w' ⟨rfl, hb⟩)
    go_ret2
    exact ⟨rfl, ((Below.refl _ _).alloc (Nat.le_refl _) _).trans (hb.mono (by simp))⟩
  · have hc := valid_any off ev
    rw [hv] at hc
    by_cases h1 : t < 0
    · clear h
      go_enter Try.func11, Try.ntmps11
      go_wp2_with (go_at_call 17; refine (hc _).mono ?_; rintro e w' ⟨rfl, hb⟩)
      go_ret2
      exact ⟨rfl, ((Below.refl _ _).alloc (Nat.le_refl _) _).trans (hb.mono (by simp))⟩
    · have h2 : 20000000 < t := Int.not_le.1 fun q => h ⟨hv, by omega, q⟩
      clear h
      go_enter Try.func11, Try.ntmps11
      go_wp2_with (go_at_call 17; refine (hc _).mono ?_; rintro e w' ⟨rfl, hb⟩)
      go_ret2
      exact ⟨rfl, ((Below.refl _ _).alloc (Nat.le_refl _) _).trans (hb.mono (by simp))⟩

theorem vld_off {off ev : Int} (h : vldB off ev = true) : -1000 ≤ off ∧ off ≤ 1000 := by
  simp [vldB] at h; omega

set_option maxHeartbeats 400000 in
theorem show_ok (off ev t : Int) (w : World) (hv : vldB off ev = true) (h0 : 0 ≤ t) (h1 : t ≤ 20000000) :
    Calls Try.prog 11 #[.agg #[.int .i64 off, .int .i64 ev], .int .i64 t] w fun e w' => e = .returned (.tuple #[.int .i64 (shw off ev t), .int .i64 0]) ∧ Below w.heap.size w w' := by
  have hv2 := vld_off hv
  have hc := valid_any off ev
  rw [hv] at hc
  go_enter Try.func11, Try.ntmps11
  go_wp2_with (first | (go_at_call 17; refine (hc _).mono ?_; rintro e w' ⟨rfl, hb⟩; obtain ⟨hcell, hfr⟩ := bcell hb) | (go_at_call 22; refine (dial_any _ _ _ _ (by omega) (by omega) (by omega) (by omega)).mono ?_; rintro e w2 ⟨rfl, hb2⟩))
  go_ret2
  exact ⟨rfl, (((Below.refl _ _).alloc (Nat.le_refl _) _).trans (hb.mono (by simp))).trans (hb2.mono (by have := hb.size; simp at this; omega))⟩

/-- What 'shows' answers where the clock is valid and the time in range. -/
theorem shows_ok (off ev t want : Int) (w : World) (hv : vldB off ev = true) (h0 : 0 ≤ t) (h1 : t ≤ 20000000) :
    Calls Try.prog 19 #[.agg #[.int .i64 off, .int .i64 ev], .int .i64 t, .int .i64 want] w fun e w' => e = .returned (.bool (shw off ev t == want)) ∧ Below w.heap.size w w' := by
  go_enter Try.func19, Try.ntmps19
  go_wp2_with (go_at_call 11; refine (show_ok _ _ _ _ hv h0 h1).mono ?_; rintro e w' ⟨rfl, hb⟩)
  go_ret
  exact ⟨rfl, ((Below.refl _ _).alloc (Nat.le_refl _) _).trans (hb.mono (by simp))⟩

/-! The binary search. -/
set_option maxHeartbeats 1000000 in
theorem search_any (cb : Array Value) (n : Nat) (p : Nat → Bool) (w : World) (hn : n ≤ 20000000)
    (hf : ∀ (W : World) (i : Nat), i < n → Below w.heap.size w W → Calls Try.prog 29 (#[.int .i64 i] ++ cb) W fun e w' => e = .returned (.bool (p i)) ∧ Below W.heap.size W w')
    (hmono : ∀ a b, a ≤ b → b < n → p a = true → p b = true) :
    Calls Try.prog 28 #[.int .i64 n, .func (.func 29) #[] cb] w fun e w' => (∃ r : Nat, r ≤ n ∧ (∀ t, t < r → p t = false) ∧ (∀ t, r ≤ t → t < n → p t = true) ∧ e = .returned (.int .i64 r)) ∧ Below w.heap.size w w' := by
  have HF := Lib.hid hf
  have M := Lib.hid hmono
  clear hf hmono
  go_enter Try.func28, Try.ntmps28
  go_wp2
  go_loopw [5, 6] (fun s5 s6 wr => ∃ (lo hi : Nat), s5 = .int .i64 lo ∧ s6 = .int .i64 hi ∧ lo ≤ hi ∧ hi ≤ n ∧ Below w.heap.size w wr ∧ Hid ((∀ t, t < lo → p t = false) ∧ (∀ t, hi ≤ t → t < n → p t = true))) (fun s5 s6 _ => (intOf s6 - intOf s5).toNat)
  case atStart => exact ⟨0, n, rfl, rfl, Nat.zero_le _, Nat.le_refl _, Below.refl _ _, Lib.hid ⟨fun t ht => absurd ht (Nat.not_lt_zero _), fun t h1 h2 => by omega⟩⟩
  case round =>
    obtain ⟨lo, hi, rfl, rfl, hlh, hin, hb, I⟩ := hrel
    by_cases hlt : lo < hi
    · have hc := HF.out wr ((lo + hi) / 2) (by omega) hb
      rw [show (((lo + hi) / 2 : Nat) : Int) = ((lo : Int) + (hi : Int)) / 2 by omega] at hc
      cases hp : p ((lo + hi) / 2) <;> rw [hp] at hc
      · have HP := Lib.hid hp
        clear hp
        go_wp2_with fail
        refine hc.mono ?_
        rintro e w' ⟨rfl, hb1⟩
        go_wp2
        go_roundw
        case measure => simp [intOf]; omega
        case rel =>
          exact ⟨(lo + hi) / 2 + 1, hi, by rw [show ((lo : Int) + (hi : Int)) / 2 + 1 = (((lo + hi) / 2 + 1 : Nat) : Int) by omega], rfl, by omega, hin, hb.trans (hb1.mono hb.size), Lib.hid ⟨fun t ht => (by
            cases h : p t with
            | false => rfl
            | true => have := M.out t ((lo + hi) / 2) (by omega) (by omega) h; rw [HP.out] at this; cases this), I.out.2⟩⟩
      · have HP := Lib.hid hp
        clear hp
        go_wp2_with fail
        refine hc.mono ?_
        rintro e w' ⟨rfl, hb1⟩
        go_wp2
        go_roundw
        case measure => simp [intOf]; omega
        case rel =>
          exact ⟨lo, (lo + hi) / 2, rfl, by rw [show ((lo : Int) + (hi : Int)) / 2 = (((lo + hi) / 2 : Nat) : Int) by omega], by omega, by omega, hb.trans (hb1.mono hb.size), Lib.hid ⟨I.out.1, fun t ht htn => M.out ((lo + hi) / 2) t ht htn HP.out⟩⟩
    · obtain rfl : hi = lo := by omega
      go_wp2
      go_ret
      exact ⟨⟨hi, hin, I.out.1, I.out.2, rfl⟩, hb⟩

end Go.Proofs.Ytllobkppehlgbab
