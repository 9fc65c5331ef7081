/- The contract of Valid and Compare of package record, for all sets; no condition beyond those that each theorem names. -/
import Derived.Test.YtkhckgknldiheaaDoorR8
namespace Go.Proofs.YtkhckgknldiheaaDoor
set_option linter.unusedSimpArgs false
set_option linter.unusedVariables false
open Go.RowKit
open NmP

set_option maxHeartbeats 2000000 in
set_option maxRecDepth 100000 in
theorem valid_set (x : ByteArray) (typ life : Int) (v : Value) (l : List Dt) (w : World) (hx : x.size ≤ maxLen) (hs : ∀ d ∈ l, d.1.size ≤ maxLen) (hA : SlD v l w) (hr : RulesAt w) :
    Calls Tryd.prog 30 #[.agg #[.string x, .int .i64 typ, .int .i64 life, v]] w fun e w' => e = .returned (.bool (setB x.toList typ life l)) ∧ Below w.heap.size w w' := by
  by_cases q : validB x.toList = true ∧ (1 ≤ typ ∧ typ ≤ 8) ∧ (0 ≤ life ∧ life ≤ 100000) ∧ 1 ≤ l.length ∧ l.length ≤ 8
  · obtain ⟨hv, ht, hf, hn⟩ := q
    obtain ⟨p, c, rfl⟩ := hA.form
    obtain ⟨b, off, rfl, hb, hR⟩ := hA.at_ (by omega)
    obtain ⟨t, rfl⟩ : ∃ t : Nat, typ = t := ⟨typ.toNat, by omega⟩
    exact valid_main x t life l b off c w hx hv ⟨by omega, by omega⟩ hf hn hs hb hR hr
  obtain ⟨p, c, rfl⟩ := hA.form
  have HB := Lib.hid ((Below.refl _ w).alloc (Nat.le_refl _) (.cells #[.string x, .int .i64 typ, .int .i64 life, .slice p l.length c] 25))
  have CV := Lib.hid (fun W => valid_any x W hx)
  have CT := Lib.hid (fun W => within_any typ 1 8 W)
  have CF := Lib.hid (fun W => within_any life 0 100000 W)
  have CN := Lib.hid (fun W => within_any (l.length : Int) 1 8 W)
  obtain ⟨R, hR⟩ : ∃ R, setB x.toList typ life l = R := ⟨_, rfl⟩
  rw [hR]
  unfold setB at hR
  clear hA hr hs
  cases hv : validB x.toList
  · rw [hv] at hR CV
    obtain rfl : R = false := by rw [← hR]; rfl
    clear hR hv q CT CF CN
    generalize l.length = n at *
    go_enter Tryd.func30, Tryd.ntmps30
    go_wp2_with (first | (go_at_call 32; refine (CV.out _).mono ?_; rintro e w1 ⟨rfl, rfl⟩))
    go_ret
    exact ⟨rfl, HB.out⟩
  rw [hv] at hR CV
  by_cases ht : 1 ≤ typ ∧ typ ≤ 8
  case neg =>
    rw [show (decide (1 ≤ typ) && decide (typ ≤ 8)) = false by rw [Bool.eq_false_iff]; intro z; simp at z; exact ht z] at CT hR
    obtain rfl : R = false := by rw [← hR]; rfl
    clear hR hv q ht CF CN
    generalize l.length = n at *
    go_enter Tryd.func30, Tryd.ntmps30
    go_wp2_with (first | (go_at_call 32; refine (CV.out _).mono ?_; rintro e w1 ⟨rfl, rfl⟩) | (go_at_call 64; first | ((with_reducible refine (CT.out _).mono ?_); rintro e w1 ⟨rfl, rfl⟩)))
    go_ret
    exact ⟨rfl, HB.out⟩
  rw [show (decide (1 ≤ typ) && decide (typ ≤ 8)) = true by simpa using ht] at CT hR
  by_cases hf : 0 ≤ life ∧ life ≤ 100000
  case neg =>
    rw [show (decide (0 ≤ life) && decide (life ≤ 100000)) = false by rw [Bool.eq_false_iff]; intro z; simp at z; exact hf z] at CF hR
    obtain rfl : R = false := by rw [← hR]; rfl
    clear hR hv q ht hf CN
    generalize l.length = n at *
    go_enter Tryd.func30, Tryd.ntmps30
    go_wp2_with (first | (go_at_call 32; refine (CV.out _).mono ?_; rintro e w1 ⟨rfl, rfl⟩) | (go_at_call 64; first | ((with_reducible refine (CT.out _).mono ?_); rintro e w1 ⟨rfl, rfl⟩) | ((with_reducible refine (CF.out _).mono ?_); rintro e w1 ⟨rfl, rfl⟩)))
    go_ret
    exact ⟨rfl, HB.out⟩
  rw [show (decide (0 ≤ life) && decide (life ≤ 100000)) = true by simpa using hf] at CF hR
  have hn : ¬ (1 ≤ l.length ∧ l.length ≤ 8) := fun h => q ⟨hv, ht, hf, h⟩
  rw [show (decide (1 ≤ (l.length : Int)) && decide ((l.length : Int) ≤ 8)) = false by rw [Bool.eq_false_iff]; intro z; simp at z; omega] at CN hR
  obtain rfl : R = false := by rw [← hR]; rfl
  clear hR hv q ht hf hn
  generalize l.length = n at *
  go_enter Tryd.func30, Tryd.ntmps30
  go_wp2_with (first | (go_at_call 32; refine (CV.out _).mono ?_; rintro e w1 ⟨rfl, rfl⟩) | (go_at_call 64; first | ((with_reducible refine (CT.out _).mono ?_); rintro e w1 ⟨rfl, rfl⟩) | ((with_reducible refine (CF.out _).mono ?_); rintro e w1 ⟨rfl, rfl⟩) | ((with_reducible refine (CN.out _).mono ?_); rintro e w1 ⟨rfl, rfl⟩)))
  go_ret
  exact ⟨rfl, HB.out⟩
end Go.Proofs.YtkhckgknldiheaaDoor
