/- Contracts of the closures of package clock, of Times, of Within and of the examples that each statement of layer 24 begins with; no condition beyond those that each theorem names. -/
import Derived.Test.YtllobkppehlgbabC1
import Derived.Deep.RegionWith
namespace Go.Proofs.Ytllobkppehlgbab
open Go.RowKit

theorem times1_any (n shown : Int) (b : Nat) (w : World) (hc : w.cell? ⟨b, 0, none⟩ = some (.int .i64 shown)) :
    Calls Try.prog 25 #[.int .i64 n, .pointer (some ⟨b, 0, none⟩)] w fun e w' => e = .returned (.bool (decide (shown ≤ n))) ∧ w = w' := by
  go_enter Try.func25, Try.ntmps25
  go_wp2
  go_ret
  exact ⟨rfl, rfl⟩
theorem times2_any (n shown : Int) (b : Nat) (w : World) (hc : w.cell? ⟨b, 0, none⟩ = some (.int .i64 shown)) :
    Calls Try.prog 26 #[.int .i64 n, .pointer (some ⟨b, 0, none⟩)] w fun e w' => e = .returned (.bool (decide (shown < n))) ∧ w = w' := by
  go_enter Try.func26, Try.ntmps26
  go_wp2
  go_ret
  exact ⟨rfl, rfl⟩

set_option maxHeartbeats 1000000 in
theorem close1_any (i off ev shown : Int) (bi bs b : Nat) (w : World) (h0 : 0 ≤ i) (h1 : i ≤ 20000000) (h2 : -1000 ≤ off) (h3 : off ≤ 1000)
    (hi : w.cell? ⟨bi, 0, none⟩ = some (.func (.func 25) #[] #[.pointer (some ⟨b, 0, none⟩)]))
    (hs : w.cell? ⟨bs, 0, none⟩ = some (.func (.func 22) #[.agg #[.int .i64 off, .int .i64 ev]] #[]))
    (hc : w.cell? ⟨b, 0, none⟩ = some (.int .i64 shown)) :
    Calls Try.prog 29 #[.int .i64 i, .pointer (some ⟨bi, 0, none⟩), .pointer (some ⟨bs, 0, none⟩)] w fun e w' => e = .returned (.bool (decide (shown ≤ shw off ev i))) ∧ Below w.heap.size w w' := by
  have z1 := World.block_lt_of_cell? _ _ hi
  have z2 := World.block_lt_of_cell? _ _ hs
  have z3 := World.block_lt_of_cell? _ _ hc
  go_enter Try.func29, Try.ntmps29
  go_wp2
  go_region_with ((first | (go_at_call 22; refine (dial_any _ _ _ _ h0 h1 h2 h3).mono ?_; rintro e w' ⟨rfl, hb⟩; have e1 := ((bcell hb).1 bi 0 z1).trans hi; have e3 := ((bcell hb).1 b 0 z3).trans hc) | (go_at_call 25; refine (times1_any _ shown b _ e3).mono ?_; rintro e w' ⟨rfl, rfl⟩)))
  all_goals go_wp2
  all_goals go_ret
  all_goals exact ⟨rfl, (Below.refl _ w).drew.trans hb⟩

set_option maxHeartbeats 1000000 in
theorem close2_any (i off ev shown : Int) (bi bs b : Nat) (w : World) (h0 : 0 ≤ i) (h1 : i ≤ 20000000) (h2 : -1000 ≤ off) (h3 : off ≤ 1000)
    (hi : w.cell? ⟨bi, 0, none⟩ = some (.func (.func 26) #[] #[.pointer (some ⟨b, 0, none⟩)]))
    (hs : w.cell? ⟨bs, 0, none⟩ = some (.func (.func 22) #[.agg #[.int .i64 off, .int .i64 ev]] #[]))
    (hc : w.cell? ⟨b, 0, none⟩ = some (.int .i64 shown)) :
    Calls Try.prog 29 #[.int .i64 i, .pointer (some ⟨bi, 0, none⟩), .pointer (some ⟨bs, 0, none⟩)] w fun e w' => e = .returned (.bool (decide (shown < shw off ev i))) ∧ Below w.heap.size w w' := by
  have z1 := World.block_lt_of_cell? _ _ hi
  have z2 := World.block_lt_of_cell? _ _ hs
  have z3 := World.block_lt_of_cell? _ _ hc
  go_enter Try.func29, Try.ntmps29
  go_wp2
  go_region_with ((first | (go_at_call 22; refine (dial_any _ _ _ _ h0 h1 h2 h3).mono ?_; rintro e w' ⟨rfl, hb⟩; have e1 := ((bcell hb).1 bi 0 z1).trans hi; have e3 := ((bcell hb).1 b 0 z3).trans hc) | (go_at_call 26; refine (times2_any _ shown b _ e3).mono ?_; rintro e w' ⟨rfl, rfl⟩)))
  all_goals go_wp2
  all_goals go_ret
  all_goals exact ⟨rfl, (Below.refl _ w).drew.trans hb⟩

/-! What the clock shows never falls. -/
theorem shw_mono (off ev a b : Int) (hv : vldB off ev = true) (h0 : 0 ≤ a) (h : a ≤ b) : shw off ev a ≤ shw off ev b := by
  have hev : ev = 0 ∨ 2 ≤ ev ∨ ev ≤ -2 := by simp [vldB] at hv; omega
  unfold shw
  rcases hev with rfl | h2 | h2
  · simp; omega
  · rw [if_neg (by omega), if_neg (by omega), Int.tdiv_eq_ediv_of_nonneg h0, Int.tdiv_eq_ediv_of_nonneg (by omega)]
    have := Int.ediv_le_ediv (c := ev) (by omega) h
    omega
  · obtain ⟨k, rfl⟩ : ∃ k, ev = -k := ⟨-ev, by omega⟩
    rw [if_neg (by omega), if_neg (by omega), Int.tdiv_neg, Int.tdiv_neg, Int.tdiv_eq_ediv_of_nonneg h0, Int.tdiv_eq_ediv_of_nonneg (by omega)]
    have h3 : b / k ≤ a / k + (b - a) := by
      rw [← Int.add_mul_ediv_right a (b - a) (show k ≠ 0 by omega)]
      refine Int.ediv_le_ediv (by omega) ?_
      have : (b - a) * 1 ≤ (b - a) * k := Int.mul_le_mul_of_nonneg_left (by omega) (by omega)
      omega
    omega

end Go.Proofs.Ytllobkppehlgbab
