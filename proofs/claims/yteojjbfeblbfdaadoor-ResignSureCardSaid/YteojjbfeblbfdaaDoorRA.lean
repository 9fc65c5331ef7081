/- The contract of Times of package resign, for all numbers, and its laws; no condition beyond those that each theorem names. -/
import Derived.Test.YteojjbfeblbfdaaDoorRM
import Derived.Test.YteojjbfeblbfdaaDoorRB2
namespace Go.Proofs.YteojjbfeblbfdaaDoor
set_option linter.unusedSimpArgs false
set_option linter.unusedVariables false
open Go.RowKit Go.Shelf
open SpP

/-- The arguments of Times are in their bounds. -/
def Inb (b e n d l : Int) : Prop := (0 ≤ d ∧ d ≤ 1000) ∧ (d ≤ b ∧ b ≤ 10000000) ∧ (0 ≤ e ∧ e ≤ 10000000) ∧ (1 ≤ n ∧ n ≤ 10000000) ∧ (0 ≤ l ∧ l ≤ 100000) ∧ b < e
instance (b e n d l : Int) : Decidable (Inb b e n d l) := by unfold Inb; infer_instance
def TR (b e n d l : Int) : List Int × Nat := if Inb b e n d l then (if n - max 1 l - 3 * d + 2 < 1 then ([], 32) else timesR b e (n - max 1 l - 3 * d + 2)) else ([], 1)
def TPost (r : List Int × Nat) (w : World) (e' : Ending) (w' : World) : Prop := ∃ sl, e' = .returned (.tuple #[sl, .int .i64 (r.2 : Int)]) ∧ SlI sl r.1 w' ∧ RowKit.Below w.heap.size w w'
theorem TPost.void {k : Nat} {b e n d l : Int} {w : World} (h : Calls Tryd.prog 34 #[.int .i64 b, .int .i64 e, .int .i64 n, .int .i64 d, .int .i64 l] w fun e' w' => e' = .returned (.tuple #[.slice none 0 0, .int .i64 (k : Int)]) ∧ RowKit.Below w.heap.size w w') :
    Calls Tryd.prog 34 #[.int .i64 b, .int .i64 e, .int .i64 n, .int .i64 d, .int .i64 l] w (TPost ([], k) w) := h.mono fun e' w' ⟨he, hb⟩ => ⟨_, he, .inl ⟨rfl, none, 0, rfl⟩, hb⟩
theorem times_any (b e n d l : Int) (w : World) : Calls Tryd.prog 34 #[.int .i64 b, .int .i64 e, .int .i64 n, .int .i64 d, .int .i64 l] w (TPost (TR b e n d l) w) := by
  unfold TR
  by_cases g0 : 0 ≤ d
  case neg => rw [if_neg (fun q => g0 q.1.1)]; exact TPost.void (bad_0low w (by omega))
  by_cases k0 : d ≤ 1000
  case neg => rw [if_neg (fun q => k0 q.1.2)]; exact TPost.void (bad_0high w g0 (by omega))
  by_cases g1 : d ≤ b
  case neg => rw [if_neg (fun q => g1 q.2.1.1)]; exact TPost.void (bad_1low w g0 k0 (by omega))
  by_cases k1 : b ≤ 10000000
  case neg => rw [if_neg (fun q => k1 q.2.1.2)]; exact TPost.void (bad_1high w g0 k0 g1 (by omega))
  by_cases g2 : 0 ≤ e
  case neg => rw [if_neg (fun q => g2 q.2.2.1.1)]; exact TPost.void (bad_2low w g0 k0 g1 k1 (by omega))
  by_cases k2 : e ≤ 10000000
  case neg => rw [if_neg (fun q => k2 q.2.2.1.2)]; exact TPost.void (bad_2high w g0 k0 g1 k1 g2 (by omega))
  by_cases g3 : 1 ≤ n
  case neg => rw [if_neg (fun q => g3 q.2.2.2.1.1)]; exact TPost.void (bad_3low w g0 k0 g1 k1 g2 k2 (by omega))
  by_cases k3 : n ≤ 10000000
  case neg => rw [if_neg (fun q => k3 q.2.2.2.1.2)]; exact TPost.void (bad_3high w g0 k0 g1 k1 g2 k2 g3 (by omega))
  by_cases g4 : 0 ≤ l
  case neg => rw [if_neg (fun q => g4 q.2.2.2.2.1.1)]; exact TPost.void (bad_4low w g0 k0 g1 k1 g2 k2 g3 k3 (by omega))
  by_cases k4 : l ≤ 100000
  case neg => rw [if_neg (fun q => k4 q.2.2.2.2.1.2)]; exact TPost.void (bad_4high w g0 k0 g1 k1 g2 k2 g3 k3 g4 (by omega))
  by_cases q : b < e
  case neg => rw [if_neg (fun z => q z.2.2.2.2.2)]; exact TPost.void (bad_end w g0 k0 g1 k1 g2 k2 g3 k3 g4 k4 (by omega))
  rw [if_pos ⟨⟨g0, k0⟩, ⟨g1, k1⟩, ⟨g2, k2⟩, ⟨g3, k3⟩, ⟨g4, k4⟩, q⟩]
  by_cases z : n - max 1 l - 3 * d + 2 < 1
  · rw [if_pos z]; exact TPost.void (bad_step w g0 k0 g1 k1 g2 k2 g3 k3 g4 k4 (by omega) z)
  · rw [if_neg z]
    by_cases hl : 1 < l
    · rw [show max 1 l = l by omega] at z ⊢
      exact times_big w g0 k0 g1 k1 g2 k2 g3 k3 g4 k4 hl q (by omega)
    · rw [show max 1 l = 1 by omega] at z ⊢
      exact times_small w g0 k0 g1 k1 g2 k2 g3 k3 g4 k4 (by omega) q (by omega)

theorem cnt_mono {b e s s' : Int} (hs : 1 ≤ s) (h : s ≤ s') : cntT b e s' ≤ cntT b e s := by
  refine Nat.le_of_not_lt fun q => ?_
  have h1 := (cnt_iff (b := b) (e := e) (show 0 < s' by omega) _).1 q
  have h2 : ((cntT b e s : Nat) : Int) * s ≤ ((cntT b e s : Nat) : Int) * s' := Int.mul_le_mul_of_nonneg_left h (by omega)
  have h3 := (cnt_iff (b := b) (e := e) (show 0 < s by omega) (cntT b e s)).2 (by omega)
  omega
theorem cnt_pos {b e s : Int} (hs : 1 ≤ s) (h : b < e) : 0 < cntT b e s := (cnt_iff (by omega) 0).2 (by simpa using h)
theorem cnt_le {b e s : Int} (hs : 1 ≤ s) (h : b < e) : ((cntT b e s : Nat) : Int) ≤ e - b := by
  have hp := cnt_pos hs h
  have h1 := (cnt_iff (b := b) (e := e) (show 0 < s by omega) (cntT b e s - 1)).1 (by omega)
  have h2 : ((cntT b e s - 1 : Nat) : Int) * 1 ≤ ((cntT b e s - 1 : Nat) : Int) * s := Int.mul_le_mul_of_nonneg_left hs (by omega)
  omega
theorem TR_err {b e n d l : Int} (h : (TR b e n d l).2 ≠ 0) : (TR b e n d l).1 = [] := by
  unfold TR timesR at *
  split
  · rename_i q
    rw [if_pos q] at h
    split
    · rfl
    · rename_i q2
      rw [if_neg q2] at h
      split
      · rename_i q3; rw [if_pos q3] at h; exact absurd rfl h
      · rfl
  · rfl
theorem TR_ok {b e n d l : Int} (h : (TR b e n d l).2 = 0) : Inb b e n d l ∧ 1 ≤ n - max 1 l - 3 * d + 2 ∧ cntT b e (n - max 1 l - 3 * d + 2) ≤ 400 ∧ (TR b e n d l).1 = seqT b e (n - max 1 l - 3 * d + 2) := by
  unfold TR timesR at *
  by_cases q : Inb b e n d l
  · rw [if_pos q] at h ⊢
    by_cases q2 : n - max 1 l - 3 * d + 2 < 1
    · rw [if_pos q2] at h; cases h
    · rw [if_neg q2] at h ⊢
      by_cases q3 : cntT b e (n - max 1 l - 3 * d + 2) ≤ 400
      · rw [if_pos q3] at h ⊢
        exact ⟨q, by omega, q3, rfl⟩
      · rw [if_neg q3] at h; cases h
  · rw [if_neg q] at h; cases h
theorem TR_of {b e n d l : Int} (q : Inb b e n d l) (h1 : 1 ≤ n - max 1 l - 3 * d + 2) (h2 : cntT b e (n - max 1 l - 3 * d + 2) ≤ 400) : TR b e n d l = (seqT b e (n - max 1 l - 3 * d + 2), 0) := by
  unfold TR timesR
  rw [if_pos q, if_neg (by omega), if_pos h2]
end Go.Proofs.YteojjbfeblbfdaaDoor
