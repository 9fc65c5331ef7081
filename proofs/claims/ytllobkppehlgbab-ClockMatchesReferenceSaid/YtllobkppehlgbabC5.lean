/- What the walks of the statements of layer 24 share: the clock that stands where it was laid, amounts, and how what a clock shows grows; no condition beyond those that each theorem names. -/
import Derived.Test.YtllobkppehlgbabC4
import Derived.ProofKit
import Derived.OpenShut
import Derived.ShutString
import Derived.ChangeOld
import Derived.Lib.SmallJoins
namespace Go.Proofs.Ytllobkppehlgbab
open Go.ChangeShapes Go.WideShapes Go.ChangeAt Go.RowKit Go.Joins
open Go.ChangeMaps (open_string shut_string)

set_option maxHeartbeats 400000 in
theorem abs_gen (n : Int) (w : World) :
    Calls Try.prog 21 #[.int .i64 n] w fun e w' => (∃ m : Int, e = .returned (.int .i64 m) ∧ (-10000000 ≤ n → n ≤ 10000000 → m = if n < 0 then -n else n)) ∧ w = w' := by
  by_cases h : -10000000 ≤ n ∧ n ≤ 10000000
  · exact (abs_any n w (by omega) (by omega)).mono fun e w' ⟨he, hw⟩ => ⟨⟨_, he, fun _ _ => rfl⟩, hw⟩
  · have H := Lib.hid h
    clear h
    by_cases h2 : n < 0
    · go_enter Try.func21, Try.ntmps21
      go_wp2
      go_ret
      exact ⟨⟨_, rfl, fun p q => absurd (And.intro p q) H.out⟩, rfl⟩
    · go_enter Try.func21, Try.ntmps21
      go_wp2
      go_ret
      exact ⟨⟨_, rfl, fun p q => absurd (And.intro p q) H.out⟩, rfl⟩

/-- What the walks carry from call to call: the clock stands where it was laid. -/
def KeptC (off ev : Int) (w W : World) : Prop := Below w.heap.size w W ∧ w.heap.size < W.heap.size ∧ W.cell? ⟨w.heap.size, 0, none⟩ = some (.int .i64 off) ∧ W.cell? ⟨w.heap.size, 1, none⟩ = some (.int .i64 ev)
theorem nextC {off ev : Int} {w W W' : World} (k : KeptC off ev w W) (h : Below W.heap.size W W') : Hid (KeptC off ev w W') ∧ W'.cell? ⟨w.heap.size, 0, none⟩ = some (.int .i64 off) ∧ W'.cell? ⟨w.heap.size, 1, none⟩ = some (.int .i64 ev) := by
  obtain ⟨b, z, c, d⟩ := k
  have c' := (h.cell (p := ⟨w.heap.size, 0, none⟩) z).trans c
  have d' := (h.cell (p := ⟨w.heap.size, 1, none⟩) z).trans d
  exact ⟨Lib.hid ⟨b.trans (h.mono (by omega)), by have := h.size; omega, c', d'⟩, c', d'⟩
theorem startC (off ev : Int) (w : World) : Hid (KeptC off ev w (w.alloc (.cells #[.int .i64 off, .int .i64 ev] 23))) :=
  Lib.hid ⟨(Below.refl _ _).alloc (Nat.le_refl _) _, by simp, (cell_new2 w _ _ 23).1, (cell_new2 w _ _ 23).2⟩


theorem shw_bd (off ev t : Int) (hv : vldB off ev = true) (h0 : 0 ≤ t) (h1 : t ≤ 20000000) : -30000000 ≤ shw off ev t ∧ shw off ev t ≤ 50000000 := by
  have := Int.natAbs_tdiv_le_natAbs t ev
  have := vld_off hv
  unfold shw; split <;> omega

/-- How far the clock is wrong at a time between two others lies between how far it is wrong at these. -/
theorem wrong_between (off ev a b : Int) (hv : vldB off ev = true) (h0 : 0 ≤ a) (h : a ≤ b) :
    (shw off ev 0 - 0 ≤ shw off ev a - a ∧ shw off ev a - a ≤ shw off ev b - b) ∨ (shw off ev b - b ≤ shw off ev a - a ∧ shw off ev a - a ≤ shw off ev 0 - 0) := by
  have hev : ev = 0 ∨ 2 ≤ ev ∨ ev ≤ -2 := by simp [vldB] at hv; omega
  unfold shw
  rcases hev with rfl | h2 | h2
  · simp; omega
  · rw [if_neg (by omega), if_neg (by omega), if_neg (by omega), Int.tdiv_eq_ediv_of_nonneg h0, Int.tdiv_eq_ediv_of_nonneg (by omega), Int.tdiv_eq_ediv_of_nonneg (by omega)]
    have := Int.ediv_le_ediv (c := ev) (by omega) h
    have := Int.ediv_nonneg h0 (show 0 ≤ ev by omega)
    simp; omega
  · obtain ⟨k, rfl⟩ : ∃ k, ev = -k := ⟨-ev, by omega⟩
    rw [if_neg (by omega), if_neg (by omega), if_neg (by omega), Int.tdiv_neg, Int.tdiv_neg, Int.tdiv_neg, Int.tdiv_eq_ediv_of_nonneg h0, Int.tdiv_eq_ediv_of_nonneg (by omega), Int.tdiv_eq_ediv_of_nonneg (by omega)]
    have := Int.ediv_le_ediv (c := k) (by omega) h
    have := Int.ediv_nonneg h0 (show 0 ≤ k by omega)
    simp; omega

theorem in_all (off ev drift fin t : Int) (hv : vldB off ev = true) (h : (inB off ev drift 0 && inB off ev drift (fin - 1)) = true) (h0 : 0 ≤ t) (h1 : t < fin) :
    -drift ≤ shw off ev t - t ∧ shw off ev t - t ≤ drift := by
  simp [inB] at h
  have := wrong_between off ev t (fin - 1) hv h0 (by omega)
  omega
end Go.Proofs.Ytllobkppehlgbab
