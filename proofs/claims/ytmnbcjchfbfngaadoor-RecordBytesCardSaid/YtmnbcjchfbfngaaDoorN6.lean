/- Contracts of Compare and Common of package name, and of the statements' own compare; no condition beyond those that each theorem names. -/
import Derived.Test.YtmnbcjchfbfngaaDoorN5
namespace Go.Proofs.YtmnbcjchfbfngaaDoor
set_option linter.unusedSimpArgs false
set_option linter.unusedVariables false
open Go.RowKit
open NmP

theorem revL_len {s : ByteArray} (h : validB s.toList = true) : (revL s).length ≤ 8 := by
  have h1 := (valid_len h).1
  have h2 := congrArg List.length (revL_labels s)
  rw [List.length_map, List.length_reverse] at h2
  omega

theorem tcompare_all (s m : ByteArray) (w : World) (hs : s.size ≤ maxLen) (hm : m.size ≤ maxLen) (hvs : validB s.toList = true) (hvm : validB m.toList = true) :
    Calls Tryd.prog 68 #[.string s, .string m] w fun e w' => e = .returned (.int .i64 (cmpN s.toList m.toList)) ∧ Below w.heap.size w w' := by
  cases hne : (s.toList == m.toList)
  · exact tcompare_any s m w hs hm (revL_len hvs) (revL_len hvm) hne
  · have e : cmpN s.toList m.toList = 0 := by
      rw [cmpN_good.zero]; simpa using hne
    rw [e]
    clear e
    go_enter Tryd.func68, Tryd.ntmps68
    go_wp2
    refine bodyPost_ret (v := .int .i64 0) (by simp [results, Tryd.f68, go_sem]) rfl ⟨rfl, (Below.refl _ _).alloc (Nat.le_refl _) _⟩

set_option maxHeartbeats 400000 in
theorem Compare_any (s z : ByteArray) (w : World) (hs : s.size ≤ maxLen) (hz : z.size ≤ maxLen) (hvs : validB s.toList = true) (hvz : validB z.toList = true) :
    Calls Tryd.prog 51 #[.string s, .string z] w fun e w' => e = .returned (.tuple #[.int .i64 (cmpN s.toList z.toList), .int .i64 0]) ∧ Below w.heap.size w w' := by
  have h1 := fun W => valid_any s W hs
  have h2 := fun W => valid_any z W hz
  have h3 := fun W => tcompare_all s z W hs hz hvs hvz
  rw [hvs] at h1
  rw [hvz] at h2
  generalize cmpN s.toList z.toList = b at *
  have H1 := Lib.hid h1
  have H2 := Lib.hid h2
  have H3 := Lib.hid h3
  clear h1 h2 h3 hvs hvz
  go_enter Tryd.func51, Tryd.ntmps51
  go_wp2_with (first | (go_at_call 30; first | ((with_reducible refine (H1.out _).mono ?_); rintro e w4 ⟨rfl, rfl⟩) | ((with_reducible refine (H2.out _).mono ?_); rintro e w4 ⟨rfl, rfl⟩)) | (go_at_call 68; refine (H3.out _).mono ?_; rintro e w4 ⟨rfl, hb⟩))
  go_ret2
  exact ⟨rfl, hb⟩
end Go.Proofs.YtmnbcjchfbfngaaDoor
