/- The contract of Under of package name, for all texts; no condition beyond those that each theorem names. -/
import Derived.Test.YtkhckgknldiheaaDoorN2
namespace Go.Proofs.YtkhckgknldiheaaDoor
set_option linter.unusedSimpArgs false
set_option linter.unusedVariables false
open Go.RowKit
open NmP

theorem under_eq (s z : ByteArray) : underB s.toList z.toList = (z.toList == [46] || s.toList == z.toList || (decide (z.size + 1 < s.size) && s.toList[s.size - z.size - 1]? == some 46 && (s.extract (s.size - z.size) s.size).toList == z.toList)) := by
  unfold underB
  rw [tl_len, tl_len, tl_sub, List.take_of_length_le (by rw [List.length_drop, tl_len]; omega)]

set_option maxHeartbeats 400000 in
theorem under_any (s z : ByteArray) (w : World) (hs : s.size ≤ maxLen) (hz : z.size ≤ maxLen) :
    Calls Tryd.prog 78 #[.string s, .string z] w fun e w' => e = .returned (.bool (underB s.toList z.toList)) ∧ w = w' := by
  unfold maxLen at hs hz
  have HG := Lib.hid (fun (h : z.size + 1 < s.size) => tl_get s (s.size - z.size - 1) (by omega))
  go_enter Tryd.func78, Tryd.ntmps78
  go_wp2
  all_goals go_ret
  all_goals refine ⟨ret_bool ?_, rfl⟩
  all_goals rw [under_eq]
  · rename_i h; simp [h]
  · rename_i h; rcases h with h | h <;> simp [h]
  · have h4 : z.size + 1 < s.size := by omega
    rw [HG.out h4, some_c]
    rename_i h2 h3 h5 h6
    have h7 : (s[s.size - z.size - 1]'(by omega)).toNat = 46 := by omega
    simp [h2, h4, h7]
  · have h4 : z.size + 1 < s.size := by omega
    rw [HG.out h4, some_c]
    rename_i h2 h3 h5 h6
    have h7 : ¬ (s[s.size - z.size - 1]'(by omega)).toNat = 46 := by omega
    simp [h2, h7]
  · have h4 : ¬ z.size + 1 < s.size := by omega
    rename_i h2 h3
    simp [h2, h4]

/-- Both are names, and the first one is under the second one. -/
def inB (s z : Bs) : Bool := validB s && validB z && underB s z
def inE (s z : Bs) : Int := if (validB s && validB z) = true then 0 else 11
set_option maxHeartbeats 1000000 in
theorem Under_all (s z : ByteArray) (w : World) (hs : s.size ≤ maxLen) (hz : z.size ≤ maxLen) :
    Calls Tryd.prog 57 #[.string s, .string z] w fun e w' => e = .returned (.tuple #[.bool (inB s.toList z.toList), .int .i64 (inE s.toList z.toList)]) ∧ w = w' := by
  have H1 := Lib.hid (fun W => valid_any s W hs)
  have H2 := Lib.hid (fun W => valid_any z W hz)
  have H3 := Lib.hid (fun W => under_any s z W hs hz)
  unfold inB inE
  generalize underB s.toList z.toList = b at *
  generalize validB s.toList = p at *
  generalize validB z.toList = q at *
  cases p
  · go_enter Tryd.func57, Tryd.ntmps57
    go_wp2_with (first | (go_at_call 32; first | ((with_reducible refine (H1.out _).mono ?_); rintro e w4 ⟨rfl, rfl⟩) | ((with_reducible refine (H2.out _).mono ?_); rintro e w4 ⟨rfl, rfl⟩)) | (go_at_call 78; refine (H3.out _).mono ?_; rintro e w4 ⟨rfl, rfl⟩))
    go_ret2
    exact ⟨rfl, rfl⟩
  · cases q
    · go_enter Tryd.func57, Tryd.ntmps57
      go_wp2_with (first | (go_at_call 32; first | ((with_reducible refine (H1.out _).mono ?_); rintro e w4 ⟨rfl, rfl⟩) | ((with_reducible refine (H2.out _).mono ?_); rintro e w4 ⟨rfl, rfl⟩)) | (go_at_call 78; refine (H3.out _).mono ?_; rintro e w4 ⟨rfl, rfl⟩))
      go_ret2
      exact ⟨rfl, rfl⟩
    · go_enter Tryd.func57, Tryd.ntmps57
      go_wp2_with (first | (go_at_call 32; first | ((with_reducible refine (H1.out _).mono ?_); rintro e w4 ⟨rfl, rfl⟩) | ((with_reducible refine (H2.out _).mono ?_); rintro e w4 ⟨rfl, rfl⟩)) | (go_at_call 78; refine (H3.out _).mono ?_; rintro e w4 ⟨rfl, rfl⟩))
      go_ret2
      exact ⟨rfl, rfl⟩
end Go.Proofs.YtkhckgknldiheaaDoor
