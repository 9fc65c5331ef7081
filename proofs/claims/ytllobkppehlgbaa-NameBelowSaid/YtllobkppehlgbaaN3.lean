/- Contracts of parent, Parent, Under and Common of package name; no condition beyond those that each theorem names. -/
import Derived.Test.YtllobkppehlgbaaN2
namespace Go.Proofs.Ytllobkppehlgbaa
open Go.RowKit
open NmP

def rootS : ByteArray := ⟨#[46]⟩
theorem rootS_toList : rootS.toList = [46] := by rw [tl]; rfl
/-- The name above, as a text. -/
def parentS (s : ByteArray) : ByteArray := if Lib.indexByte s.toList 46 < 0 then rootS else s.extract ((Lib.indexByte s.toList 46).toNat + 1) s.size
theorem parentS_toList (s : ByteArray) : (parentS s).toList = parentL s.toList := by
  unfold parentS parentL
  split
  · exact rootS_toList
  · rw [tl_sub, List.take_of_length_le (by rw [List.length_drop, tl_len]; omega)]
theorem parentS_size (s : ByteArray) : (parentS s).size ≤ s.size + 1 := by
  unfold parentS
  split
  · show 1 ≤ _; omega
  · rw [ByteArray.size_extract]; omega

theorem index_lt (s : ByteArray) : Lib.indexByte s.toList 46 < s.size := by
  rcases @index_split s.toList with ⟨h, _⟩ | ⟨a, b, e, _, h⟩
  · omega
  · rw [h, ← tl_len s, e]; simp; omega

set_option maxHeartbeats 400000 in
theorem tparent_any (s : ByteArray) (w : World) (hs : s.size ≤ maxLen) :
    Calls Try.prog 40 #[.string s] w fun e w' => e = .returned (.string (parentS s)) ∧ w = w' := by
  unfold maxLen at hs
  have hi := fun W => Try.strings_IndexByte s 46 W
  have h46 : (46 : Int).toNat.toUInt8 = 46 := rfl
  rw [h46] at hi
  have hlt := index_lt s
  have hge := Lib.indexByte_ge s.toList 46
  rw [← tl] at hi
  have HP : Hid (parentS s = if Lib.indexByte s.toList 46 < 0 then rootS else s.extract ((Lib.indexByte s.toList 46).toNat + 1) s.size) := Lib.hid rfl
  generalize Lib.indexByte s.toList 46 = i at *
  clear h46
  have HI := Lib.hid hi
  clear hi
  by_cases h : i < 0
  · go_enter Try.func40, Try.ntmps40
    go_wp2_with (go_at_call 59; refine (HI.out _).mono ?_; rintro e w4 ⟨rfl, rfl⟩)
    go_ret
    exact ⟨by rw [HP.out, if_pos h]; rfl, rfl⟩
  · obtain ⟨n, rfl⟩ := Int.eq_ofNat_of_zero_le (show 0 ≤ i by omega)
    go_enter Try.func40, Try.ntmps40
    go_wp2_with (go_at_call 59; refine (HI.out _).mono ?_; rintro e w4 ⟨rfl, rfl⟩)
    go_ret
    exact ⟨by rw [HP.out, if_neg (show ¬ (n : Int) < 0 by omega)]; rfl, rfl⟩

set_option maxHeartbeats 400000 in
theorem parent_root (w : World) : Calls Try.prog 21 #[.string rootS] w fun e w' => e = .returned (.tuple #[.string ByteArray.empty, .int .i64 4]) ∧ w = w' := by
  have hv := fun W => valid_any rootS W (by decide)
  rw [show validB rootS.toList = true by rw [rootS_toList]; rfl] at hv
  have HV := Lib.hid hv
  clear hv
  have h2 : (rootS.toList == [46]) = true := by rw [rootS_toList]; rfl
  go_enter Try.func21, Try.ntmps21
  go_wp2_with (go_at_call 15; refine (HV.out _).mono ?_; rintro e w4 ⟨rfl, rfl⟩)
  go_ret2
  exact ⟨rfl, rfl⟩
set_option maxHeartbeats 400000 in
theorem parent_any (s : ByteArray) (w : World) (hs : s.size ≤ maxLen) (hv : validB s.toList = true) (hr : s.toList ≠ [46]) :
    Calls Try.prog 21 #[.string s] w fun e w' => e = .returned (.tuple #[.string (parentS s), .int .i64 0]) ∧ w = w' := by
  have h2 : (s.toList == [46]) = false := by simpa using hr
  have h3 := fun W => valid_any s W hs
  rw [hv] at h3
  have HV := Lib.hid h3
  have HP := Lib.hid (fun W => tparent_any s W hs)
  clear hv hr h3
  go_enter Try.func21, Try.ntmps21
  go_wp2_with (first | (go_at_call 15; refine (HV.out _).mono ?_; rintro e w4 ⟨rfl, rfl⟩) | (go_at_call 40; refine (HP.out _).mono ?_; rintro e w4 ⟨rfl, rfl⟩))
  go_ret2
  exact ⟨rfl, rfl⟩

set_option maxHeartbeats 400000 in
theorem Under_any (s z : ByteArray) (w : World) (hs : s.size ≤ maxLen) (hz : z.size ≤ maxLen) (hvs : validB s.toList = true) (hvz : validB z.toList = true) :
    Calls Try.prog 34 #[.string s, .string z] w fun e w' => e = .returned (.tuple #[.bool (underB s.toList z.toList), .int .i64 0]) ∧ w = w' := by
  have h1 := fun W => valid_any s W hs
  have h2 := fun W => valid_any z W hz
  have h3 := fun W => under_any s z W hs hz
  rw [hvs] at h1
  rw [hvz] at h2
  generalize underB s.toList z.toList = b at *
  have H1 := Lib.hid h1
  have H2 := Lib.hid h2
  have H3 := Lib.hid h3
  clear h1 h2 h3 hvs hvz
  go_enter Try.func34, Try.ntmps34
  go_wp2_with (first | (go_at_call 15; first | ((with_reducible refine (H1.out _).mono ?_); rintro e w4 ⟨rfl, rfl⟩) | ((with_reducible refine (H2.out _).mono ?_); rintro e w4 ⟨rfl, rfl⟩)) | (go_at_call 41; refine (H3.out _).mono ?_; rintro e w4 ⟨rfl, rfl⟩))
  go_ret2
  exact ⟨rfl, rfl⟩

/-- The statements' own 'under'. -/
theorem lunder_any (s z : ByteArray) (w : World) (hs : s.size ≤ maxLen) (hz : z.size ≤ maxLen) (hvs : validB s.toList = true) (hvz : validB z.toList = true) :
    Calls Try.prog 20 #[.string s, .string z] w fun e w' => e = .returned (.bool (underB s.toList z.toList)) ∧ w = w' := by
  have h3 := fun W => Under_any s z W hs hz hvs hvz
  generalize hb : underB s.toList z.toList = b at *
  have H3 := Lib.hid h3
  clear h3 hvs hvz hb
  cases b
  all_goals
    go_enter Try.func20, Try.ntmps20
    go_wp2_with (go_at_call 34; refine (H3.out _).mono ?_; rintro e w4 ⟨rfl, rfl⟩)
    go_ret
    exact ⟨rfl, rfl⟩
end Go.Proofs.Ytllobkppehlgbaa
