/- The examples that each statement of layer 1 begins with come out as true; no condition. -/
import Derived.Test.YtllobkppehlgbaaN7
namespace Go.Proofs.Ytllobkppehlgbaa
open Go.RowKit
open NmP

theorem ba_ext {s t : ByteArray} (h : s.toList = t.toList) : s = t := by
  rw [tl, tl] at h
  obtain ⟨⟨a⟩⟩ := s
  obtain ⟨⟨b⟩⟩ := t
  simpa using h

/-- What Labels answers: a slice of the labels in their order. -/
def LabF (s : ByteArray) (w : World) (e : Ending) (w' : World) : Prop :=
  ∃ (b : Nat) (l : List ByteArray), tls l = labs s.toList ∧ e = .returned (.tuple #[.slice (some ⟨b, 0, none⟩) l.length l.length, .int .i64 0]) ∧ (∀ j, (hj : j < l.length) → w'.cell? ⟨b, j, none⟩ = some (.string l[j])) ∧ Below w.heap.size w w'

theorem Labels_fwd (s : ByteArray) (w : World) (hs : s.size ≤ maxLen) (hv : validB s.toList = true) : Calls Try.prog 16 #[.string s] w (LabF s w) := by
  refine (Labels_any s w hs hv).mono ?_
  rintro e w' ⟨⟨b, rfl, hc⟩, hb⟩
  have h8 := revL_len hv
  refine ⟨b, (revL s).reverse, ?_, by rw [List.length_reverse], fun j hj => ?_, hb⟩
  · unfold tls
    rw [List.map_reverse, revL_labels, List.reverse_reverse]
  · rw [List.length_reverse] at hj
    rw [hc j hj, List.getElem_reverse]
    congr 2
    have := lst_at (revL s) ((revL s).length - 1 - j) (by omega) h8
    rw [← this]
    congr 1
    omega
theorem hu1 (W : World) : Calls Try.prog 34 #[.string ⟨#[98, 46, 120]⟩, .string ⟨#[120]⟩] W fun e w' => e = .returned (.tuple #[.bool true, .int .i64 0]) ∧ W = w' := by
  have h := Under_any ⟨#[98, 46, 120]⟩ ⟨#[120]⟩ W (by decide) (by decide) (by rw [tl]; decide) (by rw [tl]; decide)
  rwa [show underB (⟨#[98, 46, 120]⟩ : ByteArray).toList (⟨#[120]⟩ : ByteArray).toList = true by rw [tl, tl]; decide] at h
theorem hu2 (W : World) : Calls Try.prog 34 #[.string ⟨#[98, 120]⟩, .string ⟨#[120]⟩] W fun e w' => e = .returned (.tuple #[.bool false, .int .i64 0]) ∧ W = w' := by
  have h := Under_any ⟨#[98, 120]⟩ ⟨#[120]⟩ W (by decide) (by decide) (by rw [tl]; decide) (by rw [tl]; decide)
  rwa [show underB (⟨#[98, 120]⟩ : ByteArray).toList (⟨#[120]⟩ : ByteArray).toList = false by rw [tl, tl]; decide] at h
theorem hc1 (W : World) : Calls Try.prog 35 #[.string ⟨#[122, 46, 97]⟩, .string ⟨#[98]⟩] W fun e w' => e = .returned (.tuple #[.int .i64 (-1), .int .i64 0]) ∧ Below W.heap.size W w' := by
  have h := Compare_any ⟨#[122, 46, 97]⟩ ⟨#[98]⟩ W (by decide) (by decide) (by rw [tl]; decide) (by rw [tl]; decide)
  rwa [show cmpN (⟨#[122, 46, 97]⟩ : ByteArray).toList (⟨#[98]⟩ : ByteArray).toList = -1 by rw [tl, tl]; decide] at h
theorem hc2 (W : World) : Calls Try.prog 35 #[.string ⟨#[97]⟩, .string ⟨#[122, 46, 97]⟩] W fun e w' => e = .returned (.tuple #[.int .i64 (-1), .int .i64 0]) ∧ Below W.heap.size W w' := by
  have h := Compare_any ⟨#[97]⟩ ⟨#[122, 46, 97]⟩ W (by decide) (by decide) (by rw [tl]; decide) (by rw [tl]; decide)
  rwa [show cmpN (⟨#[97]⟩ : ByteArray).toList (⟨#[122, 46, 97]⟩ : ByteArray).toList = -1 by rw [tl, tl]; decide] at h
theorem hcm (W : World) : Calls Try.prog 22 #[.string ⟨#[97, 46, 98, 46, 120]⟩, .string ⟨#[99, 46, 120]⟩] W fun e w' => e = .returned (.tuple #[.string ⟨#[120]⟩, .int .i64 0]) ∧ W = w' := by
  have h := Common_any ⟨#[97, 46, 98, 46, 120]⟩ ⟨#[99, 46, 120]⟩ W (by decide) (by decide) (by rw [tl]; decide) (by rw [tl]; decide)
  obtain ⟨s1, s2, s3, s4⟩ := comS_spec ⟨#[99, 46, 120]⟩ (by rw [tl]; decide) 9 ⟨#[97, 46, 98, 46, 120]⟩ (by rw [tl]; decide) (by rw [tl]; decide)
  have hx := s4 [120] (by rw [tl]; decide) (by rw [tl]; decide)
  rw [tl (⟨#[97, 46, 98, 46, 120]⟩ : ByteArray)] at s2
  rw [tl (⟨#[99, 46, 120]⟩ : ByteArray)] at s3
  generalize comS 9 (⟨#[97, 46, 98, 46, 120]⟩ : ByteArray) (⟨#[99, 46, 120]⟩ : ByteArray) = c at *
  have e : labs c.toList = [[120]] := by
    have e1 : labs [97, 46, 98, 46, 120] = [[97], [98], [120]] := by decide
    have e2 : labs [99, 46, 120] = [[99], [120]] := by decide
    have e3 : labs [120] = [[120]] := by decide
    rw [show ((⟨#[97, 46, 98, 46, 120]⟩ : ByteArray)).data.toList = [97, 46, 98, 46, 120] from rfl, e1] at s2
    rw [show ((⟨#[99, 46, 120]⟩ : ByteArray)).data.toList = [99, 46, 120] from rfl, e2] at s3
    rw [e3] at hx
    rcases List.suffix_cons_iff.1 s3 with q | q
    · rw [q] at s2; exact absurd s2 (by decide)
    · rcases List.suffix_cons_iff.1 q with q2 | q2
      · exact q2
      · rw [List.suffix_nil.1 q2] at hx; exact absurd hx (by decide)
  have e5 : c = (⟨#[120]⟩ : ByteArray) := ba_ext (by rw [tl (⟨#[120]⟩ : ByteArray)]; exact labs_inj (by rw [e]; decide))
  rwa [e5] at h
theorem hp1 (W : World) : Calls Try.prog 21 #[.string ⟨#[120]⟩] W fun e w' => e = .returned (.tuple #[.string ⟨#[46]⟩, .int .i64 0]) ∧ W = w' := by
  have h := parent_any ⟨#[120]⟩ W (by decide) (by rw [tl]; decide) (by rw [tl]; decide)
  rwa [show parentS (⟨#[120]⟩ : ByteArray) = (⟨#[46]⟩ : ByteArray) by unfold parentS; rw [tl]; rfl] at h
theorem hv0 (W : World) : Calls Try.prog 15 #[.string ⟨#[42, 46, 120]⟩] W fun e w' => e = .returned (.bool true) ∧ W = w' := by
  have h := valid_any ⟨#[42, 46, 120]⟩ W (by decide)
  rwa [show validB (⟨#[42, 46, 120]⟩ : ByteArray).toList = true by rw [tl]; decide] at h
theorem hv1 (W : World) : Calls Try.prog 15 #[.string ⟨#[120, 46, 42]⟩] W fun e w' => e = .returned (.bool false) ∧ W = w' := by
  have h := valid_any ⟨#[120, 46, 42]⟩ W (by decide)
  rwa [show validB (⟨#[120, 46, 42]⟩ : ByteArray).toList = false by rw [tl]; decide] at h
theorem hv2 (W : World) : Calls Try.prog 15 #[.string ⟨#[]⟩] W fun e w' => e = .returned (.bool false) ∧ W = w' := by
  have h := valid_any ⟨#[]⟩ W (by decide)
  rwa [show validB (⟨#[]⟩ : ByteArray).toList = false by rw [tl]; decide] at h
theorem hv3 (W : World) : Calls Try.prog 15 #[.string ⟨#[45, 97]⟩] W fun e w' => e = .returned (.bool false) ∧ W = w' := by
  have h := valid_any ⟨#[45, 97]⟩ W (by decide)
  rwa [show validB (⟨#[45, 97]⟩ : ByteArray).toList = false by rw [tl]; decide] at h
theorem hv4 (W : World) : Calls Try.prog 15 #[.string ⟨#[97, 46, 46, 98]⟩] W fun e w' => e = .returned (.bool false) ∧ W = w' := by
  have h := valid_any ⟨#[97, 46, 46, 98]⟩ W (by decide)
  rwa [show validB (⟨#[97, 46, 46, 98]⟩ : ByteArray).toList = false by rw [tl]; decide] at h
theorem hv5 (W : World) : Calls Try.prog 15 #[.string ⟨#[97, 98, 99, 100, 101, 102, 103, 104, 105, 106, 107, 108, 109]⟩] W fun e w' => e = .returned (.bool false) ∧ W = w' := by
  have h := valid_any ⟨#[97, 98, 99, 100, 101, 102, 103, 104, 105, 106, 107, 108, 109]⟩ W (by decide)
  rwa [show validB (⟨#[97, 98, 99, 100, 101, 102, 103, 104, 105, 106, 107, 108, 109]⟩ : ByteArray).toList = false by rw [tl]; decide] at h

theorem three_of {l : List ByteArray} {a b c : Bs} (h : tls l = [a, b, c]) : ∃ x0 x1 x2, l = [x0, x1, x2] ∧ x0.toList = a ∧ x1.toList = b ∧ x2.toList = c := by
  cases l with
  | nil => simp [tls] at h
  | cons x l =>
    cases l with
    | nil => simp [tls] at h
    | cons y l =>
      cases l with
      | nil => simp [tls] at h
      | cons z l =>
        cases l with
        | nil => simp [tls] at h; exact ⟨x, y, z, rfl, h.1, h.2.1, h.2.2⟩
        | cons => simp [tls] at h

set_option maxHeartbeats 2000000 in
set_option maxRecDepth 100000 in
theorem head_any (w : World) : Calls Try.prog 14 #[] w fun e w' => e = .returned (.bool true) ∧ Below w.heap.size w w' := by
  go_enter Try.func14, Try.ntmps14
  go_wp2_with fail
  refine (Labels_fwd ⟨#[97, 46, 110, 115, 46, 120]⟩ _ (by decide) (by rw [tl]; decide)).mono ?_
  rintro e w1 ⟨b, l, hl, rfl, hc, hb⟩
  rw [show labs (⟨#[97, 46, 110, 115, 46, 120]⟩ : ByteArray).toList = [[97], [110, 115], [120]] by rw [tl]; decide] at hl
  obtain ⟨x0, x1, x2, rfl, hx0, hx1, hx2⟩ := three_of hl
  have c0 := hc 0 (Nat.zero_lt_succ _)
  have c1 := hc 1 (Nat.succ_lt_succ (Nat.zero_lt_succ _))
  have c2 := hc 2 (Nat.succ_lt_succ (Nat.succ_lt_succ (Nat.zero_lt_succ _)))
  simp only [List.getElem_cons_zero, List.getElem_cons_succ] at c0 c1 c2
  have z0 := World.block_lt_of_cell? _ _ c0
  clear hc hl
  simp only [List.length_cons, List.length_nil, Nat.reduceAdd]
  go_wp2_with fail
  refine (Labels_fwd ⟨#[46]⟩ _ (by decide) (by rw [tl]; decide)).mono ?_
  rintro e w2 ⟨b2, l2, hl2, rfl, _, hb2⟩
  rw [show labs (⟨#[46]⟩ : ByteArray).toList = [] by rw [tl]; decide] at hl2
  obtain rfl : l2 = [] := by simpa [tls] using hl2
  clear hl2
  simp only [List.length_nil]
  have d0 : w2.cell? ⟨b, 0, none⟩ = some (.string x0) := (hb2.cell z0).trans c0
  have d1 : w2.cell? ⟨b, 1, none⟩ = some (.string x1) := (hb2.cell z0).trans c1
  have d2 : w2.cell? ⟨b, 2, none⟩ = some (.string x2) := (hb2.cell z0).trans c2
  have HB2 := Lib.hid (hb.trans (hb2.mono hb.size))
  clear c0 c1 c2 z0 hb hb2
  go_wp2_with fail
  refine (hp1 _).mono ?_
  rintro e w3 ⟨rfl, rfl⟩
  go_wp2_with fail
  refine (parent_root _).mono ?_
  rintro e w3 ⟨rfl, rfl⟩
  go_wp2_with fail
  refine (hu1 _).mono ?_
  rintro e w3 ⟨rfl, rfl⟩
  clear d0 d1 d2 hx0 hx1 hx2
  go_wp2_with fail
  refine (hu2 _).mono ?_
  rintro e w3 ⟨rfl, rfl⟩
  go_wp2_with fail
  refine (hc1 _).mono ?_
  rintro e w3 ⟨rfl, hb3⟩
  have HB3 := Lib.hid (HB2.out.trans (hb3.mono HB2.out.size))
  clear hb3
  go_wp2_with fail
  refine (hc2 _).mono ?_
  rintro e w4 ⟨rfl, hb4⟩
  have HB4 := Lib.hid (HB3.out.trans (hb4.mono HB3.out.size))
  clear hb4
  go_wp2_with fail
  refine (hcm _).mono ?_
  rintro e w5 ⟨rfl, rfl⟩
  go_wp2_with fail
  refine (hv0 _).mono ?_
  rintro e w5 ⟨rfl, rfl⟩
  go_wp2_with fail
  refine (hv1 _).mono ?_
  rintro e w5 ⟨rfl, rfl⟩
  go_wp2_with fail
  refine (hv2 _).mono ?_
  rintro e w5 ⟨rfl, rfl⟩
  go_wp2_with fail
  refine (hv3 _).mono ?_
  rintro e w5 ⟨rfl, rfl⟩
  go_wp2_with fail
  refine (hv4 _).mono ?_
  rintro e w5 ⟨rfl, rfl⟩
  go_wp2_with fail
  refine (hv5 _).mono ?_
  rintro e w5 ⟨rfl, rfl⟩
  go_wp2
  go_ret
  exact ⟨rfl, HB4.out⟩
end Go.Proofs.Ytllobkppehlgbaa
