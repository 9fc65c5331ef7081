/- The contracts of In and Under of the reference implementation of names; no condition beyond those that each theorem names. -/
import Derived.Test.YtkhckgknldiheaaDoorVV
namespace Go.Proofs.YtkhckgknldiheaaDoor
set_option linter.unusedSimpArgs false
set_option linter.unusedVariables false
open Go.RowKit
open NmP

/-- The second list is the end of the first one. -/
def endB (l m : List Bs) : Bool := decide (m.length ≤ l.length) && (l.drop (l.length - m.length) == m)
theorem endB_iff (l m : List Bs) : endB l m = true ↔ m <:+ l := by
  unfold endB
  rw [Bool.and_eq_true, decide_eq_true_iff, beq_iff_eq]
  constructor
  · rintro ⟨h, h2⟩
    exact h2 ▸ List.drop_suffix _ _
  · rintro ⟨t, rfl⟩
    simp
theorem end_under {l m : Bs} (hl : okN l) : endB (labs l) (labs m) = underB l m := by
  rw [Bool.eq_iff_iff, endB_iff, under_iff hl]

set_option maxHeartbeats 2000000 in
set_option maxRecDepth 100000 in
theorem rin_any (x z : ByteArray) (w : World) (hx : x.size ≤ 1000000) (hz : z.size ≤ 1000000) : Calls Tryd.prog 25 #[.string x, .string z] w (ToB (endB (labs x.toList) (labs z.toList)) w) := by
  have HS := Lib.hid (fun W => rparts_any x W hx)
  have HS2 := Lib.hid (fun W => rparts_any z W hz)
  have hn : ∀ (y : ByteArray) (L : List ByteArray), y.size ≤ 1000000 → tlz L = labs y.toList → L.length ≤ 1000001 := fun y L hy hL => by
    have h1 := splitF_count y.toList
    have h2 := tlz_len L
    rw [hL] at h2
    rw [tl_len] at h1
    unfold labs at h2
    split at h2
    · simp at h2; omega
    · omega
  have HN := Lib.hid hn
  clear hn
  obtain ⟨R, hR⟩ : ∃ R, endB (labs x.toList) (labs z.toList) = R := ⟨_, rfl⟩
  rw [hR]
  have HR := Lib.hid hR
  clear hR
  go_enter Tryd.func25, Tryd.ntmps25
  go_wp2_with (first | (go_at_call 28; first | ((with_reducible refine (HS.out _).mono ?_); rintro e w1 ⟨v, L, rfl, hL, hZ, hB⟩; have HZ1 := Lib.hid hZ; have HL1 := Lib.hid hL; have HB1 := Lib.hid hB; obtain ⟨p, c, rfl⟩ := hZ.form; have HL1n := Lib.hid (HN.out x L hx hL); clear hL hZ hB) | ((with_reducible refine (HS2.out _).mono ?_); rintro e w2 ⟨v, M, rfl, hL, hZ, hB⟩; have HZ2 := Lib.hid hZ; have HL2 := Lib.hid hL; have HB2 := Lib.hid (HB1.out.trans (hB.mono HB1.out.size)); have HZ3 := Lib.hid (HZ1.out.keep hB); obtain ⟨p2, c2, rfl⟩ := hZ.form; have HL2n := Lib.hid (HN.out z M hz hL); clear hL hZ hB)))
  · have hlt : L.length < M.length := by omega
    have HF : Hid (R = false) := Lib.hid (by
      rw [← HR.out, ← HL1.out, ← HL2.out]
      unfold endB
      rw [tlz_len, tlz_len, decide_eq_false (by omega)]; rfl)
    go_ret
    exact ⟨by rw [HF.out]; rfl, HB2.out⟩
  · have hle : M.length ≤ L.length := by omega
    obtain ⟨a, ha⟩ : ∃ a, L.length = a + M.length := ⟨L.length - M.length, by omega⟩
    have HH : Hid (((tlz L).drop (a + 0) == (tlz M).drop 0) = R) := Lib.hid (by
      rw [← HR.out, ← HL1.out, ← HL2.out]
      unfold endB
      rw [tlz_len, tlz_len, decide_eq_true hle, Bool.true_and, ha, Nat.add_sub_cancel]; rfl)
    have hb1 := HL1n.out
    have HA := Lib.hid ha
    obtain ⟨m, hm⟩ : ∃ m, M.length = m := ⟨_, rfl⟩
    have HM := Lib.hid hm
    have hZ1 := HZ3.out
    have hZ2 := HZ2.out
    rw [ha, hm] at hZ1 hb1
    rw [hm] at hZ2
    rw [hm] at ha
    rw [ha]
    rw [hm]
    have HZ4 := Lib.hid hZ1
    have HZ5 := Lib.hid hZ2
    clear hZ1 hZ2 ha hm hle HZ3 HZ2 HZ1 HB1 HR HL1n HL2n HN HS HS2
    go_loopw [7] (fun s7 wr => ∃ (k q : Nat), k ≤ m ∧ s7 = .int .i64 k ∧ Hid (((tlz L).drop (a + k) == (tlz M).drop k) = R) ∧ wr = w2.drewN q) (fun s7 _ => m - (intOf s7).toNat)
    case atStart => exact ⟨0, 0, by omega, rfl, HH, rfl⟩
    case round =>
      obtain ⟨k, q, hk, rfl, H1, rfl⟩ := hrel
      by_cases hlt : k < m
      · have hkM : k < M.length := by rw [HM.out]; exact hlt
        have hkL : a + k < L.length := by rw [HA.out, HM.out]; omega
        obtain ⟨g, rfl, hgl, hc⟩ := HZ4.out.at_ (by omega)
        obtain ⟨g2, rfl, hgl2, hc2⟩ := HZ5.out.at_ (by omega)
        have y1 : w2.cell? ⟨g, a + k, none⟩ = some (.string L[a + k]) := hc (a + k) hkL
        have y2 : w2.cell? ⟨g2, k, none⟩ = some (.string M[k]) := hc2 k hkM
        have z1 : (w2.drewN q).cell? ⟨g, a + k, none⟩ = some (.string L[a + k]) := hc (a + k) hkL
        have z2 : (w2.drewN q).cell? ⟨g2, k, none⟩ = some (.string M[k]) := hc2 k hkM
        have z3 : (w2.drewN q).drew.cell? ⟨g, a + k, none⟩ = some (.string L[a + k]) := z1
        have z4 : (w2.drewN q).drew.cell? ⟨g2, k, none⟩ = some (.string M[k]) := z2
        have h1 := H1.out
        rw [tlz_drop hkL, tlz_drop hkM] at h1
        generalize L[a + k] = u at *
        generalize M[k] = v at *
        have v1 : IntKind.i64.wrap (a : Int) = (a : Int) := IntWalk.i64_in _ (by omega)
        have v2 : IntKind.i64.wrap ((a : Int) + (m : Int) - (m : Int)) = (a : Int) := by rw [Int.add_sub_cancel]; exact v1
        have v3 : IntKind.i64.wrap ((a : Int) + (k : Int)) = (a : Int) + (k : Int) := IntWalk.i64_in _ (by omega)
        have n1 : (k : Int) < (m : Int) := by omega
        have n2 : (0 : Int) ≤ (a : Int) + (k : Int) := by omega
        have n3 : (a : Int) + (k : Int) < (a : Int) + (m : Int) := by omega
        have n4 : ((a : Int) + (k : Int)).toNat = a + k := by omega
        clear hc hc2 H1
        cases e : (u.toList == v.toList)
        · have HF : Hid (R = false) := Lib.hid (by rw [← h1]; show (u.toList == v.toList && _) = false; rw [e]; rfl)
          clear h1
          go_wp2
          go_region
          go_wp2
          go_ret
          exact ⟨by rw [HF.out]; rfl, below_drewD HB2.out _⟩
        · have H2 : Hid (((tlz L).drop (a + (k + 1)) == (tlz M).drop (k + 1)) = R) := Lib.hid (by rw [← h1]; show _ = (u.toList == v.toList && _); rw [e, Bool.true_and]; rfl)
          clear h1
          go_wp2
          go_region
          go_wp2
          go_roundw
          case rel => exact ⟨k + 1, q + 1, hlt, by go_num, H2, rfl⟩
          case measure =>
            simp [intOf]
            omega
      · obtain rfl : k = m := by omega
        have h1 := H1.out
        rw [List.drop_eq_nil_of_le (by rw [tlz_len, HA.out, HM.out]; exact Nat.le_refl _), List.drop_eq_nil_of_le (by rw [tlz_len, HM.out]; exact Nat.le_refl _)] at h1
        have HT : Hid (R = true) := Lib.hid h1.symm
        clear h1
        go_wp2
        go_ret
        exact ⟨by rw [HT.out]; rfl, below_drewD HB2.out _⟩

def UnderTo (s z : Bs) (w : World) (e : Ending) (w' : World) : Prop := e = .returned (.tuple #[.bool (inB s z), .int .i64 (inE s z)]) ∧ Below w.heap.size w w'
set_option maxHeartbeats 1000000 in
theorem runder_any (s z : ByteArray) (w : World) (hs : s.size ≤ maxLen) (hz : z.size ≤ maxLen) :
    Calls Tryd.prog 97 #[.string s, .string z] w (UnderTo s.toList z.toList w) := by
  have H1 := Lib.hid (fun W => rvalid_any s W hs)
  have H2 := Lib.hid (fun W => rvalid_any z W hz)
  have H3 := Lib.hid (fun (h : validB s.toList = true) (h2 : validB z.toList = true) W => by
    have a := rin_any s z W (by have := (valid_len h).2.2; rw [tl_len] at this; omega) (by have := (valid_len h2).2.2; rw [tl_len] at this; omega)
    rwa [end_under (valid_ok h)] at a)
  unfold UnderTo inB inE
  generalize underB s.toList z.toList = b at *
  generalize validB s.toList = p at *
  generalize validB z.toList = q at *
  cases p
  · go_enter Tryd.func97, Tryd.ntmps97
    go_wp2_with (go_at_call 37; first | ((with_reducible refine (H1.out _).mono ?_); rintro e w4 ⟨rfl, hb4⟩) | ((with_reducible refine (H2.out _).mono ?_); rintro e w5 ⟨rfl, hb5⟩))
    go_ret2
    exact ⟨rfl, hb4.trans (hb5.mono hb4.size)⟩
  · cases q
    · go_enter Tryd.func97, Tryd.ntmps97
      go_wp2_with (go_at_call 37; first | ((with_reducible refine (H1.out _).mono ?_); rintro e w4 ⟨rfl, hb4⟩) | ((with_reducible refine (H2.out _).mono ?_); rintro e w5 ⟨rfl, hb5⟩))
      go_ret2
      exact ⟨rfl, hb4.trans (hb5.mono hb4.size)⟩
    · have H4 := Lib.hid (H3.out rfl rfl)
      clear H3
      go_enter Tryd.func97, Tryd.ntmps97
      go_wp2_with (first | (go_at_call 37; first | ((with_reducible refine (H1.out _).mono ?_); rintro e w4 ⟨rfl, hb4⟩) | ((with_reducible refine (H2.out _).mono ?_); rintro e w5 ⟨rfl, hb5⟩)) | (go_at_call 25; (with_reducible refine (H4.out _).mono ?_); rintro e w6 ⟨rfl, hb6⟩))
      go_ret2
      exact ⟨rfl, (hb4.trans (hb5.mono hb4.size)).trans (hb6.mono (Nat.le_trans hb4.size hb5.size))⟩
end Go.Proofs.YtkhckgknldiheaaDoor
