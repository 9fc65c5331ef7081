/- The contracts of Valid, Parts, In and Under of the reference implementation of names: they are those of package name; no condition beyond those that each theorem names. -/
import Derived.Test.YtkhckgknldiheaaDoorVS
namespace Go.Proofs.YtkhckgknldiheaaDoor
set_option linter.unusedSimpArgs false
set_option linter.unusedVariables false
open Go.RowKit
open NmP

/-- A slice that holds texts. -/
def SlZ (v : Value) (L : List ByteArray) (W : World) : Prop := (L = [] ∧ ∃ p c, v = .slice p 0 c) ∨ ∃ g c, v = .slice (some ⟨g, 0, none⟩) L.length c ∧ g < W.heap.size ∧ ∀ (j : Nat) (hj : j < L.length), W.cell? ⟨g, j, none⟩ = some (.string L[j])
theorem SlZ.keep {v : Value} {L : List ByteArray} {W W' : World} (h : SlZ v L W) (hb : Below W.heap.size W W') : SlZ v L W' := by
  rcases h with h | ⟨g, c, h1, h2, h3⟩
  · exact .inl h
  · exact .inr ⟨g, c, h1, Nat.lt_of_lt_of_le h2 hb.size, fun j hj => by rw [World.cell?_of_block (hb.block g h2)]; exact h3 j hj⟩
theorem SlZ.form {v : Value} {L : List ByteArray} {W : World} (h : SlZ v L W) : ∃ p c, v = .slice p L.length c := by
  rcases h with ⟨h, p, c, h2⟩ | ⟨g, c, h1, _⟩
  · exact ⟨p, c, by rw [h2, h]; rfl⟩
  · exact ⟨_, c, h1⟩
theorem SlZ.at_ {p : Option Addr} {n c : Nat} {L : List ByteArray} {W : World} (h : SlZ (.slice p n c) L W) (h1 : 0 < L.length) : ∃ g, p = some ⟨g, 0, none⟩ ∧ g < W.heap.size ∧ ∀ (j : Nat) (hj : j < L.length), W.cell? ⟨g, j, none⟩ = some (.string L[j]) := by
  rcases h with ⟨h, _⟩ | ⟨g, c, h2, h3⟩
  · rw [h] at h1; cases h1
  · cases h2; exact ⟨g, rfl, h3⟩
theorem StrBuf.slz {B : Nat} {v : Value} {L : List ByteArray} {W0 w : World} (h : StrBuf B v L W0 w) : SlZ v L w := by
  obtain ⟨⟨hl, h1⟩, h2, h3⟩ := h
  rcases h1 with ⟨rfl, h1⟩ | ⟨g, cap, cur, rfl, hb, hg, hn, hc, hs, ht⟩
  · exact .inl ⟨List.eq_nil_of_length_eq_zero h1, _, _, rfl⟩
  · refine .inr ⟨g, cap, rfl, (Array.getElem?_eq_some_iff.1 hg).1, fun j hj => ?_⟩
    refine cell_of_blk hg _ _ ?_
    have := congrArg (·[j]?) ht
    simp only [List.getElem?_take, Nat.mul_one] at this
    rw [if_pos hj, Array.getElem?_toList] at this
    rw [this, List.getElem?_map, List.getElem?_eq_getElem hj]
    rfl

theorem labelB_or (l : Bs) (f : Bool) : labelB l f = ((f && l == [42]) || labelB l false) := by cases f <;> simp [labelB]
theorem tlz_len (L : List ByteArray) : (tlz L).length = L.length := by simp [tlz]
theorem tlz_drop {L : List ByteArray} {k : Nat} (hk : k < L.length) : (tlz L).drop k = L[k].toList :: (tlz L).drop (k + 1) := by
  rw [List.drop_eq_getElem_cons (by rw [tlz_len]; exact hk)]; simp [tlz]
theorem labs_next {L : List ByteArray} {k : Nat} {R : Bool} (h : labsOK (decide (k = 0)) ((tlz L).drop k) = R) (hk : k < L.length) :
    (labelB L[k].toList (decide (k = 0)) && labsOK (decide (k + 1 = 0)) ((tlz L).drop (k + 1))) = R := by
  rw [tlz_drop hk] at h
  rw [← h]
  rfl
theorem validB_of {x : ByteArray} {L : List ByteArray} (hL : tlz L = splitF x.toList) (h1 : (x.toList == [46]) = false) (h2 : x.size ≤ 60) : validB x.toList = (labsOK true (tlz L) && decide (L.length ≤ 8)) := by
  unfold validB
  rw [h1, Bool.false_or, ← hL, tl_len, tlz_len]
  by_cases h0 : 1 ≤ x.size
  · simp [h0, h2]
  · have : x.toList = [] := List.eq_nil_of_length_eq_zero (by rw [tl_len]; omega)
    rw [this] at hL
    rw [hL]
    simp [h0, splitF, labsOK, labelB]
theorem star_ne (y : ByteArray) : (y.toList == [42]) = (y.toList == ([42] : List UInt8)) := rfl

theorem splitF_count : ∀ l : Bs, (splitF l).length ≤ l.length + 1
  | [] => Nat.le_refl _
  | c :: t => by
    have ih := splitF_count t
    rw [splitF_cons]
    by_cases hc : c = 46
    · rw [if_pos hc]; simp; omega
    · rw [if_neg hc]; simp; omega
def ToB (b : Bool) (w : World) (e : Ending) (w' : World) : Prop := e = .returned (.bool b) ∧ Below w.heap.size w w'

set_option maxHeartbeats 2000000 in
theorem rvalid_any (x : ByteArray) (w : World) (hx : x.size ≤ maxLen) :
    Calls Tryd.prog 37 #[.string x] w (ToB (validB x.toList) w) := by
  unfold maxLen at hx
  cases h1 : (x.toList == [46])
  · by_cases h2 : x.size ≤ 60
    · have HS := Lib.hid (fun W => rsplit_any x W (by omega))
      have HV := Lib.hid (fun (L : List ByteArray) (h : tlz L = splitF x.toList) => validB_of h h1 h2)
      have hn : ∀ L : List ByteArray, tlz L = splitF x.toList → L.length ≤ 1000 ∧ ∀ y ∈ L, y.size ≤ 60 := fun L hL => by
        refine ⟨?_, fun y hy => ?_⟩
        · have := splitF_count x.toList
          rw [← hL, tlz_len, tl_len] at this
          omega
        · have := splitF_le x.toList y.toList (by rw [← hL]; exact List.mem_map_of_mem hy)
          rw [tl_len, tl_len] at this
          omega
      have HN := Lib.hid hn
      clear hn
      go_enter Tryd.func37, Tryd.ntmps37
      go_wp2_with (go_at_call 62; (with_reducible refine (HS.out _).mono ?_); rintro e w1 ⟨v, L, rfl, hL, hB⟩; have HB := Lib.hid hB; have HL := Lib.hid hL; clear hB hL)
      have hz := HB.out.slz
      obtain ⟨p, c, rfl⟩ := hz.form
      have hlen := (HN.out L HL.out).1
      have HZ := Lib.hid (HN.out L HL.out).2
      have HE := Lib.hid (HV.out L HL.out)
      have HW := Lib.hid HB.out.2.1
      obtain ⟨R, hR⟩ : ∃ R, labsOK true (tlz L) = R := ⟨_, rfl⟩
      have HR : Hid (labsOK (decide (0 = 0)) ((tlz L).drop 0) = R) := Lib.hid hR
      have HE2 : Hid (validB x.toList = (R && decide (L.length ≤ 8))) := Lib.hid (by rw [← hR]; exact HE.out)
      clear hR HE HN HV HL HB
      have HZZ := Lib.hid hz
      clear hz
      obtain ⟨n, hnn⟩ : ∃ n, L.length = n := ⟨_, rfl⟩
      have HNN := Lib.hid hnn
      rw [hnn] at hlen HE2 HZZ ⊢
      clear hnn
      go_loop [4] (fun s4 => ∃ k : Nat, k ≤ n ∧ s4 = .int .i64 k ∧ Hid (labsOK (decide (k = 0)) ((tlz L).drop k) = R)) (fun s4 => n - (intOf s4).toNat)
      case atStart => exact ⟨0, by omega, rfl, HR⟩
      case round =>
        obtain ⟨k, hk, rfl, H1⟩ := hrel
        by_cases hlt : k < n
        · have hkl : k < L.length := by rw [HNN.out]; exact hlt
          obtain ⟨g, rfl, hgl, hc⟩ := HZZ.out.at_ (by omega)
          have z := hc k hkl
          have HY := Lib.hid (fun W => rlabel_any L[k] W (by have := HZ.out L[k] (List.getElem_mem hkl); unfold maxLen; omega))
          have h4 := labs_next H1.out hkl
          have e0 : decide (k + 1 = 0) = false := decide_eq_false (by omega)
          rw [labelB_or] at h4
          generalize labelB L[k].toList false = b at *
          generalize L[k] = y at *
          have hi : (k : Int) < (n : Int) := by omega
          clear hc
          cases b
          · by_cases hk0 : k = 0
            · subst hk0
              cases h5 : (y.toList == [42])
              · have HF : Hid (R = false) := Lib.hid (by rw [← h4, h5]; rfl)
                clear h4
                go_wp2_with (go_at_call 60; (with_reducible refine (HY.out _).mono ?_); rintro e w2 ⟨rfl, rfl⟩)
                go_ret
                exact ⟨by rw [HE2.out, HF.out]; rfl, HW.out⟩
              · rw [h5] at h4
                have H2 : Hid (labsOK (decide (0 + 1 = 0)) ((tlz L).drop (0 + 1)) = R) := Lib.hid h4
                clear h4
                go_wp2_with (go_at_call 60; (with_reducible refine (HY.out _).mono ?_); rintro e w2 ⟨rfl, rfl⟩)
                go_round
                · exact ⟨0 + 1, hlt, by go_num, H2⟩
                · simp [intOf]
                  omega
            · have e1 : decide (k = 0) = false := decide_eq_false hk0
              have HF : Hid (R = false) := Lib.hid (by rw [← h4, e1]; rfl)
              have hk1 : (0 : Int) < (k : Int) := by omega
              clear h4 e1
              go_wp2_with (go_at_call 60; (with_reducible refine (HY.out _).mono ?_); rintro e w2 ⟨rfl, rfl⟩)
              go_ret
              exact ⟨by rw [HE2.out, HF.out]; rfl, HW.out⟩
          · rw [Bool.or_true, Bool.true_and] at h4
            have H2 := Lib.hid h4
            clear h4
            go_wp2_with (go_at_call 60; (with_reducible refine (HY.out _).mono ?_); rintro e w2 ⟨rfl, rfl⟩)
            go_round
            · exact ⟨k + 1, hlt, by go_num, H2⟩
            · simp [intOf]
              omega
        · obtain rfl : k = n := by omega
          have h4 := H1.out
          rw [List.drop_eq_nil_of_le (by rw [tlz_len, HNN.out]; exact Nat.le_refl _)] at h4
          have HT : Hid (R = true) := Lib.hid (by rw [← h4]; cases decide (k = 0) <;> rfl)
          clear h4
          by_cases h8 : k ≤ 8
          · have h9 : (k : Int) ≤ 8 := by omega
            go_wp2
            go_ret
            exact ⟨by rw [HE2.out, HT.out]; simp [h8, h9], HW.out⟩
          · have h9 : ¬ (k : Int) ≤ 8 := by omega
            go_wp2
            go_ret
            exact ⟨by rw [HE2.out, HT.out]; simp [h8, h9], HW.out⟩
    · have HR : Hid (validB x.toList = false) := Lib.hid (by unfold validB; rw [h1, tl_len]; simp [h2])
      go_enter Tryd.func37, Tryd.ntmps37
      go_wp2
      go_ret
      exact ⟨by rw [HR.out]; rfl, Below.refl _ _⟩
  · have HR : Hid (validB x.toList = true) := Lib.hid (by unfold validB; rw [h1]; rfl)
    go_enter Tryd.func37, Tryd.ntmps37
    go_wp2
    go_ret
    exact ⟨by rw [HR.out]; rfl, Below.refl _ _⟩

def PartsTo (x : ByteArray) (w : World) (e : Ending) (w' : World) : Prop := ∃ v L, e = .returned v ∧ tlz L = labs x.toList ∧ SlZ v L w' ∧ Below w.heap.size w w'
theorem rparts_any (x : ByteArray) (w : World) (hx : x.size ≤ 1000000) : Calls Tryd.prog 28 #[.string x] w (PartsTo x w) := by
  have HS := Lib.hid (fun W => rsplit_any x W hx)
  cases h1 : (x.toList == [46])
  · have HR : Hid (labs x.toList = splitF x.toList) := Lib.hid (labs_of (by simpa using h1))
    go_enter Tryd.func28, Tryd.ntmps28
    go_wp2_with (go_at_call 62; (with_reducible refine (HS.out _).mono ?_); rintro e w1 ⟨v, L, rfl, hL, hB⟩; have HB := Lib.hid hB; have HL := Lib.hid hL; clear hB hL)
    go_ret
    exact ⟨v, L, rfl, by rw [HR.out]; exact HL.out, HB.out.slz, HB.out.2.1⟩
  · have HR : Hid (labs x.toList = []) := Lib.hid (by unfold labs; exact if_pos (by simpa using h1))
    go_enter Tryd.func28, Tryd.ntmps28
    go_wp2
    go_ret
    exact ⟨_, [], rfl, by rw [HR.out]; rfl, .inl ⟨rfl, _, _, rfl⟩, Below.refl _ _⟩
end Go.Proofs.YtkhckgknldiheaaDoor
