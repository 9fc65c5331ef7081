/- The contract of Join of package name; no condition beyond those that each theorem names. -/
import Derived.Test.YtllobkppehlgbaaN9
import Derived.Test.YtllobkppehlgbaaShelfJ
namespace Go.Proofs.Ytllobkppehlgbaa
open Go.RowKit
open NmP

theorem join_eq : ∀ l : List Bs, Lib.join l [46] = joinD l
  | [] => rfl
  | [x] => by rw [Lib.join_one]; rfl
  | x :: y :: r => by
    rw [joinD_cons x (y :: r) (by simp), ← join_eq (y :: r)]
    rw [Lib.join_cons, Lib.join_cons]
    simp [Lib.joinTail]

/-- The texts, joined by dots. -/
def joinS (xs : List ByteArray) : ByteArray := ⟨(Lib.join (xs.map (·.data.toList)) [46]).toArray⟩
theorem tls_data (xs : List ByteArray) : xs.map (·.data.toList) = tls xs := by
  unfold tls; apply List.map_congr_left; intro x _; exact (tl x).symm
theorem joinS_toList (xs : List ByteArray) : (joinS xs).toList = joinD (tls xs) := by
  rw [tl]; show (Lib.join _ _) = _; rw [tls_data, join_eq]

theorem label_nodot {l : Bs} {f : Bool} (h : labelB l f = true) : (46 : UInt8) ∉ l := by
  intro hm
  simp only [labelB, Bool.or_eq_true, Bool.and_eq_true, beq_iff_eq] at h
  rcases h with ⟨_, h⟩ | h
  · rw [h] at hm; simp at hm
  · have := List.all_eq_true.1 h.2 46 hm
    exact absurd this (by decide)
theorem label_le {l : Bs} {f : Bool} (h : labelB l f = true) : l.length ≤ 12 := by
  simp only [labelB, Bool.or_eq_true, Bool.and_eq_true, beq_iff_eq, decide_eq_true_eq] at h
  rcases h with ⟨_, h⟩ | h
  · rw [h]; simp
  · exact h.1.1.1.2
theorem splitF_join : ∀ {r : List Bs} {f : Bool}, r ≠ [] → labsOK f r = true → splitF (joinD r) = r
  | [], _, h, _ => absurd rfl h
  | [x], f, _, h => by
    simp only [labsOK, Bool.and_true] at h
    exact splitF_none _ (label_nodot h)
  | x :: y :: r, f, _, h => by
    rw [labsOK, Bool.and_eq_true] at h
    rw [joinD_cons _ _ (by simp), splitF_dot, splitF_none _ (label_nodot h.1), splitF_join (by simp) h.2]
    rfl
theorem join_len : ∀ {r : List Bs} {f : Bool}, labsOK f r = true → (joinD r).length ≤ 13 * r.length
  | [], _, _ => by simp [joinD]
  | [x], f, h => by
    simp only [labsOK, Bool.and_true] at h
    have := label_le h
    simp [joinD]; omega
  | x :: y :: r, f, h => by
    rw [labsOK, Bool.and_eq_true] at h
    have h1 := label_le h.1
    have h2 := join_len h.2
    rw [joinD_cons _ _ (by simp)]
    simp at h2 ⊢
    omega
theorem labs_join {r : List Bs} (hr : r ≠ []) (h : labsOK true r = true) : joinD r ≠ [46] ∧ labs (joinD r) = r := by
  have hs := splitF_join hr h
  have hne : joinD r ≠ [46] := fun q => by
    rw [q] at hs
    have h2 := labsOK_ne h [] (by rw [← hs]; simp [splitF])
    exact h2 rfl
  exact ⟨hne, by rw [labs_of hne, hs]⟩

theorem Join_empty (a : Option Addr) (c : Nat) (w : World) : Calls Try.prog 17 #[.slice a 0 c] w fun e w' => e = .returned (.tuple #[.string rootS, .int .i64 0]) ∧ w = w' := by
  go_enter Try.func17, Try.ntmps17
  go_wp2
  go_ret2
  exact ⟨rfl, rfl⟩
theorem Join_many (a : Option Addr) (n c : Nat) (w : World) (hn : 8 < n) (hm : n ≤ maxLen) : Calls Try.prog 17 #[.slice a n c] w fun e w' => e = .returned (.tuple #[.string ⟨#[]⟩, .int .i64 11]) ∧ w = w' := by
  unfold maxLen at hm
  have hz : ((n : Int) == 0) = false := beq_eq_false_iff_ne.2 (by omega)
  go_enter Try.func17, Try.ntmps17
  go_wp2
  go_ret2
  exact ⟨rfl, rfl⟩

theorem OK_next {l : List Bs} {k : Nat} (h : labsOK true l = labsOK ((k : Int) == 0) (l.drop k)) (hk : k < l.length) :
    (labelB l[k] ((k : Int) == 0) = true → labsOK true l = labsOK (((k + 1 : Nat) : Int) == 0) (l.drop (k + 1))) ∧ (labelB l[k] ((k : Int) == 0) = false → labsOK true l = false) := by
  rw [List.drop_eq_getElem_cons hk, labsOK] at h
  constructor
  · intro hb
    rw [hb, Bool.true_and] at h
    rw [h, show (((k + 1 : Nat) : Int) == 0) = false from beq_eq_false_iff_ne.2 (by omega)]
  · intro hb; rw [h, hb]; rfl

set_option maxHeartbeats 1000000 in
theorem Join_bad (xs : List ByteArray) (b o c : Nat) (w : World) (hn : xs.length ≤ 8) (hn1 : 1 ≤ xs.length) (hc : ∀ j, (hj : j < xs.length) → w.cell? ⟨b, o + j, none⟩ = some (.string xs[j])) (hL : ∀ x ∈ xs, x.size ≤ maxLen) (hok : labsOK true (tls xs) = false) :
    Calls Try.prog 17 #[.slice (some ⟨b, o, none⟩) xs.length c] w fun e w' => e = .returned (.tuple #[.string ⟨#[]⟩, .int .i64 11]) ∧ w = w' := by
  have hz : ((xs.length : Int) == 0) = false := beq_eq_false_iff_ne.2 (by omega)
  have HC := Lib.hid hc
  have HL := Lib.hid hL
  have HT : Hid (labsOK true (tls xs) = labsOK (((0 : Nat) : Int) == 0) ((tls xs).drop 0)) := Lib.hid rfl
  have HO := Lib.hid hok
  have htl : (tls xs).length = xs.length := by simp [tls]
  have HTL := Lib.hid htl
  clear hc hL hok htl
  go_enter Try.func17, Try.ntmps17
  go_wp2
  go_loop [15] (fun s15 => ∃ k : Nat, k ≤ xs.length ∧ s15 = .int .i64 k ∧ Hid (labsOK true (tls xs) = labsOK ((k : Int) == 0) ((tls xs).drop k))) (fun s15 => xs.length - (intOf s15).toNat)
  case atStart => exact ⟨0, by omega, rfl, HT⟩
  case round =>
    obtain ⟨k, hk, rfl, HA⟩ := hrel
    clear HT
    by_cases hlt : k < xs.length
    · have hcell := HC.out k hlt
      have hx := OK_next HA.out (by rw [HTL.out]; exact hlt)
      have hg : (tls xs)[k]'(by rw [HTL.out]; exact hlt) = xs[k].toList := by simp [tls]
      rw [hg] at hx
      have hl := fun W => label_any xs[k] ((k : Int) == 0) W (HL.out _ (List.getElem_mem hlt))
      clear hg
      generalize xs[k] = x at *
      generalize hb : labelB x.toList ((k : Int) == 0) = bb at *
      clear hb
      have HX := Lib.hid hx
      have HLB := Lib.hid hl
      clear hx hl
      cases bb
      · go_wp2_with (go_at_call 39; refine (HLB.out _).mono ?_; rintro e w4 ⟨rfl, rfl⟩)
        go_ret2
        exact ⟨rfl, rfl⟩
      · go_wp2_with (go_at_call 39; refine (HLB.out _).mono ?_; rintro e w4 ⟨rfl, rfl⟩)
        go_round
        case rel => exact ⟨k + 1, by omega, by go_num, Lib.hid (HX.out.1 (by first | rfl | trivial))⟩
        case measure => simp [intOf] <;> omega
    · exfalso
      obtain rfl : k = xs.length := by omega
      have h1 := HA.out
      rw [HO.out, List.drop_eq_nil_of_le (by rw [HTL.out]; omega)] at h1
      exact Bool.noConfusion h1

set_option maxHeartbeats 1000000 in
theorem Join_good (xs : List ByteArray) (b o c : Nat) (w : World) (hn : xs.length ≤ 8) (hn1 : 1 ≤ xs.length) (hc : ∀ j, (hj : j < xs.length) → w.cell? ⟨b, o + j, none⟩ = some (.string xs[j])) (hL : ∀ x ∈ xs, x.size ≤ maxLen) (hcap : xs.length ≤ c) (hok : labsOK true (tls xs) = true) (vb : Bool) (hv : validB (joinS xs).toList = vb) :
    Calls Try.prog 17 #[.slice (some ⟨b, o, none⟩) xs.length c] w fun e w' => e = .returned (.tuple (if vb = true then #[.string (joinS xs), .int .i64 0] else #[.string ⟨#[]⟩, .int .i64 11])) ∧ Below w.heap.size w w' := by
  have hbk : b < w.heap.size := World.block_lt_of_cell? _ _ (hc 0 hn1)
  have hjl := join_len hok
  have hjs : (joinS xs).size ≤ 104 := by
    rw [← tl_len, joinS_toList]
    have : (tls xs).length = xs.length := by simp [tls]
    omega
  have hJ := Try.strings_Join b o c xs ⟨#[46]⟩ w (fun j x hx => by
    obtain ⟨h1, h2⟩ := List.getElem?_eq_some_iff.1 hx
    rw [hc j h1, h2]) hbk (by omega) hcap (by
      show (Lib.join _ [46]).length ≤ _
      rw [tls_data, join_eq]
      have : (tls xs).length = xs.length := by simp [tls]
      omega)
  change Calls Try.prog 30 _ w (fun e w' => e = .returned (.string (joinS xs)) ∧ Below w.heap.size w w') at hJ
  have hV := fun W => valid_any (joinS xs) W (by unfold maxLen; omega)
  rw [hv] at hV
  have HJ := Lib.hid hJ
  have HV := Lib.hid hV
  clear hJ hV hv hjl hjs hbk
  generalize joinS xs = js at *
  have hz : ((xs.length : Int) == 0) = false := beq_eq_false_iff_ne.2 (by omega)
  have HC := Lib.hid hc
  have HL := Lib.hid hL
  have HT : Hid (labsOK true (tls xs) = labsOK (((0 : Nat) : Int) == 0) ((tls xs).drop 0)) := Lib.hid rfl
  have HO := Lib.hid hok
  have htl : (tls xs).length = xs.length := by simp [tls]
  have HTL := Lib.hid htl
  clear hc hL hok htl
  go_enter Try.func17, Try.ntmps17
  go_wp2
  go_loop [15] (fun s15 => ∃ k : Nat, k ≤ xs.length ∧ s15 = .int .i64 k ∧ Hid (labsOK true (tls xs) = labsOK ((k : Int) == 0) ((tls xs).drop k))) (fun s15 => xs.length - (intOf s15).toNat)
  case atStart => exact ⟨0, by omega, rfl, HT⟩
  case round =>
    obtain ⟨k, hk, rfl, HA⟩ := hrel
    clear HT
    by_cases hlt : k < xs.length
    · have hcell := HC.out k hlt
      have hx := OK_next HA.out (by rw [HTL.out]; exact hlt)
      have hg : (tls xs)[k]'(by rw [HTL.out]; exact hlt) = xs[k].toList := by simp [tls]
      rw [hg] at hx
      have hl := fun W => label_any xs[k] ((k : Int) == 0) W (HL.out _ (List.getElem_mem hlt))
      clear hg
      generalize xs[k] = x at *
      generalize hb : labelB x.toList ((k : Int) == 0) = bb at *
      clear hb
      have HX := Lib.hid hx
      have HLB := Lib.hid hl
      clear hx hl
      cases bb
      · exfalso
        have := HX.out.2 rfl
        rw [HO.out] at this
        exact Bool.noConfusion this
      · go_wp2_with (go_at_call 39; refine (HLB.out _).mono ?_; rintro e w4 ⟨rfl, rfl⟩)
        go_round
        case rel => exact ⟨k + 1, by omega, by go_num, Lib.hid (HX.out.1 (by first | rfl | trivial))⟩
        case measure => simp [intOf] <;> omega
    · obtain rfl : k = xs.length := by omega
      cases vb
      · go_wp2_with (first | (go_at_call 30; refine HJ.out.mono ?_; rintro e w4 ⟨rfl, hb⟩) | (go_at_call 15; refine (HV.out _).mono ?_; rintro e w4 ⟨rfl, rfl⟩))
        go_ret2
        exact ⟨rfl, hb⟩
      · go_wp2_with (first | (go_at_call 30; refine HJ.out.mono ?_; rintro e w4 ⟨rfl, hb⟩) | (go_at_call 15; refine (HV.out _).mono ?_; rintro e w4 ⟨rfl, rfl⟩))
        go_ret2
        exact ⟨rfl, hb⟩
end Go.Proofs.Ytllobkppehlgbaa
