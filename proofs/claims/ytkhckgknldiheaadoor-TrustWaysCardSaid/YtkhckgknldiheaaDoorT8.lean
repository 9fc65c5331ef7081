/- The contract of validKnown of package trust; no condition beyond those that each theorem names. -/
import Derived.Test.YtkhckgknldiheaaDoorT7
namespace Go.Proofs.YtkhckgknldiheaaDoor
set_option linter.unusedSimpArgs false
set_option linter.unusedVariables false
open Go.RowKit
open NmP SpP

def idxS (P : Sd → Bool) : Nat → List Sd → Int
  | _, [] => -1
  | i, k :: r => if P k = true then i else idxS P (i + 1) r
theorem idxS_has (P : Sd → Bool) : ∀ (l : List Sd) (i : Nat), decide (0 ≤ idxS P i l) = l.any P
  | [], _ => rfl
  | k :: r, i => by
    unfold idxS
    rw [List.any_cons]
    cases h : P k
    · rw [if_neg (by simp), idxS_has P r (i + 1)]; rfl
    · rw [if_pos rfl]; simp
/-- Some set is not valid. -/
def badK (s : Sd) : Bool := !s.st.ok
/-- All known sets are valid, and they are not too many. -/
def knownB (l : List Sd) : Bool := decide (l.length ≤ 400) && !l.any badK

set_option maxHeartbeats 1000000 in
set_option maxRecDepth 100000 in
theorem badK_any (s : Sd) (w : World) (hs : s.In w) (hr : RulesAt w) :
    Calls Tryd.prog 69 #[.agg #[.string s.x, .int .i64 s.t, .int .i64 s.f, .slice s.p s.n s.c, .slice s.q s.m s.d]] w fun e w' => e = .returned (.bool (badK s)) ∧ Below w.heap.size w w' := by
  have hb0 := (Below.refl _ w).alloc (Nat.le_refl _) (.cells #[.string s.x, .int .i64 s.t, .int .i64 s.f, .slice s.p s.n s.c, .slice s.q s.m s.d] 37)
  have CV := Lib.hid (valid_st s.st _ (hs.keep hb0).hs (hr.keep hb0))
  have HB0 := Lib.hid hb0
  unfold badK
  obtain ⟨x, t, f, p, n, c, q, m, d, l, g⟩ := s
  simp only [Sd.st] at CV HB0 hb0 ⊢
  generalize St.ok _ = ok at *
  clear hs hr hb0
  go_enter Tryd.func69, Tryd.ntmps69
  go_wp2_with (go_at_call 30; (with_reducible refine (CV.out).mono ?_); rintro e w1 ⟨rfl, hb⟩; have HB1 := Lib.hid (HB0.out.trans (hb.mono HB0.out.size)); clear hb)
  go_ret
  exact ⟨rfl, HB1.out⟩

set_option maxHeartbeats 2000000 in
set_option maxRecDepth 100000 in
theorem indexS_any (v : Value) (l : List Sd) (w : World) (hv : SlK v l w) (hn : l.length ≤ maxLen) (hr : RulesAt w) :
    Calls Tryd.prog 87 #[v, .func (.func 69) #[] #[]] w (IdxTo (idxS badK 0 l) w) := by
  obtain ⟨p, c, rfl⟩ := hv.form
  obtain ⟨m, hm⟩ : ∃ m, l.length = m := ⟨_, rfl⟩
  rw [hm] at hv hn ⊢
  unfold maxLen at hn
  have HL := Lib.hid hm
  have HV := Lib.hid hv
  have HC := Lib.hid (fun k (hk : k ∈ l) W (hb : Below w.heap.size w W) => badK_any k W ((hv.2 k hk).keep hb) (hr.keep hb))
  obtain ⟨R, hR⟩ : ∃ R, idxS badK 0 l = R := ⟨_, rfl⟩
  rw [hR]
  have HR := Lib.hid hR
  clear hv hm hR hr
  go_enter Tryd.func87, Tryd.ntmps87
  go_wp2
  go_loopw [8] (fun s8 wr => ∃ i : Nat, i ≤ m ∧ s8 = .int .i64 i ∧ Hid (idxS badK i (l.drop i) = R) ∧ Hid (Below w.heap.size w wr)) (fun s8 _ => m - (intOf s8).toNat)
  case atStart => exact ⟨0, Nat.zero_le _, rfl, HR, Lib.hid (Below.refl _ _)⟩
  case round =>
    obtain ⟨i, hi, rfl, H1, HW⟩ := hrel
    by_cases hlt : i < m
    · have ia : i < l.length := by rw [HL.out]; exact hlt
      have ga : l[i]? = some l[i] := List.getElem?_eq_getElem ia
      have hv1 := HV.out.keep HW.out
      obtain ⟨b, off, rfl, hb, hR1⟩ := hv1.at_ (by omega)
      obtain ⟨a0, a1, a2, a3, a4⟩ := hR1.at_ ga
      have h1 := H1.out
      rw [List.drop_eq_getElem_cons ia] at h1
      have HC1 := Lib.hid (HC.out l[i] (List.getElem_mem ia) wr HW.out)
      have h2 : (if badK l[i] = true then (i : Int) else idxS badK (i + 1) (l.drop (i + 1))) = R := h1
      generalize badK l[i] = pb at *
      generalize l[i] = s at *
      obtain ⟨x, t, f, sp, sn, sc, sq, sm, sd, dl, gl⟩ := s
      simp only at a0 a1 a2 a3 a4 HC1
      have hi1 : (i : Int) < (m : Int) := by omega
      clear h1 ga hR1 hv1 H1 HR
      cases pb
      · rw [if_neg (by simp)] at h2
        have H2 := Lib.hid h2
        clear h2
        go_wp2_with (go_at_call 69; (with_reducible refine (HC1.out).mono ?_); rintro e w1 ⟨rfl, hb⟩; have HW1 := Lib.hid (HW.out.trans (hb.mono HW.out.size)); clear hb)
        go_roundw
        case rel => exact ⟨i + 1, hlt, by go_num, H2, HW1⟩
        case measure =>
          simp [intOf]
          omega
      · rw [if_pos rfl] at h2
        subst h2
        go_wp2_with (go_at_call 69; (with_reducible refine (HC1.out).mono ?_); rintro e w1 ⟨rfl, hb⟩; have HW1 := Lib.hid (HW.out.trans (hb.mono HW.out.size)); clear hb)
        go_ret
        exact ⟨rfl, HW1.out⟩
    · obtain rfl : i = m := by omega
      have h1 := H1.out
      rw [List.drop_eq_nil_of_le (by have := HL.out; omega)] at h1
      have h2 : (-1 : Int) = R := h1
      subst h2
      clear h1
      go_wp2
      go_ret
      exact ⟨rfl, HW.out⟩

set_option maxHeartbeats 1000000 in
set_option maxRecDepth 100000 in
theorem known_any (v : Value) (l : List Sd) (w : World) (hv : SlK v l w) (hn : l.length ≤ maxLen) (hr : RulesAt w) :
    Calls Tryd.prog 31 #[v] w fun e w' => e = .returned (.bool (knownB l)) ∧ Below w.heap.size w w' := by
  have CI := Lib.hid (indexS_any v l w hv hn hr)
  obtain ⟨p, c, rfl⟩ := hv.form
  have CC : Calls Tryd.prog 68 #[.slice p l.length c, .func (.func 69) #[] #[]] w fun e w' => e = .returned (.bool (l.any badK)) ∧ Below w.heap.size w w' := by
    rw [← idxS_has badK l 0]
    unfold IdxTo at CI
    generalize idxS badK 0 l = R at *
    generalize l.length = n at *
    clear hv hn hr
    go_enter Tryd.func68, Tryd.ntmps68
    go_wp2_with (go_at_call 87; (with_reducible refine (CI.out).mono ?_); rintro e w1 ⟨rfl, hb⟩; have HB1 := Lib.hid hb; clear hb)
    go_ret
    exact ⟨rfl, HB1.out⟩
  have HC := Lib.hid CC
  unfold knownB
  generalize l.any badK = R at *
  obtain ⟨n, hm⟩ : ∃ m, l.length = m := ⟨_, rfl⟩
  rw [hm] at HC ⊢
  clear CC CI hv hn hr hm
  by_cases hle : n ≤ 400
  · have h1 : (n : Int) ≤ 400 := by omega
    rw [decide_eq_true hle, Bool.true_and]
    clear hle
    go_enter Tryd.func31, Tryd.ntmps31
    go_wp2_with (go_at_call 68; (with_reducible refine (HC.out).mono ?_); rintro e w1 ⟨rfl, hb⟩; have HB1 := Lib.hid hb; clear hb)
    go_ret
    exact ⟨rfl, HB1.out⟩
  · have h1 : ¬ (n : Int) ≤ 400 := by omega
    rw [decide_eq_false hle, Bool.false_and]
    clear hle
    go_enter Tryd.func31, Tryd.ntmps31
    go_wp2
    go_ret
    exact ⟨rfl, Below.refl _ _⟩
end Go.Proofs.YtkhckgknldiheaaDoor
