/- The contracts of Normal, Union, Cross and Minus of package span; no condition beyond those that each theorem names. -/
import Derived.Test.YtojofkjnakiliaaS8
namespace Go.Proofs.Ytojofkjnakiliaa
open Go.RowKit Go.Shelf
open SpP

theorem cnt_N : Cnt 29 cN where
  enters := enters_of Try.func29 (by kernel_rfl) rfl
  calls := fun a b W _ _ _ _ => by
    unfold cN
    go_enter Try.func29, Try.ntmps29
    go_wp2
    go_ret
    exact ⟨rfl, rfl⟩
theorem cnt_U : Cnt 32 cU where
  enters := enters_of Try.func32 (by kernel_rfl) rfl
  calls := fun a b W h1 h2 h3 h4 => by
    unfold cU
    go_enter Try.func32, Try.ntmps32
    go_wp2
    go_ret
    exact ⟨rfl, rfl⟩
theorem cnt_X : Cnt 35 cX where
  enters := enters_of Try.func35 (by kernel_rfl) rfl
  calls := fun a b W _ _ _ _ => by
    unfold cX
    by_cases q0 : 0 < a
    · have d0 : decide (0 < a) = true := by simpa using q0
      rw [d0, Bool.true_and]
      go_enter Try.func35, Try.ntmps35
      go_wp2
      go_ret
      exact ⟨rfl, rfl⟩
    · have d0 : decide (0 < a) = false := by simpa using q0
      rw [d0, Bool.false_and]
      go_enter Try.func35, Try.ntmps35
      go_wp2
      go_ret
      exact ⟨rfl, rfl⟩
theorem cnt_M : Cnt 37 cM where
  enters := enters_of Try.func37 (by kernel_rfl) rfl
  calls := fun a b W _ _ _ _ => by
    unfold cM
    have he : decide (b = 0) = (b == 0) := by rw [Bool.eq_iff_iff]; simp
    rw [he]
    by_cases q0 : 0 < a
    · have d0 : decide (0 < a) = true := by simpa using q0
      rw [d0, Bool.true_and]
      clear he
      go_enter Try.func37, Try.ntmps37
      go_wp2
      go_ret
      exact ⟨rfl, rfl⟩
    · have d0 : decide (0 < a) = false := by simpa using q0
      rw [d0, Bool.false_and]
      clear he
      go_enter Try.func37, Try.ntmps37
      go_wp2
      go_ret
      exact ⟨rfl, rfl⟩

theorem SlS.owned {v : Value} {l : List Sp} {W : World} {base : Nat} (h : W.ownsRow base 34 2 v l.length (rowS l)) : SlS v l W := by
  rcases h.2 with ⟨h1, h2⟩ | ⟨g, cap, cur, h1, _, h3, _⟩
  · exact .inl ⟨List.eq_nil_of_length_eq_zero h2, none, 0, h1⟩
  · subst h1
    refine .inr ⟨g, 0, cap, rfl, (Array.getElem?_eq_some_iff.1 h3).1, fun m u hm => ?_⟩
    have := h.cells rfl m u hm
    rwa [Go.WideShapes.add_plain] at this
theorem SlS.nil (p : Option Addr) (c : Nat) (W : World) : SlS (.slice p 0 c) [] W := .inl ⟨rfl, p, c, rfl⟩
theorem evA_small {l : List Sp} : ∀ x ∈ evA l, -1 ≤ x.2.1 ∧ x.2.1 ≤ 1 ∧ -1 ≤ x.2.2 ∧ x.2.2 ≤ 1 := by
  intro x h
  obtain ⟨s, hs, hx⟩ := List.mem_flatMap.1 h
  simp at hx
  rcases hx with rfl | rfl <;> simp
theorem evB_small {l : List Sp} : ∀ x ∈ evB l, -1 ≤ x.2.1 ∧ x.2.1 ≤ 1 ∧ -1 ≤ x.2.2 ∧ x.2.2 ≤ 1 := by
  intro x h
  obtain ⟨s, hs, hx⟩ := List.mem_flatMap.1 h
  simp at hx
  rcases hx with rfl | rfl <;> simp
theorem evs_small {a b : List Sp} {d : List Ev} (h : d.Perm (evs a b)) (la : a.length ≤ 20000) (lb : b.length ≤ 20000) : SmallE d := by
  refine ⟨?_, fun x hx => ?_⟩
  · rw [h.length_eq]
    unfold evs
    rw [List.length_append, evA_len, evB_len]
    omega
  · rcases List.mem_append.1 (h.mem_iff.1 hx) with hx | hx
    · exact evA_small x hx
    · exact evB_small x hx

/-- A slice of stretches, and a number that says what is wrong. -/
def ResPost (r : List Sp × Nat) (w : World) (e : Ending) (w' : World) : Prop := ∃ sl, e = .returned (.tuple #[sl, .int .i64 (r.2 : Int)]) ∧ SlS sl r.1 w' ∧ RowKit.Below w.heap.size w w'
theorem sweep_sl {c : Int → Int → Bool} (h0 : c 0 0 = false) {cf : Nat} (hC : Cnt cf c) {a b : List Sp} {d : List Ev} {B : Nat} {w : World} (hd : d.Perm (evs a b)) (hs : d.Pairwise (fun x y => x.1 ≤ y.1)) (hE : EC B d w) (ha : InR a) (hb : InR b) (la : a.length ≤ 20000) (lb : b.length ≤ 20000) :
    Calls Try.prog 27 #[.func (.func 46) #[] #[.pointer (some ⟨B, 0, none⟩)], .func (.func cf) #[] #[]] w fun e w' => ∃ p cap, e = .returned (.slice p (swp c a b).length cap) ∧ SlS (.slice p (swp c a b).length cap) (swp c a b) w' ∧ RowKit.Below w.heap.size w w' :=
  (sweep_any hC (evs_small hd la lb) hE).mono fun e w' ⟨v, he, ho, hb'⟩ => by
    rw [swept_swp h0 hd hs ha hb] at ho
    obtain ⟨p, cap, rfl⟩ := row_form ho
    exact ⟨p, cap, he, SlS.owned ho, hb'⟩

def inX (s : Sp) : Bool := decide (0 ≤ s.1) && decide (s.1 ≤ s.2) && decide (s.2 ≤ top)
theorem inB_cons (s : Sp) (l : List Sp) : inB (s :: l) = (inX s && inB l) := rfl
def normR (l : List Sp) : List Sp × Nat := if l.length ≤ 20000 ∧ inB l = true then (nrm l, 0) else ([], 1)
theorem normal_long (p : Option Addr) (n c : Nat) (w : World) (hn : n ≤ maxLen) (h : 20000 < n) : Calls Try.prog 11 #[.slice p n c] w (ResPost ([], 1) w) := by
  unfold maxLen at hn
  have h1 : (20000 : Int) < (n : Int) := by omega
  go_enter Try.func11, Try.ntmps11
  go_wp2
  go_ret2
  exact ⟨_, rfl, SlS.nil none 0 _, RowKit.Below.refl _ _⟩

set_option maxHeartbeats 2000000 in
set_option maxRecDepth 100000 in
theorem normal_short {p : Option Addr} {c : Nat} {l : List Sp} {w : World} (h : SlS (.slice p l.length c) l w) (hn : l.length ≤ 20000) :
    Calls Try.prog 11 #[.slice p l.length c] w (ResPost (if inB l = true then (nrm l, 0) else ([], 1)) w) := by
  obtain ⟨n, hln⟩ : ∃ n, l.length = n := ⟨_, rfl⟩
  rw [hln] at h hn ⊢
  have SA := Lib.hid h
  have HL := Lib.hid hln
  obtain ⟨R, hR⟩ : ∃ R, inB l = R := ⟨_, rfl⟩
  rw [hR]
  have HR := Lib.hid hR
  obtain ⟨r, hr⟩ : ∃ r : List Sp × Nat, (if R = true then (nrm l, 0) else ([], 1)) = r := ⟨_, rfl⟩
  rw [hr]
  have Hr := Lib.hid hr
  clear h hln hR hr
  go_enter Try.func11, Try.ntmps11
  go_wp2
  go_loopw [11] (fun s11 wr => ∃ i : Nat, i ≤ n ∧ s11 = .int .i64 i ∧ Hid (inB (l.drop i) = R) ∧ Hid (RowKit.Below w.heap.size w wr)) (fun s11 _ => n - (intOf s11).toNat)
  case atStart => exact ⟨0, Nat.zero_le _, rfl, HR, Lib.hid (RowKit.Below.refl _ _)⟩
  case round =>
    obtain ⟨i, hi, rfl, HS, HW⟩ := hrel
    by_cases h1 : i < n
    · have ia : i < l.length := by rw [HL.out]; exact h1
      have ga : l[i]? = some l[i] := List.getElem?_eq_getElem ia
      have hSA := SA.out.keep HW.out
      obtain ⟨b, off, rfl, hlt, hRS⟩ : ∃ b off, p = some ⟨b, off, none⟩ ∧ b < wr.heap.size ∧ RS b off l wr := by
        rw [← HL.out] at hSA
        exact hSA.at_ (by omega)
      obtain ⟨a0, a1⟩ := hRS.at_ ga
      have hS := HS.out
      rw [drop_of ga, inB_cons] at hS
      have hsz := HW.out.size
      generalize l[i] = s at *
      obtain ⟨x, y⟩ := s
      simp only at a0 a1
      unfold inX at hS
      simp only at hS
      clear ga hSA hRS HR
      have hi1 : (i : Int) < (n : Int) := by omega
      have bad : (¬ (0 ≤ x ∧ x ≤ y ∧ y ≤ top)) → r = ([], 1) := fun q => by
        rw [← Hr.out, if_neg]
        rw [← hS]
        intro q2
        simp only [Bool.and_eq_true, decide_eq_true_eq] at q2
        exact q ⟨q2.1.1.1, q2.1.1.2, q2.1.2⟩
      by_cases q0 : x < 0
      · have d0 : decide (x < 0) = true := by simpa using q0
        obtain rfl := bad (by omega)
        clear hS bad Hr
        go_wp2
        go_ret2
        exact ⟨_, rfl, SlS.nil none 0 _, HW.out.alloc HW.out.size _⟩
      · have d0 : decide (x < 0) = false := by simpa using q0
        by_cases q1 : y < x
        · have d1 : decide (y < x) = true := by simpa using q1
          obtain rfl := bad (by omega)
          clear hS bad Hr
          go_wp2
          go_ret2
          exact ⟨_, rfl, SlS.nil none 0 _, HW.out.alloc HW.out.size _⟩
        · have d1 : decide (y < x) = false := by simpa using q1
          by_cases q2 : 20000000 < y
          · have d2 : decide (20000000 < y) = true := by simpa using q2
            obtain rfl := bad (by unfold top; omega)
            clear hS bad Hr
            go_wp2
            go_ret2
            exact ⟨_, rfl, SlS.nil none 0 _, HW.out.alloc HW.out.size _⟩
          · have d2 : decide (20000000 < y) = false := by simpa using q2
            have hS2 : inB (l.drop (i + 1)) = R := by
              rw [← hS, show decide (0 ≤ x) = true by simpa using q0, show decide (x ≤ y) = true by simpa using q1, show decide (y ≤ top) = true by rw [decide_eq_true_eq]; unfold top; omega]
              rfl
            have HS2 := Lib.hid hS2
            clear hS bad hS2
            go_wp2
            go_roundw
            case rel => exact ⟨i + 1, by omega, by go_num, HS2, Lib.hid (HW.out.alloc HW.out.size _)⟩
            case measure => simp [intOf]; omega
    · obtain rfl : i = n := by omega
      have hT : R = true := by
        have := HS.out
        rw [List.drop_eq_nil_of_le (by rw [HL.out]; exact Nat.le_refl _)] at this
        exact this.symm
      subst hT
      have hin := (inB_iff l).1 HR.out
      have HIN := Lib.hid hin
      have hll : l.length ≤ 20000 := by rw [HL.out]; exact hn
      have HEN := Lib.hid (ends_any (SA.out.keep HW.out) (SlS.nil none 0 wr) hll (by simp))
      have HLL := Lib.hid hll
      clear hin hll
      obtain rfl : r = (nrm l, 0) := by rw [← Hr.out, if_pos rfl]
      go_wp2_with (first | (go_at_call 28; refine HEN.out.mono ?_; rintro e w2 ⟨B, d, rfl, hp, hs, hE, hb2⟩; have HSW := Lib.hid (sweep_sl (c := cN) rfl cnt_N hp hs hE HIN.out inR_nil HLL.out (by simp)); have HB2 := Lib.hid hb2; clear hp hs hE hb2) | (go_at_call 27; refine HSW.out.mono ?_; rintro e w3 ⟨p3, c3, rfl, hs3, hb3⟩; have HS3 := Lib.hid hs3; have HB3 := Lib.hid hb3; clear hs3 hb3))
      go_ret2
      exact ⟨_, rfl, HS3.out, (HW.out.trans (HB2.out.mono HW.out.size)).trans (HB3.out.mono (Nat.le_trans HW.out.size HB2.out.size))⟩
theorem normal_any {v : Value} {l : List Sp} {w : World} (h : SlS v l w) (hn : l.length ≤ maxLen) : Calls Try.prog 11 #[v] w (ResPost (normR l) w) := by
  obtain ⟨p, c, rfl⟩ := h.form
  unfold normR
  by_cases hl : l.length ≤ 20000
  · have := normal_short h hl
    by_cases q : inB l = true
    · rw [if_pos ⟨hl, q⟩]; rwa [if_pos q] at this
    · rw [if_neg (fun z => q z.2)]; rwa [if_neg q] at this
  · rw [if_neg (fun z => hl z.1)]
    exact normal_long p _ c w hn (by omega)
end Go.Proofs.Ytojofkjnakiliaa
