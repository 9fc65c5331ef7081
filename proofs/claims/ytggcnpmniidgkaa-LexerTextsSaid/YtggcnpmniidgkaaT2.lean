/- The contract of Alike of the reference of package lexer, over rows of tokens; no condition beyond those that each theorem names. -/
import Derived.Test.YtggcnpmniidgkaaT1
namespace Go.Proofs.Ytggcnpmniidgkaa
open Go.RowKit Go.Maps Go.Shelf
open NmP
set_option linter.unusedVariables false

theorem alikeT_len : ∀ {a b : List Tok}, a.length ≠ b.length → alikeT a b = false
  | [], [], h => absurd rfl h
  | [], _ :: _, _ => rfl
  | _ :: _, [], _ => rfl
  | a :: r, b :: q, h => by unfold alikeT; rw [alikeT_len (by simpa using h), Bool.and_false]
theorem alikeT_next {a b : List Tok} {i : Nat} (ha : i < a.length) (hb : i < b.length) : alikeT (a.drop i) (b.drop i) = (alike1 a[i] b[i] && alikeT (a.drop (i + 1)) (b.drop (i + 1))) := by
  rw [List.drop_eq_getElem_cons ha, List.drop_eq_getElem_cons hb]; rfl

theorem alike_diff (p q : Option Addr) (n m c d : Nat) (w : World) (hn : n ≤ maxLen) (hm : m ≤ maxLen) (h : n ≠ m) :
    Calls Try.prog 22 #[.slice p n c, .slice q m d] w fun e w' => e = .returned (.bool false) ∧ Below w.heap.size w w' := by
  unfold maxLen at hn hm
  have hq : ((n : Int) == (m : Int)) = false := beq_eq_false_iff_ne.2 (by omega)
  go_enter Try.func22, Try.ntmps22
  go_wp2
  go_ret
  exact ⟨rfl, Below.refl _ _⟩
theorem alike_none (p q : Option Addr) (c d : Nat) (w : World) :
    Calls Try.prog 22 #[.slice p 0 c, .slice q 0 d] w fun e w' => e = .returned (.bool true) ∧ Below w.heap.size w w' := by
  go_enter Try.func22, Try.ntmps22
  go_wp2
  refine wp_loop_rounds 1 ?_
  rw [rounds_succ]
  go_wp2
  go_ret
  exact ⟨rfl, Below.refl _ _⟩

set_option maxHeartbeats 2000000 in
set_option maxRecDepth 100000 in
theorem alike_row (la lb : List Tok) (ba oa ca bb ob cb : Nat) (w : World) (hn : la.length ≤ 100000) (hl : la.length = lb.length)
    (ha : ba < w.heap.size) (hb : bb < w.heap.size) (hA : RT ba oa la w) (hB : RT bb ob lb w) :
    Calls Try.prog 22 #[.slice (some ⟨ba, oa, none⟩) la.length ca, .slice (some ⟨bb, ob, none⟩) lb.length cb] w fun e w' => e = .returned (.bool (alikeT la lb)) ∧ Below w.heap.size w w' := by
  obtain ⟨n, hln⟩ : ∃ n, la.length = n := ⟨_, rfl⟩
  have hlm : lb.length = n := by omega
  rw [hln, hlm]
  have HL := Lib.hid hln
  have HM := Lib.hid hlm
  have HA := Lib.hid hA
  have HB := Lib.hid hB
  generalize hR : alikeT la lb = R
  have HR := Lib.hid hR
  have hn' : n ≤ 100000 := by omega
  clear hA hB hR hl hln hlm hn
  go_enter Try.func22, Try.ntmps22
  go_wp2
  go_loopw [5] (fun s5 wr => ∃ i : Nat, i ≤ n ∧ s5 = .int .i64 i ∧ Hid (alikeT (la.drop i) (lb.drop i) = R) ∧ Hid (Below w.heap.size w wr)) (fun s5 _ => n - (intOf s5).toNat)
  case atStart => exact ⟨0, Nat.zero_le _, rfl, HR, Lib.hid (Below.refl _ _)⟩
  case round =>
    obtain ⟨i, hi, rfl, HS, HW⟩ := hrel
    by_cases h1 : i < n
    · have ia : i < la.length := by rw [HL.out]; exact h1
      have ib : i < lb.length := by rw [HM.out]; exact h1
      have hnx := alikeT_next ia ib
      have ga : la[i]? = some la[i] := List.getElem?_eq_getElem ia
      have gb : lb[i]? = some lb[i] := List.getElem?_eq_getElem ib
      obtain ⟨a0, a1, a2, a3⟩ := (HA.out.keep ha HW.out).at_ ga
      obtain ⟨b0, b1, b2, b3⟩ := (HB.out.keep hb HW.out).at_ gb
      generalize la[i] = ta at *
      generalize lb[i] = tb at *
      unfold alike1 at hnx
      have HN := Lib.hid (HS.out.symm.trans hnx)
      clear hnx ga gb
      have hi1 : (i : Int) < (n : Int) := by omega
      have hi0 : (0 : Int) ≤ (i : Int) := by omega
      by_cases q0 : ta.k = tb.k
      · have z0 : ((ta.k : Int) == (tb.k : Int)) = true := by rw [q0]; simp
        cases z1 : (ta.x.toList == tb.x.toList)
        · have HF : Hid (R = false) := Lib.hid (by rw [HN.out, z1]; simp)
          go_wp2
          go_quiet (fail)
          go_wp2
          go_ret
          exact ⟨by rw [HF.out]; rfl, below_drewN HW.out _⟩
        · by_cases q2 : ta.n = tb.n
          · have z2 : ((ta.n : Int) == (tb.n : Int)) = true := by rw [q2]; simp
            have HF : Hid (alikeT (la.drop (i + 1)) (lb.drop (i + 1)) = R) := Lib.hid (by rw [HN.out, z1]; simp [q0, q2])
            go_wp2
            go_quiet (fail)
            go_wp2
            go_roundw
            case rel => exact ⟨i + 1, by omega, by go_num, HF, Lib.hid (below_drewN HW.out _)⟩
            case measure => simp [intOf]; omega
          · have z2 : ((ta.n : Int) == (tb.n : Int)) = false := beq_eq_false_iff_ne.2 (by omega)
            have HF : Hid (R = false) := Lib.hid (by rw [HN.out]; simp [q2])
            clear HN
            generalize (ta.n : Int) = A at *
            generalize (tb.n : Int) = B at *
            have zz : (A != B) = true := by simp only [bne, z2]; rfl
            go_wp2
            go_quiet (fail)
            go_wp2
            go_ret
            exact ⟨by rw [HF.out]; rfl, below_drewN HW.out _⟩
      · have z0 : ((ta.k : Int) == (tb.k : Int)) = false := beq_eq_false_iff_ne.2 (by omega)
        have HF : Hid (R = false) := Lib.hid (by rw [HN.out]; simp [q0])
        clear HN
        generalize (ta.k : Int) = A at *
        generalize (tb.k : Int) = B at *
        have zz : (A != B) = true := by simp only [bne, z0]; rfl
        go_wp2
        go_quiet (fail)
        go_wp2
        go_ret
        exact ⟨by rw [HF.out]; rfl, below_drewN HW.out _⟩
    · obtain rfl : i = n := by omega
      have hT : R = true := by
        have := HS.out
        rw [List.drop_eq_nil_of_le (by rw [HL.out]; exact Nat.le_refl _), List.drop_eq_nil_of_le (by rw [HM.out]; exact Nat.le_refl _)] at this
        exact this.symm
      subst hT
      go_wp2
      go_ret
      exact ⟨rfl, HW.out⟩
theorem alike_any {la lb : List Tok} {va vb : Value} {w : World} (ha : SlT va la w) (hb : SlT vb lb w) (hn : la.length ≤ 100000) (hm : lb.length ≤ 100000) :
    Calls Try.prog 22 #[va, vb] w fun e w' => e = .returned (.bool (alikeT la lb)) ∧ Below w.heap.size w w' := by
  by_cases hl : la.length = lb.length
  · rcases ha with ⟨rfl, p, c, rfl⟩ | ⟨b1, o1, c1, rfl, l1, r1⟩
    · rcases hb with ⟨rfl, q, d, rfl⟩ | ⟨b2, o2, c2, rfl, l2, r2⟩
      · exact alike_none p q c d w
      · obtain rfl : lb = [] := List.eq_nil_of_length_eq_zero (by simpa using hl.symm)
        exact alike_none p _ c _ w
    · rcases hb with ⟨rfl, q, d, rfl⟩ | ⟨b2, o2, c2, rfl, l2, r2⟩
      · obtain rfl : la = [] := List.eq_nil_of_length_eq_zero (by simpa using hl)
        exact alike_none _ q _ d w
      · exact alike_row la lb b1 o1 c1 b2 o2 c2 w hn hl l1 l2 r1 r2
  · obtain ⟨p, c, rfl⟩ := ha.form
    obtain ⟨q, d, rfl⟩ := hb.form
    rw [alikeT_len hl]
    exact alike_diff p q _ _ c d w (by unfold maxLen; omega) (by unfold maxLen; omega) hl
theorem alike_bare : ∀ (ts us : List PTok), us.map PTok.bare = ts.map PTok.bare → alikeT (ts.map PTok.tok) (us.map PTok.tok) = true
  | [], [], _ => rfl
  | [], _ :: _, h => by cases h
  | _ :: _, [], h => by cases h
  | t :: r, u :: q, h => by
    simp only [List.map_cons, List.cons.injEq] at h
    show (alike1 t.tok u.tok && alikeT (r.map PTok.tok) (q.map PTok.tok)) = true
    rw [alike_bare r q h.2]
    have h1 := h.1
    unfold PTok.bare at h1
    simp only [Prod.mk.injEq] at h1
    simp [alike1, PTok.tok, h1.1, h1.2.1, h1.2.2]
end Go.Proofs.Ytggcnpmniidgkaa
