/- Slices of numbers, and the contract of SameInts of the reference of package resign; no condition beyond those that each theorem names. -/
import Derived.Test.YteojjbfeblbfdaaDoorSR
namespace Go.Proofs.YteojjbfeblbfdaaDoor
set_option linter.unusedSimpArgs false
set_option linter.unusedVariables false
open Go.RowKit
open SpP

def RI (b off : Nat) (l : List Int) (W : World) : Prop := ∀ m x, l[m]? = some x → W.cell? ⟨b, off + m, none⟩ = some (.int .i64 x)
theorem RI.keep {b off : Nat} {l : List Int} {W W' : World} (h : RI b off l W) (hb : b < W.heap.size) (hB : Below W.heap.size W W') : RI b off l W' := fun m u hm =>
  (hB.cell (p := ⟨b, off + m, none⟩) hb).trans (h m u hm)
/-- A slice that holds numbers. -/
def SlI (v : Value) (l : List Int) (W : World) : Prop := (l = [] ∧ ∃ p c, v = .slice p 0 c) ∨ ∃ b off c, v = .slice (some ⟨b, off, none⟩) l.length c ∧ b < W.heap.size ∧ RI b off l W
theorem SlI.keep {v : Value} {l : List Int} {W W' : World} (h : SlI v l W) (hb : Below W.heap.size W W') : SlI v l W' := by
  rcases h with h | ⟨b, off, c, h1, h2, h3⟩
  · exact .inl h
  · exact .inr ⟨b, off, c, h1, Nat.lt_of_lt_of_le h2 hb.size, h3.keep h2 hb⟩
theorem SlI.form {v : Value} {l : List Int} {W : World} (h : SlI v l W) : ∃ p c, v = .slice p l.length c := by
  rcases h with ⟨h, p, c, h2⟩ | ⟨b, off, c, h1, _⟩
  · exact ⟨p, c, by rw [h2, h]; rfl⟩
  · exact ⟨_, c, h1⟩
theorem SlI.at_ {p : Option Addr} {n c : Nat} {l : List Int} {W : World} (h : SlI (.slice p n c) l W) (h1 : 0 < l.length) : ∃ b off, p = some ⟨b, off, none⟩ ∧ b < W.heap.size ∧ RI b off l W := by
  rcases h with ⟨h, _⟩ | ⟨b, off, c, h2, h3, h4⟩
  · rw [h] at h1; cases h1
  · cases h2; exact ⟨b, off, rfl, h3, h4⟩
def rowI (l : List Int) : List Value := l.map (Value.int .i64)
theorem SlI.owned {v : Value} {l : List Int} {W : World} {base : Nat} (h : W.ownsRow base 3 1 v l.length (rowI l)) : SlI v l W := by
  rcases h.2 with ⟨h1, h2⟩ | ⟨g, cap, cur, h1, _, h3, _⟩
  · exact .inl ⟨List.eq_nil_of_length_eq_zero h2, none, 0, h1⟩
  · subst h1
    refine .inr ⟨g, 0, cap, rfl, (Array.getElem?_eq_some_iff.1 h3).1, fun m u hm => ?_⟩
    have := h.cells rfl m (.int .i64 u) (by unfold rowI; rw [List.getElem?_map, hm]; rfl)
    rwa [Go.WideShapes.add_plain] at this
theorem dropI {l : List Int} {k : Nat} {s : Int} (h : l[k]? = some s) : l.drop k = s :: l.drop (k + 1) := by
  obtain ⟨h1, h2⟩ := List.getElem?_eq_some_iff.1 h
  rw [List.drop_eq_getElem_cons h1, h2]

theorem samei_diff (p q : Option Addr) (n m c d : Nat) (w : World) (h : n ≠ m) :
    Calls Tryd.prog 36 #[.slice p n c, .slice q m d] w fun e w' => e = .returned (.bool false) ∧ Below w.heap.size w w' := by
  have hq : ((n : Int) == (m : Int)) = false := beq_eq_false_iff_ne.2 (by omega)
  go_enter Tryd.func36, Tryd.ntmps36
  go_wp2
  go_ret
  exact ⟨rfl, Below.refl _ _⟩
theorem samei_none (p q : Option Addr) (c d : Nat) (w : World) :
    Calls Tryd.prog 36 #[.slice p 0 c, .slice q 0 d] w fun e w' => e = .returned (.bool true) ∧ Below w.heap.size w w' := by
  go_enter Tryd.func36, Tryd.ntmps36
  go_wp2
  refine wp_loop_rounds 1 ?_
  rw [rounds_succ]
  go_wp2
  go_ret
  exact ⟨rfl, Below.refl _ _⟩

set_option maxHeartbeats 2000000 in
set_option maxRecDepth 100000 in
theorem samei_row (la lb : List Int) (ba oa ca bb ob cb : Nat) (w : World) (hn : la.length ≤ maxLen) (hl : la.length = lb.length)
    (ha : ba < w.heap.size) (hb : bb < w.heap.size) (hA : RI ba oa la w) (hB : RI bb ob lb w) :
    Calls Tryd.prog 36 #[.slice (some ⟨ba, oa, none⟩) la.length ca, .slice (some ⟨bb, ob, none⟩) lb.length cb] w fun e w' => e = .returned (.bool (decide (la = lb))) ∧ Below w.heap.size w w' := by
  unfold maxLen at hn
  obtain ⟨n, hln⟩ : ∃ n, la.length = n := ⟨_, rfl⟩
  have hlm : lb.length = n := by omega
  rw [hln, hlm]
  rw [hln] at hn
  have HL := Lib.hid hln
  have HM := Lib.hid hlm
  have HA := Lib.hid hA
  have HB := Lib.hid hB
  generalize hR : decide (la = lb) = R
  have HR := Lib.hid hR
  clear hA hB hR hl hln hlm
  go_enter Tryd.func36, Tryd.ntmps36
  go_wp2
  go_loopw [5] (fun s5 wr => ∃ i : Nat, i ≤ n ∧ s5 = .int .i64 i ∧ Hid (decide (la.drop i = lb.drop i) = R) ∧ Hid (Below w.heap.size w wr)) (fun s5 _ => n - (intOf s5).toNat)
  case atStart => exact ⟨0, Nat.zero_le _, rfl, HR, Lib.hid (Below.refl _ _)⟩
  case round =>
    obtain ⟨i, hi, rfl, HS, HW⟩ := hrel
    by_cases h1 : i < n
    · have ia : i < la.length := by rw [HL.out]; exact h1
      have ib : i < lb.length := by rw [HM.out]; exact h1
      have ga : la[i]? = some la[i] := List.getElem?_eq_getElem ia
      have gb : lb[i]? = some lb[i] := List.getElem?_eq_getElem ib
      have a0 := (HA.out.keep ha HW.out) i _ ga
      have b0 := (HB.out.keep hb HW.out) i _ gb
      have hS := HS.out
      rw [dropI ga, dropI gb] at hS
      generalize la[i] = x at *
      generalize lb[i] = u at *
      have hi1 : (i : Int) < (n : Int) := by omega
      have hi0 : (0 : Int) ≤ (i : Int) := by omega
      clear ga gb HR
      by_cases q0 : x = u
      · have z0 : (x == u) = true := by rw [q0]; simp
        have HF : Hid (decide (la.drop (i + 1) = lb.drop (i + 1)) = R) := Lib.hid (by rw [← hS]; simp [q0])
        clear hS q0
        go_wp2
        go_quiet (fail)
        go_wp2
        go_roundw
        case rel => exact ⟨i + 1, by omega, by go_num, HF, Lib.hid (below_drewN HW.out _)⟩
        case measure => simp [intOf]; omega
      · have z0 : (x == u) = false := by simpa using q0
        obtain rfl : R = false := by rw [← hS]; simp [q0]
        clear hS
        go_wp2
        go_quiet (fail)
        go_wp2
        go_ret
        exact ⟨rfl, below_drewN HW.out _⟩
    · obtain rfl : i = n := by omega
      have hT : R = true := by
        have := HS.out
        rw [List.drop_eq_nil_of_le (by rw [HL.out]; exact Nat.le_refl _), List.drop_eq_nil_of_le (by rw [HM.out]; exact Nat.le_refl _)] at this
        exact this.symm
      subst hT
      go_wp2
      go_ret
      exact ⟨rfl, HW.out⟩
theorem samei_any {la lb : List Int} {va vb : Value} {w : World} (ha : SlI va la w) (hb : SlI vb lb w) (hn : la.length ≤ maxLen) :
    Calls Tryd.prog 36 #[va, vb] w fun e w' => e = .returned (.bool (decide (la = lb))) ∧ Below w.heap.size w w' := by
  by_cases hl : la.length = lb.length
  · rcases ha with ⟨rfl, p, c, rfl⟩ | ⟨b1, o1, c1, rfl, l1, r1⟩
    · obtain rfl : lb = [] := List.eq_nil_of_length_eq_zero (by simpa using hl.symm)
      obtain ⟨q, d, rfl⟩ := hb.form
      exact samei_none p q c d w
    · rcases hb with ⟨rfl, q, d, rfl⟩ | ⟨b2, o2, c2, rfl, l2, r2⟩
      · obtain rfl : la = [] := List.eq_nil_of_length_eq_zero (by simpa using hl)
        exact samei_none _ q _ d w
      · exact samei_row la lb b1 o1 c1 b2 o2 c2 w hn hl l1 l2 r1 r2
  · obtain ⟨p, c, rfl⟩ := ha.form
    obtain ⟨q, d, rfl⟩ := hb.form
    have : decide (la = lb) = false := by rw [decide_eq_false_iff_not]; intro e; rw [e] at hl; exact hl rfl
    rw [this]
    exact samei_diff p q _ _ c d w hl
end Go.Proofs.YteojjbfeblbfdaaDoor
