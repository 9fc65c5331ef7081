/- Slices of stretches, and the contract of Same of the reference of package span; no condition beyond those that each theorem names. -/
import Derived.Test.YtkhckgknldiheaaDoorN2
import Derived.IntWalk
namespace Go.Proofs.YtkhckgknldiheaaDoor
set_option linter.unusedSimpArgs false
set_option linter.unusedVariables false
open Go.RowKit
namespace SpP
abbrev Sp := Int × Int
end SpP
open SpP

def valsS (s : Sp) : List Value := [.int .i64 s.1, .int .i64 s.2]
def rowS (l : List Sp) : List Value := l.flatMap valsS
def RS (b off : Nat) (l : List Sp) (W : World) : Prop := ∀ m u, (rowS l)[m]? = some u → W.cell? ⟨b, off + m, none⟩ = some u
theorem rowS_cons (t : Sp) (l : List Sp) : rowS (t :: l) = valsS t ++ rowS l := rfl
theorem rowS_append (a b : List Sp) : rowS (a ++ b) = rowS a ++ rowS b := by simp [rowS]
theorem rowS_len (l : List Sp) : (rowS l).length = 2 * l.length := by
  induction l with
  | nil => rfl
  | cons s r ih => rw [rowS_cons, List.length_append, ih]; simp [valsS]; omega
theorem rowS_get : ∀ (l : List Sp) (i f : Nat) (t : Sp), l[i]? = some t → f < 2 → (rowS l)[i * 2 + f]? = (valsS t)[f]?
  | [], _, _, _, h, _ => by simp at h
  | a :: r, 0, f, t, h, hf => by
    simp at h; subst h
    rw [rowS_cons, List.getElem?_append_left (by simp [valsS]; omega), Nat.zero_mul, Nat.zero_add]
  | a :: r, i + 1, f, t, h, hf => by
    rw [rowS_cons, List.getElem?_append_right (by simp [valsS]; omega), show (i + 1) * 2 + f - (valsS a).length = i * 2 + f by simp [valsS]; omega]
    exact rowS_get r i f t (by simpa using h) hf
theorem RS.at_ {b off : Nat} {l : List Sp} {W : World} (h : RS b off l W) {i : Nat} {t : Sp} (hi : l[i]? = some t) :
    W.cell? ⟨b, off + i * 2, none⟩ = some (.int .i64 t.1) ∧ W.cell? ⟨b, off + i * 2 + 1, none⟩ = some (.int .i64 t.2) := by
  have h0 := h (i * 2 + 0) (.int .i64 t.1) (by rw [rowS_get l i 0 t hi (by omega)]; rfl)
  have h1 := h (i * 2 + 1) (.int .i64 t.2) (by rw [rowS_get l i 1 t hi (by omega)]; rfl)
  exact ⟨h0, by rw [← Nat.add_assoc] at h1; exact h1⟩
theorem RS.keep {b off : Nat} {l : List Sp} {W W' : World} (h : RS b off l W) (hb : b < W.heap.size) (hB : Below W.heap.size W W') : RS b off l W' := fun m u hm =>
  (hB.cell (p := ⟨b, off + m, none⟩) hb).trans (h m u hm)
/-- A slice that holds stretches. -/
def SlS (v : Value) (l : List Sp) (W : World) : Prop := (l = [] ∧ ∃ p c, v = .slice p 0 c) ∨ ∃ b off c, v = .slice (some ⟨b, off, none⟩) l.length c ∧ b < W.heap.size ∧ RS b off l W
theorem SlS.keep {v : Value} {l : List Sp} {W W' : World} (h : SlS v l W) (hb : Below W.heap.size W W') : SlS v l W' := by
  rcases h with h | ⟨b, off, c, h1, h2, h3⟩
  · exact .inl h
  · exact .inr ⟨b, off, c, h1, Nat.lt_of_lt_of_le h2 hb.size, h3.keep h2 hb⟩
theorem SlS.form {v : Value} {l : List Sp} {W : World} (h : SlS v l W) : ∃ p c, v = .slice p l.length c := by
  rcases h with ⟨h, p, c, h2⟩ | ⟨b, off, c, h1, _⟩
  · exact ⟨p, c, by rw [h2, h]; rfl⟩
  · exact ⟨_, c, h1⟩
theorem SlS.at_ {p : Option Addr} {n c : Nat} {l : List Sp} {W : World} (h : SlS (.slice p n c) l W) (h1 : 0 < l.length) : ∃ b off, p = some ⟨b, off, none⟩ ∧ b < W.heap.size ∧ RS b off l W := by
  rcases h with ⟨h, _⟩ | ⟨b, off, c, h2, h3, h4⟩
  · rw [h] at h1; cases h1
  · cases h2; exact ⟨b, off, rfl, h3, h4⟩
theorem below_drewN {W W' : World} {b : Nat} (h : Below b W W') (n : Nat) : Below b W (W'.drewN n) := h.trans ⟨rfl, rfl, rfl, Nat.le_refl _, fun _ _ => rfl⟩

theorem drop_of {l : List Sp} {k : Nat} {s : Sp} (h : l[k]? = some s) : l.drop k = s :: l.drop (k + 1) := by
  obtain ⟨h1, h2⟩ := List.getElem?_eq_some_iff.1 h
  rw [List.drop_eq_getElem_cons h1, h2]
theorem same_diff (p q : Option Addr) (n m c d : Nat) (w : World) (h : n ≠ m) :
    Calls Tryd.prog 13 #[.slice p n c, .slice q m d] w fun e w' => e = .returned (.bool false) ∧ Below w.heap.size w w' := by
  have hq : ((n : Int) == (m : Int)) = false := beq_eq_false_iff_ne.2 (by omega)
  go_enter Tryd.func13, Tryd.ntmps13
  go_wp2
  go_ret
  exact ⟨rfl, Below.refl _ _⟩
theorem same_none (p q : Option Addr) (c d : Nat) (w : World) :
    Calls Tryd.prog 13 #[.slice p 0 c, .slice q 0 d] w fun e w' => e = .returned (.bool true) ∧ Below w.heap.size w w' := by
  go_enter Tryd.func13, Tryd.ntmps13
  go_wp2
  refine wp_loop_rounds 1 ?_
  rw [rounds_succ]
  go_wp2
  go_ret
  exact ⟨rfl, Below.refl _ _⟩

set_option maxHeartbeats 2000000 in
set_option maxRecDepth 100000 in
theorem same_row (la lb : List Sp) (ba oa ca bb ob cb : Nat) (w : World) (hn : la.length ≤ maxLen) (hl : la.length = lb.length)
    (ha : ba < w.heap.size) (hb : bb < w.heap.size) (hA : RS ba oa la w) (hB : RS bb ob lb w) :
    Calls Tryd.prog 13 #[.slice (some ⟨ba, oa, none⟩) la.length ca, .slice (some ⟨bb, ob, none⟩) lb.length cb] w fun e w' => e = .returned (.bool (decide (la = lb))) ∧ Below w.heap.size w w' := by
  unfold maxLen at hn
  obtain ⟨n, hln⟩ : ∃ n, la.length = n := ⟨_, rfl⟩
  have hlm : lb.length = n := by omega
  rw [hln, hlm]
  rw [hln] at hn
  have HL := Lib.hid hln
  have HM := Lib.hid hlm
  have HA := Lib.hid hA
  have HB := Lib.hid hB
  generalize hR : decide (la = lb) = R
  have HR := Lib.hid hR
  clear hA hB hR hl hln hlm
  go_enter Tryd.func13, Tryd.ntmps13
  go_wp2
  go_loopw [5] (fun s5 wr => ∃ i : Nat, i ≤ n ∧ s5 = .int .i64 i ∧ Hid (decide (la.drop i = lb.drop i) = R) ∧ Hid (Below w.heap.size w wr)) (fun s5 _ => n - (intOf s5).toNat)
  case atStart => exact ⟨0, Nat.zero_le _, rfl, HR, Lib.hid (Below.refl _ _)⟩
  case round =>
    obtain ⟨i, hi, rfl, HS, HW⟩ := hrel
    by_cases h1 : i < n
    · have ia : i < la.length := by rw [HL.out]; exact h1
      have ib : i < lb.length := by rw [HM.out]; exact h1
      have ga : la[i]? = some la[i] := List.getElem?_eq_getElem ia
      have gb : lb[i]? = some lb[i] := List.getElem?_eq_getElem ib
      obtain ⟨a0, a1⟩ := (HA.out.keep ha HW.out).at_ ga
      obtain ⟨b0, b1⟩ := (HB.out.keep hb HW.out).at_ gb
      have hS := HS.out
      rw [drop_of ga, drop_of gb] at hS
      generalize la[i] = ta at *
      generalize lb[i] = tb at *
      obtain ⟨x, y⟩ := ta
      obtain ⟨u, v⟩ := tb
      simp only at a0 a1 b0 b1
      have hi1 : (i : Int) < (n : Int) := by omega
      have hi0 : (0 : Int) ≤ (i : Int) := by omega
      clear ga gb HR
      by_cases q0 : x = u
      · have z0 : (x == u) = true := by rw [q0]; simp
        by_cases q1 : y = v
        · have z1 : (y == v) = true := by rw [q1]; simp
          have HF : Hid (decide (la.drop (i + 1) = lb.drop (i + 1)) = R) := Lib.hid (by rw [← hS]; simp [q0, q1])
          clear hS q0 q1
          go_wp2
          go_quiet (fail)
          go_wp2
          go_roundw
          case rel => exact ⟨i + 1, by omega, by go_num, HF, Lib.hid (below_drewN HW.out _)⟩
          case measure => simp [intOf]; omega
        · have z1 : (y == v) = false := by simpa using q1
          obtain rfl : R = false := by rw [← hS]; simp [q1]
          clear hS q0
          go_wp2
          go_quiet (fail)
          go_wp2
          go_ret
          exact ⟨rfl, below_drewN HW.out _⟩
      · have z0 : (x == u) = false := by simpa using q0
        obtain rfl : R = false := by rw [← hS]; simp [q0]
        clear hS
        go_wp2
        go_quiet (fail)
        go_wp2
        go_ret
        exact ⟨rfl, below_drewN HW.out _⟩
    · obtain rfl : i = n := by omega
      have hT : R = true := by
        have := HS.out
        rw [List.drop_eq_nil_of_le (by rw [HL.out]; exact Nat.le_refl _), List.drop_eq_nil_of_le (by rw [HM.out]; exact Nat.le_refl _)] at this
        exact this.symm
      subst hT
      go_wp2
      go_ret
      exact ⟨rfl, HW.out⟩
theorem same_any {la lb : List Sp} {va vb : Value} {w : World} (ha : SlS va la w) (hb : SlS vb lb w) (hn : la.length ≤ maxLen) :
    Calls Tryd.prog 13 #[va, vb] w fun e w' => e = .returned (.bool (decide (la = lb))) ∧ Below w.heap.size w w' := by
  by_cases hl : la.length = lb.length
  · rcases ha with ⟨rfl, p, c, rfl⟩ | ⟨b1, o1, c1, rfl, l1, r1⟩
    · obtain rfl : lb = [] := List.eq_nil_of_length_eq_zero (by simpa using hl.symm)
      obtain ⟨q, d, rfl⟩ := hb.form
      exact same_none p q c d w
    · rcases hb with ⟨rfl, q, d, rfl⟩ | ⟨b2, o2, c2, rfl, l2, r2⟩
      · obtain rfl : la = [] := List.eq_nil_of_length_eq_zero (by simpa using hl)
        exact same_none _ q _ d w
      · exact same_row la lb b1 o1 c1 b2 o2 c2 w hn hl l1 l2 r1 r2
  · obtain ⟨p, c, rfl⟩ := ha.form
    obtain ⟨q, d, rfl⟩ := hb.form
    have : decide (la = lb) = false := by rw [decide_eq_false_iff_not]; intro e; rw [e] at hl; exact hl rfl
    rw [this]
    exact same_diff p q _ _ c d w hl
end Go.Proofs.YtkhckgknldiheaaDoor
