/- Slices of stretches, and the contracts of Valid and Has of package span, and of Valid, Has, Same and Few of its reference; no condition beyond those that each theorem names. -/
import Derived.Test.YtojofkjnakiliaaS2
import Derived.Test.YtojofkjnakiliaaRows
import Derived.WalkKit
import Derived.WalkSpells
import Derived.WalkLawsBesides
import Derived.WalkSmall
import Derived.Deep.QuietTactic
import Derived.BigQuiet
import Derived.Deep.LoopGhost
import Derived.Lib.Hide
import Derived.IntWalk
namespace Go.Proofs.Ytojofkjnakiliaa
open Go.RowKit
open SpP

def valsS (s : Sp) : List Value := [.int .i64 s.1, .int .i64 s.2]
def rowS (l : List Sp) : List Value := l.flatMap valsS
def RS (b off : Nat) (l : List Sp) (W : World) : Prop := ∀ m u, (rowS l)[m]? = some u → W.cell? ⟨b, off + m, none⟩ = some u
theorem rowS_cons (t : Sp) (l : List Sp) : rowS (t :: l) = valsS t ++ rowS l := rfl
theorem rowS_append (a b : List Sp) : rowS (a ++ b) = rowS a ++ rowS b := by simp [rowS]
theorem rowS_len (l : List Sp) : (rowS l).length = 2 * l.length := by
  induction l with
  | nil => rfl
  | cons s r ih => rw [rowS_cons, List.length_append, ih]; simp [valsS]; omega
theorem rowS_get : ∀ (l : List Sp) (i f : Nat) (t : Sp), l[i]? = some t → f < 2 → (rowS l)[i * 2 + f]? = (valsS t)[f]?
  | [], _, _, _, h, _ => by simp at h
  | a :: r, 0, f, t, h, hf => by
    simp at h; subst h
    rw [rowS_cons, List.getElem?_append_left (by simp [valsS]; omega), Nat.zero_mul, Nat.zero_add]
  | a :: r, i + 1, f, t, h, hf => by
    rw [rowS_cons, List.getElem?_append_right (by simp [valsS]; omega), show (i + 1) * 2 + f - (valsS a).length = i * 2 + f by simp [valsS]; omega]
    exact rowS_get r i f t (by simpa using h) hf
theorem RS.at_ {b off : Nat} {l : List Sp} {W : World} (h : RS b off l W) {i : Nat} {t : Sp} (hi : l[i]? = some t) :
    W.cell? ⟨b, off + i * 2, none⟩ = some (.int .i64 t.1) ∧ W.cell? ⟨b, off + i * 2 + 1, none⟩ = some (.int .i64 t.2) := by
  have h0 := h (i * 2 + 0) (.int .i64 t.1) (by rw [rowS_get l i 0 t hi (by omega)]; rfl)
  have h1 := h (i * 2 + 1) (.int .i64 t.2) (by rw [rowS_get l i 1 t hi (by omega)]; rfl)
  exact ⟨h0, by rw [← Nat.add_assoc] at h1; exact h1⟩
theorem RS.keep {b off : Nat} {l : List Sp} {W W' : World} (h : RS b off l W) (hb : b < W.heap.size) (hB : Below W.heap.size W W') : RS b off l W' := fun m u hm =>
  (hB.cell (p := ⟨b, off + m, none⟩) hb).trans (h m u hm)
/-- A slice that holds stretches. -/
def SlS (v : Value) (l : List Sp) (W : World) : Prop := (l = [] ∧ ∃ p c, v = .slice p 0 c) ∨ ∃ b off c, v = .slice (some ⟨b, off, none⟩) l.length c ∧ b < W.heap.size ∧ RS b off l W
theorem SlS.keep {v : Value} {l : List Sp} {W W' : World} (h : SlS v l W) (hb : Below W.heap.size W W') : SlS v l W' := by
  rcases h with h | ⟨b, off, c, h1, h2, h3⟩
  · exact .inl h
  · exact .inr ⟨b, off, c, h1, Nat.lt_of_lt_of_le h2 hb.size, h3.keep h2 hb⟩
theorem SlS.form {v : Value} {l : List Sp} {W : World} (h : SlS v l W) : ∃ p c, v = .slice p l.length c := by
  rcases h with ⟨h, p, c, h2⟩ | ⟨b, off, c, h1, _⟩
  · exact ⟨p, c, by rw [h2, h]; rfl⟩
  · exact ⟨_, c, h1⟩
theorem SlS.at_ {p : Option Addr} {n c : Nat} {l : List Sp} {W : World} (h : SlS (.slice p n c) l W) (h1 : 0 < l.length) : ∃ b off, p = some ⟨b, off, none⟩ ∧ b < W.heap.size ∧ RS b off l W := by
  rcases h with ⟨h, _⟩ | ⟨b, off, c, h2, h3, h4⟩
  · rw [h] at h1; cases h1
  · cases h2; exact ⟨b, off, rfl, h3, h4⟩
theorem below_drewN {W W' : World} {b : Nat} (h : Below b W W') (n : Nat) : Below b W (W'.drewN n) := h.trans ⟨rfl, rfl, rfl, Nat.le_refl _, fun _ _ => rfl⟩

theorem vFrom_bad {lo : Int} {s : Sp} {r : List Sp} (h : ¬ (lo < s.1 ∧ s.1 < s.2 ∧ s.2 ≤ top)) : vFrom lo (s :: r) = false := by
  rw [Bool.eq_false_iff]
  intro q
  simp only [vFrom, Bool.and_eq_true, decide_eq_true_eq] at q
  exact h ⟨q.1.1.1, q.1.1.2, q.1.2⟩
theorem vFrom_good {lo : Int} {s : Sp} {r : List Sp} (h : lo < s.1 ∧ s.1 < s.2 ∧ s.2 ≤ top) : vFrom lo (s :: r) = vFrom s.2 r := by
  simp [vFrom, h.1, h.2.1, h.2.2]
/-- The end behind which the next stretch must begin. -/
def lastEnd (l : List Sp) : Nat → Int
  | 0 => -1
  | k + 1 => (l.getD k (0, 0)).2
theorem lastEnd_succ {l : List Sp} {k : Nat} {s : Sp} (h : l[k]? = some s) : lastEnd l (k + 1) = s.2 := by
  show (l.getD k (0, 0)).2 = _
  rw [List.getD_eq_getElem?_getD, h]; rfl
theorem drop_of {l : List Sp} {k : Nat} {s : Sp} (h : l[k]? = some s) : l.drop k = s :: l.drop (k + 1) := by
  obtain ⟨h1, h2⟩ := List.getElem?_eq_some_iff.1 h
  rw [List.drop_eq_getElem_cons h1, h2]

set_option maxHeartbeats 2000000 in
set_option maxRecDepth 100000 in
theorem valid_row (l : List Sp) (b off c : Nat) (w : World) (hn : l.length ≤ 20000) (hb : b < w.heap.size) (hA : RS b off l w) :
    Calls Try.prog 22 #[.slice (some ⟨b, off, none⟩) l.length c] w fun e w' => e = .returned (.bool (validB l)) ∧ Below w.heap.size w w' := by
  have hv : validB l = vFrom (-1) l := by unfold validB; rw [show decide (l.length ≤ 20000) = true by simpa using hn]; rfl
  rw [hv]
  obtain ⟨n, hln⟩ : ∃ n, l.length = n := ⟨_, rfl⟩
  rw [hln]
  have hn' : n ≤ 20000 := by omega
  have HL := Lib.hid hln
  have HA := Lib.hid hA
  generalize hR : vFrom (-1) l = R
  have HR := Lib.hid hR
  clear hA hR hln hn hv
  go_enter Try.func22, Try.ntmps22
  go_wp2
  go_loopw [10] (fun s10 wr => ∃ i : Nat, i ≤ n ∧ s10 = .int .i64 i ∧ Hid (vFrom (lastEnd l i) (l.drop i) = R) ∧ Hid (-1 ≤ lastEnd l i) ∧ Hid (Below w.heap.size w wr)) (fun s10 _ => n - (intOf s10).toNat)
  case atStart => exact ⟨0, Nat.zero_le _, rfl, HR, Lib.hid (by show (-1 : Int) ≤ -1; omega), Lib.hid (Below.refl _ _)⟩
  case round =>
    obtain ⟨i, hi, rfl, HS, HE, HW⟩ := hrel
    by_cases h1 : i < n
    · have ia : i < l.length := by rw [HL.out]; exact h1
      have ga : l[i]? = some l[i] := List.getElem?_eq_getElem ia
      obtain ⟨a0, a1⟩ := (HA.out.keep hb HW.out).at_ ga
      have hdr := drop_of ga
      have hle := lastEnd_succ ga
      have hS := HS.out
      rw [hdr] at hS
      have hsz := HW.out.size
      generalize l[i] = s at *
      obtain ⟨x, y⟩ := s
      simp only at a0 a1 hle
      have hlo := HE.out
      have HLE := Lib.hid hle
      clear hle hdr ga
      by_cases q0 : x < 0
      · have d0 : decide (x < 0) = true := by simpa using q0
        rw [vFrom_bad (by simp only; omega)] at hS
        subst hS
        clear hlo HR
        go_wp2
        go_quiet (fail)
        go_wp2
        go_ret
        exact ⟨rfl, below_drewN (HW.out.alloc HW.out.size _) _⟩
      · have d0 : decide (x < 0) = false := by simpa using q0
        by_cases q1 : x < y
        · have n1 : ¬ y ≤ x := by omega
          have d1 : decide (y ≤ x) = false := by simpa using q1
          by_cases q2 : y ≤ top
          · have q2' : y ≤ 20000000 := q2
            have n2 : ¬ 20000000 < y := by omega
            have d2 : decide (20000000 < y) = false := by simpa using q2'
            cases i with
            | zero =>
              have d3 : decide ((0 : Int) < 0) = false := rfl
              rw [vFrom_good ⟨by simp only; show (-1 : Int) < x; omega, q1, q2⟩] at hS
              have HS2 := Lib.hid hS
              clear hS hlo HR
              simp only [Nat.zero_mul, Nat.add_zero] at a0 a1
              have h10 : (0 : Int) < (n : Int) := by omega
              go_wp2
              go_quiet (fail)
              go_wp2
              go_roundw
              case rel => exact ⟨1, h1, rfl, Lib.hid (by rw [HLE.out]; exact HS2.out), Lib.hid (by rw [HLE.out]; omega), Lib.hid (below_drewN (HW.out.alloc HW.out.size _) _)⟩
              case measure =>
                simp [intOf]
                omega
            | succ k =>
              have hk : k < l.length := by omega
              have gk : l[k]? = some l[k] := List.getElem?_eq_getElem hk
              obtain ⟨_, b1⟩ := (HA.out.keep hb HW.out).at_ gk
              have hlk := lastEnd_succ gk
              rw [hlk] at hS hlo
              generalize l[k].2 = z at *
              have b2 : (wr.alloc (.cells #[.int .i64 x, .int .i64 y] 34)).cell? ⟨b, off + k * 2 + 1, none⟩ = some (.int .i64 z) :=
                (((Below.refl _ wr).alloc (Nat.le_refl _) _).cell (p := ⟨b, off + k * 2 + 1, none⟩) (Nat.lt_of_lt_of_le hb hsz)).trans b1
              have d3 : decide ((0 : Int) < (k : Int) + 1) = true := by rw [decide_eq_true_eq]; omega
              have h11 : (k : Int) + 1 < (n : Int) := by omega
              have h12 : (k : Int) < (n : Int) := by omega
              have w1 : IntKind.i64.wrap ((k : Int) + 1 - 1) = (k : Int) := by
                rw [Int.add_sub_cancel]
                exact IntWalk.i64_in _ (by omega)
              have w2 : IntKind.i64.wrap (k : Int) = (k : Int) := IntWalk.i64_in _ (by omega)
              rw [Int.natCast_add, Int.natCast_one]
              by_cases q3 : z < x
              · have n3 : ¬ x ≤ z := by omega
                have d4 : decide (x ≤ z) = false := by simpa using q3
                rw [vFrom_good ⟨q3, q1, q2⟩] at hS
                have HS2 := Lib.hid hS
                clear hS hlo HR hlk gk
                go_wp2
                go_quiet (fail)
                go_wp2
                go_roundw
                case rel => exact ⟨k + 2, by omega, by go_num, Lib.hid (by rw [HLE.out]; exact HS2.out), Lib.hid (by rw [HLE.out]; omega), Lib.hid (below_drewN (HW.out.alloc HW.out.size _) _)⟩
                case measure => simp [intOf]; omega
              · have n3 : x ≤ z := by omega
                have d4 : decide (x ≤ z) = true := by simpa using n3
                rw [vFrom_bad (by simp only; omega)] at hS
                subst hS
                clear hlo HR hlk gk
                go_wp2
                go_quiet (fail)
                go_wp2
                go_ret
                exact ⟨rfl, below_drewN (HW.out.alloc HW.out.size _) _⟩
          · have q2' : ¬ y ≤ 20000000 := q2
            have n2 : 20000000 < y := by omega
            have d2 : decide (20000000 < y) = true := by simpa using n2
            rw [vFrom_bad (fun q => q2 q.2.2)] at hS
            subst hS
            clear hlo HR
            go_wp2
            go_quiet (fail)
            go_wp2
            go_ret
            exact ⟨rfl, below_drewN (HW.out.alloc HW.out.size _) _⟩
        · have n1 : y ≤ x := by omega
          have d1 : decide (y ≤ x) = true := by simpa using n1
          rw [vFrom_bad (fun q => q1 q.2.1)] at hS
          subst hS
          clear hlo HR
          go_wp2
          go_quiet (fail)
          go_wp2
          go_ret
          exact ⟨rfl, below_drewN (HW.out.alloc HW.out.size _) _⟩
    · obtain rfl : i = n := by omega
      have hT : R = true := by
        have := HS.out
        rw [List.drop_eq_nil_of_le (by rw [HL.out]; exact Nat.le_refl _)] at this
        exact this.symm
      subst hT
      go_wp2
      go_ret
      exact ⟨rfl, HW.out⟩
theorem valid_none (p : Option Addr) (c : Nat) (w : World) : Calls Try.prog 22 #[.slice p 0 c] w fun e w' => e = .returned (.bool true) ∧ Below w.heap.size w w' := by
  go_enter Try.func22, Try.ntmps22
  go_wp2
  refine wp_loop_rounds 1 ?_
  rw [rounds_succ]
  go_wp2
  go_ret
  exact ⟨rfl, Below.refl _ _⟩
theorem valid_long (p : Option Addr) (n c : Nat) (w : World) (hn : n ≤ maxLen) (h : 20000 < n) : Calls Try.prog 22 #[.slice p n c] w fun e w' => e = .returned (.bool false) ∧ Below w.heap.size w w' := by
  unfold maxLen at hn
  have h1 : (20000 : Int) < (n : Int) := by omega
  go_enter Try.func22, Try.ntmps22
  go_wp2
  go_ret
  exact ⟨rfl, Below.refl _ _⟩
theorem valid_any {v : Value} {l : List Sp} {w : World} (h : SlS v l w) (hn : l.length ≤ maxLen) :
    Calls Try.prog 22 #[v] w fun e w' => e = .returned (.bool (validB l)) ∧ Below w.heap.size w w' := by
  by_cases hl : l.length ≤ 20000
  · rcases h with ⟨rfl, p, c, rfl⟩ | ⟨b, off, c, rfl, h1, h2⟩
    · exact valid_none p c w
    · exact valid_row l b off c w hl h1 h2
  · obtain ⟨p, c, rfl⟩ := h.form
    have : validB l = false := by unfold validB; rw [show decide (l.length ≤ 20000) = false by simpa using hl]; rfl
    rw [this]
    exact valid_long p _ c w hn (by omega)

theorem few_any (p : Option Addr) (n c : Nat) (w : World) (hn : n ≤ maxLen) : Calls Try.prog 10 #[.slice p n c] w fun e w' => e = .returned (.bool (decide (n ≤ 60))) ∧ Below w.heap.size w w' := by
  unfold maxLen at hn
  have hd : decide (n ≤ 60) = decide ((n : Int) ≤ 60) := by rw [decide_eq_decide]; omega
  rw [hd]
  clear hd
  go_enter Try.func10, Try.ntmps10
  go_wp2
  go_ret
  exact ⟨rfl, Below.refl _ _⟩
end Go.Proofs.Ytojofkjnakiliaa
