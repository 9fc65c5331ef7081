/- The contract of slices.Contains at keys; no condition beyond those that each theorem names. -/
import Derived.Test.YtkhckgknldiheaaDoorG5
import Derived.Test.YtkhckgknldiheaaDoorSR
import Derived.Deep.QuietTactic
import Derived.BigQuiet
namespace Go.Proofs.YtkhckgknldiheaaDoor
set_option linter.unusedSimpArgs false
set_option linter.unusedVariables false
open Go.RowKit
open NmP SpP

/-- The place of a key, or -1. -/
def idxK (x : Sp) : Nat → List Sp → Int
  | _, [] => -1
  | i, k :: r => if x = k then i else idxK x (i + 1) r
theorem idxK_has (x : Sp) : ∀ (l : List Sp) (i : Nat), decide (0 ≤ idxK x i l) = l.contains x
  | [], _ => rfl
  | k :: r, i => by
    unfold idxK
    rw [List.contains_cons]
    by_cases h : x = k
    · rw [if_pos h]; simp [h]
    · rw [if_neg h, idxK_has x r (i + 1)]; simp [h]
/-- A call that returns a number. -/
def IdxTo (n : Int) (w : World) (e : Ending) (w' : World) : Prop := e = .returned (.int .i64 n) ∧ Below w.heap.size w w'

set_option maxHeartbeats 2000000 in
set_option maxRecDepth 100000 in
theorem index_any (n a : Int) (v : Value) (l : List Sp) (w : World) (hv : SlS v l w) (hn : l.length ≤ maxLen) :
    Calls Tryd.prog 75 #[v, .agg #[.int .i64 n, .int .i64 a]] w (IdxTo (idxK (n, a) 0 l) w) := by
  obtain ⟨p, c, rfl⟩ := hv.form
  obtain ⟨m, hm⟩ : ∃ m, l.length = m := ⟨_, rfl⟩
  rw [hm] at hv hn ⊢
  unfold maxLen at hn
  have HL := Lib.hid hm
  have hb0 := (Below.refl _ w).alloc (Nat.le_refl _) (.cells #[.int .i64 n, .int .i64 a] 44)
  have HV := Lib.hid (hv.keep hb0)
  have hk0 : (w.alloc (.cells #[.int .i64 n, .int .i64 a] 44)).heap[w.heap.size]? = some (Obj.cells #[.int .i64 n, .int .i64 a] 44 (0, 0)) := heap_alloc_new w _
  have k0 := cell_of_blk hk0 0 (.int .i64 n) rfl
  have k1 := cell_of_blk hk0 1 (.int .i64 a) rfl
  have HB0 := Lib.hid hb0
  obtain ⟨R, hR⟩ : ∃ R, idxK (n, a) 0 l = R := ⟨_, rfl⟩
  rw [hR]
  have HR := Lib.hid hR
  clear hb0 hk0 hv hm hR
  generalize hW0 : w.alloc (.cells #[.int .i64 n, .int .i64 a] 44) = W0 at *
  have HW0 := Lib.hid hW0
  clear hW0
  go_enter Tryd.func75, Tryd.ntmps75
  go_wp2
  rw [HW0.out]
  go_loopw [8] (fun s8 wr => ∃ i : Nat, i ≤ m ∧ s8 = .int .i64 i ∧ Hid (idxK (n, a) i (l.drop i) = R) ∧ ∃ q, wr = W0.drewN q) (fun s8 _ => m - (intOf s8).toNat)
  case atStart => exact ⟨0, Nat.zero_le _, rfl, HR, 0, rfl⟩
  case round =>
    obtain ⟨i, hi, rfl, H1, q, rfl⟩ := hrel
    by_cases hlt : i < m
    · have ia : i < l.length := by rw [HL.out]; exact hlt
      have ga : l[i]? = some l[i] := List.getElem?_eq_getElem ia
      have hv1 := HV.out
      obtain ⟨b, off, rfl, hb, hR1⟩ := hv1.at_ (by omega)
      obtain ⟨a0, a1⟩ := hR1.at_ ga
      have h1 := H1.out
      rw [drop_of ga] at h1
      generalize l[i] = kk at *
      obtain ⟨x, y⟩ := kk
      simp only at a0 a1
      have hi1 : (i : Int) < (m : Int) := by omega
      have h2 : (if (n, a) = (x, y) then (i : Int) else idxK (n, a) (i + 1) (l.drop (i + 1))) = R := h1
      clear h1 ga hR1 hv1 H1 HR
      by_cases e1 : n = x
      · by_cases e2 : a = y
        · subst e1 e2
          rw [if_pos rfl] at h2
          subst h2
          go_wp2
          go_quiet (fail)
          go_wp2
          go_ret
          exact ⟨rfl, below_drewN (below_drewN HB0.out q) _⟩
        · rw [if_neg (by simp [e1, e2])] at h2
          have f1 : (a == y) = false := beq_eq_false_iff_ne.2 e2
          have f2 : decide (a = y) = false := decide_eq_false e2
          subst e1
          have h3 := Lib.hid h2
          clear h2 e2
          go_wp2
          go_quiet (fail)
          go_wp2
          go_roundw
          case rel => exact ⟨i + 1, hlt, by go_num, h3, q + nq, rfl⟩
          case measure =>
            simp [intOf]
            omega
      · rw [if_neg (by simp [e1])] at h2
        have f1 : (n == x) = false := beq_eq_false_iff_ne.2 e1
        have f2 : decide (n = x) = false := decide_eq_false e1
        have h3 := Lib.hid h2
        clear h2 e1
        go_wp2
        go_quiet (fail)
        go_wp2
        go_roundw
        case rel => exact ⟨i + 1, hlt, by go_num, h3, q + nq, rfl⟩
        case measure =>
          simp [intOf]
          omega
    · obtain rfl : i = m := by omega
      have h1 := H1.out
      rw [List.drop_eq_nil_of_le (by have := HL.out; omega)] at h1
      have h2 : (-1 : Int) = R := h1
      subst h2
      go_wp2
      go_ret
      exact ⟨rfl, below_drewN HB0.out q⟩
theorem contains_any (n a : Int) (v : Value) (l : List Sp) (w : World) (hv : SlS v l w) (hn : l.length ≤ maxLen) :
    Calls Tryd.prog 47 #[v, .agg #[.int .i64 n, .int .i64 a]] w fun e w' => e = .returned (.bool (l.contains (n, a))) ∧ Below w.heap.size w w' := by
  rw [← idxK_has (n, a) l 0]
  obtain ⟨p, c, rfl⟩ := hv.form
  have hb0 := (Below.refl _ w).alloc (Nat.le_refl _) (.cells #[.int .i64 n, .int .i64 a] 44)
  have C := Lib.hid (index_any n a _ l _ (hv.keep hb0) hn)
  unfold IdxTo at C
  have HB0 := Lib.hid hb0
  clear hb0 hv hn
  generalize idxK (n, a) 0 l = r at *
  cases hd : decide (0 ≤ r)
  all_goals
    go_enter Tryd.func47, Tryd.ntmps47
    go_wp2_with (go_at_call 75; (with_reducible refine (C.out).mono ?_); rintro e w1 ⟨rfl, hb1⟩; have HB1 := Lib.hid (HB0.out.trans (hb1.mono HB0.out.size)); clear hb1)
    go_ret
    exact ⟨rfl, HB1.out⟩
end Go.Proofs.YtkhckgknldiheaaDoor
