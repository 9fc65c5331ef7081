/- The contracts of Valid and Has of package span at no stretch, and at one; no condition beyond those that each theorem names. -/
import Derived.Test.YteojjbfeblbfdaaDoorSR
import Derived.Test.YteojjbfeblbfdaaDoorB2
import Derived.Deep.QuietTactic
import Derived.BigQuiet
import Derived.Deep.LoopGhost
namespace Go.Proofs.YteojjbfeblbfdaaDoor
set_option linter.unusedSimpArgs false
set_option linter.unusedVariables false
open Go.RowKit
open SpP

def okSp (l : List Sp) : Prop := l = [] ∨ ∃ x y, l = [(x, y)] ∧ 0 ≤ x ∧ x < y ∧ y ≤ 20000000
def hasSp (l : List Sp) (t : Int) : Bool := l.any (fun s => decide (s.1 ≤ t) && decide (t < s.2))
set_option maxHeartbeats 1000000 in
set_option maxRecDepth 100000 in
theorem vspan1 (v : Value) (l : List Sp) (w : World) (hv : SlS v l w) (ho : okSp l) :
    Calls Tryd.prog 13 #[v] w fun e w' => e = .returned (.bool true) ∧ Below w.heap.size w w' := by
  rcases ho with rfl | ⟨x, y, rfl, h1, h2, h3⟩
  · obtain ⟨p, c, rfl⟩ := hv.form
    clear hv
    go_enter Tryd.func13, Tryd.ntmps13
    go_wp2
    refine wp_loop_rounds 1 ?_
    rw [rounds_succ]
    go_wp2
    go_ret
    exact ⟨rfl, Below.refl _ _⟩
  · obtain ⟨p, c, rfl⟩ := hv.form
    obtain ⟨b, off, rfl, hb, hR⟩ := hv.at_ (by simp)
    obtain ⟨a0, a1⟩ := hR.at_ (i := 0) rfl
    simp only [Nat.zero_mul, Nat.add_zero] at a0 a1
    have d1 : decide (x < 0) = false := decide_eq_false (by omega)
    have d2 : decide (y ≤ x) = false := decide_eq_false (by omega)
    have d3 : decide (20000000 < y) = false := decide_eq_false (by omega)
    have d4 : decide ((0 : Int) < 0) = false := rfl
    clear hv hR h1 h2 h3
    go_enter Tryd.func13, Tryd.ntmps13
    go_wp2
    refine wp_loop_rounds 2 ?_
    rw [rounds_succ]
    go_wp2
    go_quiet (fail)
    go_wp2
    rw [rounds_succ]
    go_wp2
    go_ret
    exact ⟨rfl, below_drewN ((Below.refl _ w).alloc (Nat.le_refl _) _) _⟩
set_option maxHeartbeats 1000000 in
set_option maxRecDepth 100000 in
theorem has1_any (x y t : Int) (q : Nat) (w : World) (hq : w.cell? ⟨q, 0, none⟩ = some (.int .i64 t)) :
    Calls Tryd.prog 47 #[.agg #[.int .i64 x, .int .i64 y], .pointer (some ⟨q, 0, none⟩)] w fun e w' => e = .returned (.bool (decide (x ≤ t) && decide (t < y))) ∧ Below w.heap.size w w' := by
  have hl := World.block_lt_of_cell? w _ hq
  simp only at hl
  generalize hd1 : decide (x ≤ t) = d1
  generalize hd2 : decide (t < y) = d2
  cases d1 <;> cases d2
  all_goals
    go_enter Tryd.func47, Tryd.ntmps47
    go_wp2
    go_ret
    exact ⟨rfl, (Below.refl _ w).alloc (Nat.le_refl _) _⟩
set_option maxHeartbeats 1000000 in
set_option maxRecDepth 100000 in
theorem hidx1 (v : Value) (l : List Sp) (t : Int) (q : Nat) (w : World) (hv : SlS v l w) (ho : okSp l) (hq : w.cell? ⟨q, 0, none⟩ = some (.int .i64 t)) :
    Calls Tryd.prog 88 #[v, .func (.func 47) #[] #[.pointer (some ⟨q, 0, none⟩)]] w fun e w' => e = .returned (.int .i64 (if hasSp l t = true then 0 else -1)) ∧ Below w.heap.size w w' := by
  rcases ho with rfl | ⟨x, y, rfl, h1, h2, h3⟩
  · obtain ⟨p, c, rfl⟩ := hv.form
    clear hv
    rw [show (if hasSp [] t = true then (0 : Int) else -1) = -1 from rfl]
    go_enter Tryd.func88, Tryd.ntmps88
    go_wp2
    refine wp_loop_rounds 1 ?_
    rw [rounds_succ]
    go_wp2
    go_ret
    exact ⟨rfl, Below.refl _ _⟩
  · obtain ⟨p, c, rfl⟩ := hv.form
    obtain ⟨b, off, rfl, hb, hR⟩ := hv.at_ (by simp)
    obtain ⟨a0, a1⟩ := hR.at_ (i := 0) rfl
    simp only [Nat.zero_mul, Nat.add_zero] at a0 a1
    have C := Lib.hid (has1_any x y t q w hq)
    have hh : hasSp [(x, y)] t = (decide (x ≤ t) && decide (t < y)) := by simp [hasSp]
    rw [hh]
    generalize (decide (x ≤ t) && decide (t < y)) = r at *
    clear hv hR h1 h2 h3 hh hq
    cases r
    · rw [if_neg (by simp)]
      go_enter Tryd.func88, Tryd.ntmps88
      go_wp2
      refine wp_loop_rounds 2 ?_
      rw [rounds_succ]
      go_wp2_with (go_at_call 47; (with_reducible refine C.out.mono ?_); rintro e w1 ⟨rfl, hb1⟩; have HB1 := Lib.hid hb1; clear hb1)
      rw [rounds_succ]
      go_wp2
      go_ret
      exact ⟨rfl, HB1.out⟩
    · rw [if_pos rfl]
      go_enter Tryd.func88, Tryd.ntmps88
      go_wp2
      refine wp_loop_rounds 1 ?_
      rw [rounds_succ]
      go_wp2_with (go_at_call 47; (with_reducible refine C.out.mono ?_); rintro e w1 ⟨rfl, hb1⟩; have HB1 := Lib.hid hb1; clear hb1)
      go_ret
      exact ⟨rfl, HB1.out⟩
set_option maxHeartbeats 1000000 in
set_option maxRecDepth 100000 in
theorem has_sp (v : Value) (l : List Sp) (t : Int) (w : World) (hv : SlS v l w) (ho : okSp l) :
    Calls Tryd.prog 14 #[v, .int .i64 t] w fun e w' => e = .returned (.bool (hasSp l t)) ∧ Below w.heap.size w w' := by
  have hb0 := (Below.refl _ w).alloc (Nat.le_refl _) (.cells #[.int .i64 t] 3)
  have hq : (w.alloc (.cells #[.int .i64 t] 3)).cell? ⟨w.heap.size, 0, none⟩ = some (.int .i64 t) := cell_of_blk (heap_alloc_new w _) 0 _ rfl
  have C := Lib.hid (hidx1 v l t w.heap.size _ (hv.keep hb0) ho hq)
  obtain ⟨p, c, rfl⟩ := hv.form
  have HB0 := Lib.hid hb0
  clear hb0 hv ho hq
  generalize l.length = n at *
  generalize hasSp l t = r at *
  cases r
  · rw [if_neg (by simp)] at C
    go_enter Tryd.func14, Tryd.ntmps14
    go_wp2_with (first | (go_at_call 46; go_in) | (go_at_call 88; (with_reducible refine C.out.mono ?_); rintro e w1 ⟨rfl, hb1⟩; have HB1 := Lib.hid (HB0.out.trans (hb1.mono HB0.out.size)); clear hb1))
    go_ret
    exact ⟨rfl, HB1.out⟩
  · rw [if_pos rfl] at C
    go_enter Tryd.func14, Tryd.ntmps14
    go_wp2_with (first | (go_at_call 46; go_in) | (go_at_call 88; (with_reducible refine C.out.mono ?_); rintro e w1 ⟨rfl, hb1⟩; have HB1 := Lib.hid (HB0.out.trans (hb1.mono HB0.out.size)); clear hb1))
    go_ret
    exact ⟨rfl, HB1.out⟩
end Go.Proofs.YteojjbfeblbfdaaDoor
