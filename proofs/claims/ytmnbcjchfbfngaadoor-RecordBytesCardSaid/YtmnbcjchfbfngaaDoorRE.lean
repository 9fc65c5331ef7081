/- Few of the reference at one set, and the box of a set; no condition beyond those that each theorem names. -/
import Derived.Test.YtmnbcjchfbfngaaDoorMH
import Derived.Test.YtmnbcjchfbfngaaDoorVR
import Derived.Test.YtmnbcjchfbfngaaDoorMP
namespace Go.Proofs.YtmnbcjchfbfngaaDoor
set_option linter.unusedSimpArgs false
set_option linter.unusedVariables false
open Go.RowKit
open NmP

def fewB (s : St) : Bool := decide (s.l.length ≤ 20) && decide (s.x.size ≤ 200)
set_option maxHeartbeats 4000000 in
set_option maxRecDepth 100000 in
theorem few1 (x : ByteArray) (t f : Int) (p : Option Addr) (n c : Nat) (g cap : Nat) (w : World) (hg : g < w.heap.size) (hA : RT g 0 [⟨x, t, f, p, n, c⟩] w) :
    Calls Tryd.prog 8 #[.slice (some ⟨g, 0, none⟩) 1 cap] w fun e w' => e = .returned (.bool (decide (n ≤ 20) && decide (x.size ≤ 200))) ∧ Below w.heap.size w w' := by
  obtain ⟨a0, a1, a2, a3⟩ := hA.at_ (i := 0) rfl
  simp only [Nat.zero_mul, Nat.zero_add, Nat.add_zero] at a0 a1 a2 a3
  clear hA
  by_cases h1 : n ≤ 20
  · have q1 : ¬ (20 : Int) < (n : Int) := by omega
    have e1 : decide (n ≤ 20) = true := decide_eq_true h1
    by_cases h2 : x.size ≤ 200
    · have q2 : ¬ (200 : Int) < (x.size : Int) := by omega
      have e2 : decide (x.size ≤ 200) = true := decide_eq_true h2
      rw [e1, e2]
      clear h1 h2 e1 e2
      go_enter Tryd.func8, Tryd.ntmps8
      go_wp2
      refine wp_loop_rounds 2 ?_
      rw [rounds_succ]
      go_wp2
      rw [rounds_succ]
      go_wp2
      go_ret
      exact ⟨rfl, Below.refl _ _⟩
    · have q2 : (200 : Int) < (x.size : Int) := by omega
      have e2 : decide (x.size ≤ 200) = false := decide_eq_false h2
      rw [e1, e2]
      clear h1 h2 e1 e2
      go_enter Tryd.func8, Tryd.ntmps8
      go_wp2
      refine wp_loop_rounds 2 ?_
      rw [rounds_succ]
      go_wp2
      go_ret
      exact ⟨rfl, Below.refl _ _⟩
  · have q1 : (20 : Int) < (n : Int) := by omega
    have e1 : decide (n ≤ 20) = false := decide_eq_false h1
    rw [e1]
    clear h1 e1
    go_enter Tryd.func8, Tryd.ntmps8
    go_wp2
    refine wp_loop_rounds 2 ?_
    rw [rounds_succ]
    go_wp2
    go_ret
    exact ⟨rfl, Below.refl _ _⟩
theorem few_new (s : St) (p : Option Addr) (c : Nat) (W : World) (hv : s.v = .slice p s.l.length c) :
    Calls Tryd.prog 8 #[.slice (some ⟨W.heap.size, 0, none⟩) 1 1] (W.alloc (.cells #[.string s.x, .int .i64 s.typ, .int .i64 s.life, .slice p s.l.length c] 24)) fun e w' => e = .returned (.bool (fewB s)) ∧ Below W.heap.size W w' :=
  (few1 s.x s.typ s.life p s.l.length c W.heap.size 1 _ (by simp) (rt_one ⟨s.x, s.typ, s.life, p, s.l.length, c⟩ W _)).mono fun e w' ⟨q1, q2⟩ => ⟨q1, (bnew W _).trans (q2.mono (bnew W _).size)⟩
/-- The box of a set. -/
structure RBx (w W : World) (x : ByteArray) (t f : Int) (v : Value) : Prop where
  bel : Below w.heap.size w W
  sx : W.heap[w.heap.size]? = some (Obj.cells #[.string x, .int .i64 t, .int .i64 f, v] 24 (0, 0))
theorem rbox (w : World) (x : ByteArray) (t f : Int) (v : Value) : RBx w (w.alloc (.cells #[.string x, .int .i64 t, .int .i64 f, v] 24)) x t f v := ⟨bnew w _, heap_alloc_new w _⟩
theorem RBx.keep {w W W' : World} {x : ByteArray} {t f : Int} {v : Value} (h : RBx w W x t f v) (hb : Below W.heap.size W W') : RBx w W' x t f v :=
  ⟨h.bel.trans (hb.mono h.bel.size), (hb.block _ (Array.getElem?_eq_some_iff.1 h.sx).1).trans h.sx⟩
end Go.Proofs.YtmnbcjchfbfngaaDoor
