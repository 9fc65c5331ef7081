/- The insertion sort of two sets that stand in order, and what is behind SortedStableFunc; no condition beyond those that each theorem names. -/
import Derived.Test.YtmnbcjchfbfngaaDoorM4
import Derived.Deep.RegionWith
import Derived.Deep.RegionHeld3
import Derived.Lib.QuietBelow
import Derived.BigQuiet
namespace Go.Proofs.YtmnbcjchfbfngaaDoor
set_option linter.unusedSimpArgs false
set_option linter.unusedVariables false
open Go.RowKit Go.Shelf
open NmP

set_option maxHeartbeats 4000000 in
set_option maxRecDepth 100000 in
theorem ins2 (a b : Ss) (g cap : Nat) (r : Int) (w : World) (hg : g < w.heap.size) (hR : RT g 0 [a, b] w) (hr : ¬ r < 0)
    (C : ∀ W, Below w.heap.size w W → Calls Tryd.prog 23 #[.agg #[.string b.x, .int .i64 b.t, .int .i64 b.f, .slice b.p b.n b.c], .agg #[.string a.x, .int .i64 a.t, .int .i64 a.f, .slice a.p a.n a.c]] W fun e w' => e = .returned (.int .i64 r) ∧ Below W.heap.size W w') :
    Calls Tryd.prog 82 #[.slice (some ⟨g, 0, none⟩) 2 cap, .int .i64 0, .int .i64 2, .func (.func 23) #[] #[]] w fun e w' => e = .returned (.tuple #[]) ∧ Below w.heap.size w w' := by
  have HC := Lib.hid C
  obtain ⟨a0, a1, a2, a3⟩ := hR.at_ (i := 0) (t := a) rfl
  obtain ⟨b0, b1, b2, b3⟩ := hR.at_ (i := 1) (t := b) rfl
  clear C hR
  simp only [Nat.zero_mul, Nat.one_mul, Nat.zero_add, Nat.add_zero, Nat.reduceAdd] at a0 a1 a2 a3 b0 b1 b2 b3
  have hr0 : decide (r < 0) = false := decide_eq_false hr
  clear hr
  go_enter Tryd.func82, Tryd.ntmps82
  go_wp2
  refine wp_loop_rounds 2 ?_
  rw [rounds_succ]
  go_wp2
  refine wp_loop_rounds 1 ?_
  rw [rounds_succ]
  go_wp2
  have ha0 := fun d os => cell_regrown a0 d os
  have ha1 := fun d os => cell_regrown a1 d os
  have ha2 := fun d os => cell_regrown a2 d os
  have ha3 := fun d os => cell_regrown a3 d os
  have hb0 := fun d os => cell_regrown b0 d os
  have hb1 := fun d os => cell_regrown b1 d os
  have hb2 := fun d os => cell_regrown b2 d os
  have hb3 := fun d os => cell_regrown b3 d os
  refine wp_region_quiet_below (by kernel_rfl) (by kernel_rfl) ?_
  repeat (go_big_quiet_step ((go_at_call 23; (with_reducible exact Calls.regrown_of (HC.out _ (below_regrown _ _ _))))))
  refine wpQuiet_nil ?_
  intro _ hw'
  obtain ⟨⟨dq, osq⟩, hw''⟩ := hw'
  subst hw''
  go_wp2
  rw [rounds_succ]
  go_wp2
  go_end0
  exact ⟨rfl, below_regrown _ dq osq⟩

theorem stable2 (a b : Ss) (g cap : Nat) (r : Int) (w : World) (hg : g < w.heap.size) (hR : RT g 0 [a, b] w) (hr : ¬ r < 0)
    (C : ∀ W, Below w.heap.size w W → Calls Tryd.prog 23 #[.agg #[.string b.x, .int .i64 b.t, .int .i64 b.f, .slice b.p b.n b.c], .agg #[.string a.x, .int .i64 a.t, .int .i64 a.f, .slice a.p a.n a.c]] W fun e w' => e = .returned (.int .i64 r) ∧ Below W.heap.size W w') :
    Calls Tryd.prog 72 #[.slice (some ⟨g, 0, none⟩) 2 cap, .int .i64 2, .func (.func 23) #[] #[]] w fun e w' => e = .returned (.tuple #[]) ∧ Below w.heap.size w w' := by
  have HC := Lib.hid (ins2 a b g cap r w hg hR hr C)
  clear C hR
  go_enter Tryd.func72, Tryd.ntmps72
  go_wp2
  refine wp_loop_rounds 1 ?_
  rw [rounds_succ]
  go_wp2_with (go_at_call 82; (with_reducible refine (HC.out).mono ?_); rintro e w1 ⟨rfl, hb⟩; have HB := Lib.hid hb; clear hb)
  refine wp_loop_rounds 1 ?_
  rw [rounds_succ]
  go_wp2
  go_end0
  exact ⟨rfl, HB.out⟩
theorem stab2 (a b : Ss) (g cap : Nat) (r : Int) (w : World) (hg : g < w.heap.size) (hR : RT g 0 [a, b] w) (hr : ¬ r < 0)
    (C : ∀ W, Below w.heap.size w W → Calls Tryd.prog 23 #[.agg #[.string b.x, .int .i64 b.t, .int .i64 b.f, .slice b.p b.n b.c], .agg #[.string a.x, .int .i64 a.t, .int .i64 a.f, .slice a.p a.n a.c]] W fun e w' => e = .returned (.int .i64 r) ∧ Below W.heap.size W w') :
    Calls Tryd.prog 55 #[.slice (some ⟨g, 0, none⟩) 2 cap, .func (.func 23) #[] #[]] w fun e w' => e = .returned (.tuple #[]) ∧ Below w.heap.size w w' := by
  have HC := Lib.hid (stable2 a b g cap r w hg hR hr C)
  clear C hR
  go_enter Tryd.func55, Tryd.ntmps55
  go_wp2_with (go_at_call 72; (with_reducible refine (HC.out).mono ?_); rintro e w1 ⟨rfl, hb⟩; have HB := Lib.hid hb; clear hb)
  go_end0
  exact ⟨rfl, HB.out⟩
theorem collect_any (Bx b off cap : Nat) (L : List Ss) (hL : L.length ≤ 1000000) (w : World) (hb : b < w.heap.size) (hBx : Bx < w.heap.size)
    (hbx : w.cell? ⟨Bx, 0, none⟩ = some (.slice (some ⟨b, off, none⟩) L.length cap)) (hR : RT b off L w) :
    Calls Tryd.prog 54 #[.func (.func 56) #[] #[.pointer (some ⟨Bx, 0, none⟩)]] w (CollTo w L) := by
  refine (callsIn_wide (n := 6)).1 ?_
  have HC := Lib.hid (appendSeq_in 5 (by omega) Bx b off cap L hL w hb hBx hbx hR)
  clear hbx hR
  refine callsIn_of_wp Tryd.func54 rfl trivial ?_ rfl
  simp only [Tryd.ntmps54, List.size_toArray, List.length_cons, List.length_nil, Nat.reduceAdd, Nat.reduceSub, Array.replicate_succ, Array.replicate_zero, List.push_toArray, List.append_toArray, List.nil_append, List.cons_append]
  gi_wp2
  refine ⟨trivial, ?_⟩
  refine (HC.out).mono ?_
  rintro e w' ⟨v, rfl, hv, hb2⟩
  have HV := Lib.hid hv
  have HB := Lib.hid hb2
  clear hv hb2
  gi_wp2
  go_ret
  exact ⟨v, rfl, HV.out, HB.out⟩
/-- A row of sets that the call owns, laid open. -/
theorem own_T {W : World} {B : Nat} {v : Value} {L : List Ss} (h : W.ownsRow B 24 4 v L.length (rowT L)) (h1 : 1 ≤ L.length) :
    ∃ g cap, v = .slice (some ⟨g, 0, none⟩) L.length cap ∧ B ≤ g ∧ g < W.heap.size ∧ L.length ≤ cap ∧ RT g 0 L W := by
  rcases h.2 with ⟨_, h0⟩ | ⟨g, cap, cur, rfl, hb, hg, hn, _, _, ht⟩
  · omega
  · refine ⟨g, cap, rfl, hb, (Array.getElem?_eq_some_iff.1 hg).1, hn, fun m u hm => ?_⟩
    refine cell_of_blk hg (0 + m) u ?_
    have hml : m < L.length * 4 := by
      have := (List.getElem?_eq_some_iff.1 hm).1
      rw [rowT_len] at this
      omega
    rw [Nat.zero_add, ← Array.getElem?_toList]
    rw [← ht, List.getElem?_take, if_pos hml] at hm
    exact hm
/-- What SortedStableFunc of two sets returns. -/
def Sort2To (w : World) (a b : Ss) (e : Ending) (w' : World) : Prop := ∃ g cap, e = .returned (.slice (some ⟨g, 0, none⟩) 2 cap) ∧ w.heap.size ≤ g ∧ g < w'.heap.size ∧ 2 ≤ cap ∧ RT g 0 [a, b] w' ∧ Below w.heap.size w w'
theorem sorted2 (a b : Ss) (Bx bb off cap : Nat) (r : Int) (w : World) (hb : bb < w.heap.size) (hBx : Bx < w.heap.size)
    (hbx : w.cell? ⟨Bx, 0, none⟩ = some (.slice (some ⟨bb, off, none⟩) 2 cap)) (hR : RT bb off [a, b] w) (hr : ¬ r < 0)
    (C : ∀ W, Below w.heap.size w W → Calls Tryd.prog 23 #[.agg #[.string b.x, .int .i64 b.t, .int .i64 b.f, .slice b.p b.n b.c], .agg #[.string a.x, .int .i64 a.t, .int .i64 a.f, .slice a.p a.n a.c]] W fun e w' => e = .returned (.int .i64 r) ∧ Below W.heap.size W w') :
    Calls Tryd.prog 25 #[.func (.func 56) #[] #[.pointer (some ⟨Bx, 0, none⟩)], .func (.func 23) #[] #[]] w (Sort2To w a b) := by
  have H1 := Lib.hid (collect_any Bx bb off cap [a, b] (by simp) w hb hBx hbx hR)
  have H2 : Hid (∀ W g cap, Below w.heap.size w W → g < W.heap.size → RT g 0 [a, b] W → Calls Tryd.prog 55 #[.slice (some ⟨g, 0, none⟩) 2 cap, .func (.func 23) #[] #[]] W fun e w' => e = .returned (.tuple #[]) ∧ Below W.heap.size W w') :=
    Lib.hid (fun W g cap h1 h2 h3 => stab2 a b g cap r W h2 h3 hr (fun W' h4 => C W' (h1.trans (h4.mono h1.size))))
  clear C hR hbx hr
  go_enter Tryd.func25, Tryd.ntmps25
  go_wp2_with (first | (go_at_call 54; (with_reducible refine (H1.out).mono ?_); rintro e w1 ⟨v, rfl, hv, hb1⟩; obtain ⟨g, cp, rfl, hg1, hg2, hg3, hg4⟩ := own_T hv (by simp); have HB := Lib.hid hb1; have HG := Lib.hid hg4; clear hv hb1 hg4) | (go_at_call 55; (with_reducible refine (H2.out _ g cp HB.out hg2 HG.out).mono ?_); rintro e w2 ⟨rfl, hb2⟩; have HB2 := Lib.hid hb2; clear hb2))
  go_ret
  exact ⟨g, cp, rfl, hg1, Nat.lt_of_lt_of_le hg2 HB2.out.size, hg3, HG.out.keep hg2 HB2.out, HB.out.trans (HB2.out.mono HB.out.size)⟩
theorem values_any (p : Option Addr) (n c : Nat) (w : World) : Calls Tryd.prog 26 #[.slice p n c] w fun e w' => e = .returned (.func (.func 56) #[] #[.pointer (some ⟨w.heap.size, 0, none⟩)]) ∧ w' = w.alloc (.cells #[.slice p n c] 25) := by
  go_enter Tryd.func26, Tryd.ntmps26
  go_wp2
  go_ret
  exact ⟨rfl, rfl⟩
end Go.Proofs.YtmnbcjchfbfngaaDoor
