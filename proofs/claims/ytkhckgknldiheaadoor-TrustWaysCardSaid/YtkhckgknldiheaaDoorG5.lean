/- The contract of Check of package sign; no condition beyond those that each theorem names. -/
import Derived.Test.YtkhckgknldiheaaDoorG4
namespace Go.Proofs.YtkhckgknldiheaaDoor
set_option linter.unusedSimpArgs false
set_option linter.unusedVariables false
open Go.RowKit
open NmP

/-- A signature. -/
structure Sg where
  z : ByteArray
  k : Int
  a : Int
  f : Int
  u : Int
  m : Int
def Sg.vals (g : Sg) : Array Value := #[.string g.z, .int .i64 g.k, .int .i64 g.a, .int .i64 g.f, .int .i64 g.u, .int .u64 g.m]
/-- The signature is that of the set by the key. -/
def checkB (s : St) (g : Sg) (n a : Int) : Bool := signB s g.z n a g.f g.u && (decide (n = g.k) && decide (a = g.a) && decide (sigSum s g.z n a g.f g.u = g.m))

set_option maxHeartbeats 4000000 in
set_option maxRecDepth 100000 in
theorem check_any (s : St) (g : Sg) (n a : Int) (w : World) (hs : s.In w) (hr : RulesAt w) (hz : g.z.size ≤ maxLen) :
    Calls Tryd.prog 48 #[.agg #[.string s.x, .int .i64 s.typ, .int .i64 s.life, s.v], .agg #[.string g.z, .int .i64 g.k, .int .i64 g.a, .int .i64 g.f, .int .i64 g.u, .int .u64 g.m], .agg #[.int .i64 n, .int .i64 a]] w fun e w' => e = .returned (.bool (checkB s g n a)) ∧ Below w.heap.size w w' := by
  have hb0 : Below w.heap.size w (((w.alloc (.cells #[.string s.x, .int .i64 s.typ, .int .i64 s.life, s.v] 25)).alloc (.cells #[.string g.z, .int .i64 g.k, .int .i64 g.a, .int .i64 g.f, .int .i64 g.u, .int .u64 g.m] 49)).alloc (.cells #[.int .i64 n, .int .i64 a] 44)) := (((Below.refl _ w).alloc (Nat.le_refl _) _).alloc (by simp) _).alloc (by simp; omega) _
  have hg0 : (((w.alloc (.cells #[.string s.x, .int .i64 s.typ, .int .i64 s.life, s.v] 25)).alloc (.cells #[.string g.z, .int .i64 g.k, .int .i64 g.a, .int .i64 g.f, .int .i64 g.u, .int .u64 g.m] 49)).alloc (.cells #[.int .i64 n, .int .i64 a] 44)).heap[w.heap.size + 1]? = some (Obj.cells #[.string g.z, .int .i64 g.k, .int .i64 g.a, .int .i64 g.f, .int .i64 g.u, .int .u64 g.m] 49 (0, 0)) := by
    rw [heap_alloc_old _ _ (by simp)]
    have := heap_alloc_new (w.alloc (.cells #[.string s.x, .int .i64 s.typ, .int .i64 s.life, s.v] 25)) (.cells #[.string g.z, .int .i64 g.k, .int .i64 g.a, .int .i64 g.f, .int .i64 g.u, .int .u64 g.m] 49)
    simpa using this
  have CS := Lib.hid (sign_any s g.z n a g.f g.u _ (hs.keep hb0) (hr.keep hb0) hz)
  have HB0 := Lib.hid hb0
  have G0 := Lib.hid hg0
  obtain ⟨p, c, hvv⟩ := hs.hA.form
  have HVV := Lib.hid hvv
  clear hb0 hg0 hs hr hz hvv
  obtain ⟨gz, gk, ga, gf, gu, gm⟩ := g
  simp only at CS HB0 G0 ⊢
  unfold checkB
  unfold signV at CS
  simp only
  generalize sigSum s gz n a gf gu = sm at *
  generalize signB s gz n a gf gu = sb at *
  cases sb
  · rw [if_neg (by simp)] at CS
    rw [Bool.false_and]
    go_enter Tryd.func48, Tryd.ntmps48
    go_wp2_with (go_at_call 22; (with_reducible refine (CS.out).mono ?_); rintro e w1 ⟨rfl, hb1⟩; have HB1 := Lib.hid (HB0.out.trans (hb1.mono HB0.out.size)); clear hb1)
    go_ret
    exact ⟨rfl, HB1.out.alloc HB1.out.size _⟩
  · rw [if_pos rfl] at CS
    rw [Bool.true_and]
    go_enter Tryd.func48, Tryd.ntmps48
    go_wp2_with (go_at_call 22; (with_reducible refine (CS.out).mono ?_); rintro e w1 ⟨rfl, hb1⟩; have HB1 := Lib.hid (HB0.out.trans (hb1.mono HB0.out.size)); have G1 := Lib.hid ((hb1.block (w.heap.size + 1) (by (try simp); (try omega))).trans G0.out); clear hb1; have g0 := cell_of_blk G1.out 0 (.string gz) rfl; have g1 := cell_of_blk G1.out 1 (.int .i64 gk) rfl; have g2 := cell_of_blk G1.out 2 (.int .i64 ga) rfl; have g3 := cell_of_blk G1.out 3 (.int .i64 gf) rfl; have g4 := cell_of_blk G1.out 4 (.int .i64 gu) rfl; have g5 := cell_of_blk G1.out 5 (.int .u64 gm) rfl; have hl1 := (Array.getElem?_eq_some_iff.1 G1.out).1)
    all_goals go_ret
    all_goals refine ⟨ret_bool ?_, HB1.out.alloc HB1.out.size _⟩
    all_goals simp [*]
end Go.Proofs.YtkhckgknldiheaaDoor
