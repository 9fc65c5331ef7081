/- RecordOrder of layer 2, walked; no condition beyond those that each theorem names. -/
import Derived.Test.YtmnbcjchfbfngaaDoorMH
import Derived.Test.YtmnbcjchfbfngaaDoorVR
namespace Go.Proofs.YtmnbcjchfbfngaaDoor
set_option linter.unusedSimpArgs false
set_option linter.unusedVariables false
open Go.RowKit
open NmP

/-- The boxes of three sets. -/
structure OBx (w : World) (s t u : St) (W : World) : Prop where
  bel : Below w.heap.size w W
  a : W.heap[w.heap.size]? = some (Obj.cells #[.string s.x, .int .i64 s.typ, .int .i64 s.life, s.v] 24 (0, 0))
  b : W.heap[w.heap.size + 1]? = some (Obj.cells #[.string t.x, .int .i64 t.typ, .int .i64 t.life, t.v] 24 (0, 0))
  c : W.heap[w.heap.size + 1 + 1]? = some (Obj.cells #[.string u.x, .int .i64 u.typ, .int .i64 u.life, u.v] 24 (0, 0))
theorem obx (w : World) (s t u : St) : OBx w s t u (((w.alloc (.cells #[.string s.x, .int .i64 s.typ, .int .i64 s.life, s.v] 24)).alloc (.cells #[.string t.x, .int .i64 t.typ, .int .i64 t.life, t.v] 24)).alloc (.cells #[.string u.x, .int .i64 u.typ, .int .i64 u.life, u.v] 24)) := by
  refine ⟨((bnew w _).alloc (by simp) _).alloc (by simp; omega) _, ?_, ?_, ?_⟩
  · rw [heap_alloc_old _ _ (by simp; omega), heap_alloc_old _ _ (by simp)]
    exact heap_alloc_new w _
  · rw [heap_alloc_old _ _ (by simp)]
    have := heap_alloc_new (w.alloc (.cells #[.string s.x, .int .i64 s.typ, .int .i64 s.life, s.v] 24)) (.cells #[.string t.x, .int .i64 t.typ, .int .i64 t.life, t.v] 24)
    rw [World.size_alloc] at this
    exact this
  · have := heap_alloc_new ((w.alloc (.cells #[.string s.x, .int .i64 s.typ, .int .i64 s.life, s.v] 24)).alloc (.cells #[.string t.x, .int .i64 t.typ, .int .i64 t.life, t.v] 24)) (.cells #[.string u.x, .int .i64 u.typ, .int .i64 u.life, u.v] 24)
    rw [World.size_alloc, World.size_alloc] at this
    exact this
theorem OBx.keep {w : World} {s t u : St} {W W' : World} (h : OBx w s t u W) (hb : Below W.heap.size W W') : OBx w s t u W' :=
  ⟨h.bel.trans (hb.mono h.bel.size), (hb.block _ (Array.getElem?_eq_some_iff.1 h.a).1).trans h.a, (hb.block _ (Array.getElem?_eq_some_iff.1 h.b).1).trans h.b, (hb.block _ (Array.getElem?_eq_some_iff.1 h.c).1).trans h.c⟩

set_option maxHeartbeats 4000000 in
set_option maxRecDepth 100000 in
theorem ro_no0 (s t u : St) (w : World)
    (hs : s.In w) (ht : t.In w) (hu : u.In w) (ns : s.l.length ≤ maxLen) (nt : t.l.length ≤ maxLen) (nu : u.l.length ≤ maxLen) (hr : RulesAt w) (o0 : s.ok = false) :
    Calls Tryd.prog 5 #[.agg #[.string s.x, .int .i64 s.typ, .int .i64 s.life, s.v], .agg #[.string t.x, .int .i64 t.typ, .int .i64 t.life, t.v], .agg #[.string u.x, .int .i64 u.typ, .int .i64 u.life, u.v]] w fun e w' => e = .returned (.bool true) ∧ Below w.heap.size w w' := by
  have V0 := Lib.hid (fun W (hb : Below w.heap.size w W) => rvset_any s.x s.typ s.life s.v s.l W hs.hx ns hs.hs (hs.hA.keep hb))
  rw [show setB s.x.toList s.typ s.life s.l = false from o0] at V0
  unfold ToB at V0
  have HD := Lib.hid (fun W (hb : Below w.heap.size w W) => head_any W (hr.keep hb))
  have HB := Lib.hid (obx w s t u)
  clear hs ht hu ns nt nu hr o0
  obtain ⟨x, tx, lx, vx, dx⟩ := s
  obtain ⟨y, ty, ly, vy, dy⟩ := t
  obtain ⟨z, tz, lz, vz, dz⟩ := u
  dsimp only at *
  have b0 := trivial
  have b1 := trivial
  have b2 := trivial
  have b3 := trivial
  have a0 := trivial
  have a1 := trivial
  have a2 := trivial
  have a3 := trivial
  have c0 := trivial
  have c1 := trivial
  have c2 := trivial
  have c3 := trivial
  go_enter Tryd.func5, Tryd.ntmps5
  go_wp2_with (go_at_call 7; fail)
  refine (HD.out _ HB.out.bel).mono ?_
  rintro e w1 ⟨rfl, hb⟩
  replace HB := Lib.hid (HB.out.keep hb)
  clear hb a0 a1 a2 a3 b0 b1 b2 b3 c0 c1 c2 c3
  have a0 := cell_of_blk HB.out.a 0 (.string x) rfl
  have a1 := cell_of_blk HB.out.a 1 (.int .i64 tx) rfl
  have a2 := cell_of_blk HB.out.a 2 (.int .i64 lx) rfl
  have a3 := cell_of_blk HB.out.a 3 vx rfl
  have b0 := cell_of_blk HB.out.b 0 (.string y) rfl
  have b1 := cell_of_blk HB.out.b 1 (.int .i64 ty) rfl
  have b2 := cell_of_blk HB.out.b 2 (.int .i64 ly) rfl
  have b3 := cell_of_blk HB.out.b 3 vy rfl
  have c0 := cell_of_blk HB.out.c 0 (.string z) rfl
  have c1 := cell_of_blk HB.out.c 1 (.int .i64 tz) rfl
  have c2 := cell_of_blk HB.out.c 2 (.int .i64 lz) rfl
  have c3 := cell_of_blk HB.out.c 3 vz rfl
  go_wp2_with (go_at_call 14; fail)
  refine (V0.out _ HB.out.bel).mono ?_
  rintro e v0 ⟨rfl, hb⟩
  replace HB := Lib.hid (HB.out.keep hb)
  clear hb a0 a1 a2 a3 b0 b1 b2 b3 c0 c1 c2 c3
  have a0 := cell_of_blk HB.out.a 0 (.string x) rfl
  have a1 := cell_of_blk HB.out.a 1 (.int .i64 tx) rfl
  have a2 := cell_of_blk HB.out.a 2 (.int .i64 lx) rfl
  have a3 := cell_of_blk HB.out.a 3 vx rfl
  have b0 := cell_of_blk HB.out.b 0 (.string y) rfl
  have b1 := cell_of_blk HB.out.b 1 (.int .i64 ty) rfl
  have b2 := cell_of_blk HB.out.b 2 (.int .i64 ly) rfl
  have b3 := cell_of_blk HB.out.b 3 vy rfl
  have c0 := cell_of_blk HB.out.c 0 (.string z) rfl
  have c1 := cell_of_blk HB.out.c 1 (.int .i64 tz) rfl
  have c2 := cell_of_blk HB.out.c 2 (.int .i64 lz) rfl
  have c3 := cell_of_blk HB.out.c 3 vz rfl
  go_wp2
  go_ret
  exact ⟨rfl, HB.out.bel⟩
set_option maxHeartbeats 4000000 in
set_option maxRecDepth 100000 in
theorem ro_no1 (s t u : St) (w : World)
    (hs : s.In w) (ht : t.In w) (hu : u.In w) (ns : s.l.length ≤ maxLen) (nt : t.l.length ≤ maxLen) (nu : u.l.length ≤ maxLen) (hr : RulesAt w) (o0 : s.ok = true) (o1 : t.ok = false) :
    Calls Tryd.prog 5 #[.agg #[.string s.x, .int .i64 s.typ, .int .i64 s.life, s.v], .agg #[.string t.x, .int .i64 t.typ, .int .i64 t.life, t.v], .agg #[.string u.x, .int .i64 u.typ, .int .i64 u.life, u.v]] w fun e w' => e = .returned (.bool true) ∧ Below w.heap.size w w' := by
  have V0 := Lib.hid (fun W (hb : Below w.heap.size w W) => rvset_any s.x s.typ s.life s.v s.l W hs.hx ns hs.hs (hs.hA.keep hb))
  rw [show setB s.x.toList s.typ s.life s.l = true from o0] at V0
  unfold ToB at V0
  have V1 := Lib.hid (fun W (hb : Below w.heap.size w W) => rvset_any t.x t.typ t.life t.v t.l W ht.hx nt ht.hs (ht.hA.keep hb))
  rw [show setB t.x.toList t.typ t.life t.l = false from o1] at V1
  unfold ToB at V1
  have HD := Lib.hid (fun W (hb : Below w.heap.size w W) => head_any W (hr.keep hb))
  have HB := Lib.hid (obx w s t u)
  clear hs ht hu ns nt nu hr o0 o1
  obtain ⟨x, tx, lx, vx, dx⟩ := s
  obtain ⟨y, ty, ly, vy, dy⟩ := t
  obtain ⟨z, tz, lz, vz, dz⟩ := u
  dsimp only at *
  have b0 := trivial
  have b1 := trivial
  have b2 := trivial
  have b3 := trivial
  have a0 := trivial
  have a1 := trivial
  have a2 := trivial
  have a3 := trivial
  have c0 := trivial
  have c1 := trivial
  have c2 := trivial
  have c3 := trivial
  go_enter Tryd.func5, Tryd.ntmps5
  go_wp2_with (go_at_call 7; fail)
  refine (HD.out _ HB.out.bel).mono ?_
  rintro e w1 ⟨rfl, hb⟩
  replace HB := Lib.hid (HB.out.keep hb)
  clear hb a0 a1 a2 a3 b0 b1 b2 b3 c0 c1 c2 c3
  have a0 := cell_of_blk HB.out.a 0 (.string x) rfl
  have a1 := cell_of_blk HB.out.a 1 (.int .i64 tx) rfl
  have a2 := cell_of_blk HB.out.a 2 (.int .i64 lx) rfl
  have a3 := cell_of_blk HB.out.a 3 vx rfl
  have b0 := cell_of_blk HB.out.b 0 (.string y) rfl
  have b1 := cell_of_blk HB.out.b 1 (.int .i64 ty) rfl
  have b2 := cell_of_blk HB.out.b 2 (.int .i64 ly) rfl
  have b3 := cell_of_blk HB.out.b 3 vy rfl
  have c0 := cell_of_blk HB.out.c 0 (.string z) rfl
  have c1 := cell_of_blk HB.out.c 1 (.int .i64 tz) rfl
  have c2 := cell_of_blk HB.out.c 2 (.int .i64 lz) rfl
  have c3 := cell_of_blk HB.out.c 3 vz rfl
  go_wp2_with (go_at_call 14; fail)
  refine (V0.out _ HB.out.bel).mono ?_
  rintro e v0 ⟨rfl, hb⟩
  replace HB := Lib.hid (HB.out.keep hb)
  clear hb a0 a1 a2 a3 b0 b1 b2 b3 c0 c1 c2 c3
  have a0 := cell_of_blk HB.out.a 0 (.string x) rfl
  have a1 := cell_of_blk HB.out.a 1 (.int .i64 tx) rfl
  have a2 := cell_of_blk HB.out.a 2 (.int .i64 lx) rfl
  have a3 := cell_of_blk HB.out.a 3 vx rfl
  have b0 := cell_of_blk HB.out.b 0 (.string y) rfl
  have b1 := cell_of_blk HB.out.b 1 (.int .i64 ty) rfl
  have b2 := cell_of_blk HB.out.b 2 (.int .i64 ly) rfl
  have b3 := cell_of_blk HB.out.b 3 vy rfl
  have c0 := cell_of_blk HB.out.c 0 (.string z) rfl
  have c1 := cell_of_blk HB.out.c 1 (.int .i64 tz) rfl
  have c2 := cell_of_blk HB.out.c 2 (.int .i64 lz) rfl
  have c3 := cell_of_blk HB.out.c 3 vz rfl
  go_wp2_with (go_at_call 14; fail)
  refine (V1.out _ HB.out.bel).mono ?_
  rintro e v1 ⟨rfl, hb⟩
  replace HB := Lib.hid (HB.out.keep hb)
  clear hb a0 a1 a2 a3 b0 b1 b2 b3 c0 c1 c2 c3
  have a0 := cell_of_blk HB.out.a 0 (.string x) rfl
  have a1 := cell_of_blk HB.out.a 1 (.int .i64 tx) rfl
  have a2 := cell_of_blk HB.out.a 2 (.int .i64 lx) rfl
  have a3 := cell_of_blk HB.out.a 3 vx rfl
  have b0 := cell_of_blk HB.out.b 0 (.string y) rfl
  have b1 := cell_of_blk HB.out.b 1 (.int .i64 ty) rfl
  have b2 := cell_of_blk HB.out.b 2 (.int .i64 ly) rfl
  have b3 := cell_of_blk HB.out.b 3 vy rfl
  have c0 := cell_of_blk HB.out.c 0 (.string z) rfl
  have c1 := cell_of_blk HB.out.c 1 (.int .i64 tz) rfl
  have c2 := cell_of_blk HB.out.c 2 (.int .i64 lz) rfl
  have c3 := cell_of_blk HB.out.c 3 vz rfl
  go_wp2
  go_ret
  exact ⟨rfl, HB.out.bel⟩
set_option maxHeartbeats 4000000 in
set_option maxRecDepth 100000 in
theorem ro_no2 (s t u : St) (w : World)
    (hs : s.In w) (ht : t.In w) (hu : u.In w) (ns : s.l.length ≤ maxLen) (nt : t.l.length ≤ maxLen) (nu : u.l.length ≤ maxLen) (hr : RulesAt w) (o0 : s.ok = true) (o1 : t.ok = true) (o2 : u.ok = false) :
    Calls Tryd.prog 5 #[.agg #[.string s.x, .int .i64 s.typ, .int .i64 s.life, s.v], .agg #[.string t.x, .int .i64 t.typ, .int .i64 t.life, t.v], .agg #[.string u.x, .int .i64 u.typ, .int .i64 u.life, u.v]] w fun e w' => e = .returned (.bool true) ∧ Below w.heap.size w w' := by
  have V0 := Lib.hid (fun W (hb : Below w.heap.size w W) => rvset_any s.x s.typ s.life s.v s.l W hs.hx ns hs.hs (hs.hA.keep hb))
  rw [show setB s.x.toList s.typ s.life s.l = true from o0] at V0
  unfold ToB at V0
  have V1 := Lib.hid (fun W (hb : Below w.heap.size w W) => rvset_any t.x t.typ t.life t.v t.l W ht.hx nt ht.hs (ht.hA.keep hb))
  rw [show setB t.x.toList t.typ t.life t.l = true from o1] at V1
  unfold ToB at V1
  have V2 := Lib.hid (fun W (hb : Below w.heap.size w W) => rvset_any u.x u.typ u.life u.v u.l W hu.hx nu hu.hs (hu.hA.keep hb))
  rw [show setB u.x.toList u.typ u.life u.l = false from o2] at V2
  unfold ToB at V2
  have HD := Lib.hid (fun W (hb : Below w.heap.size w W) => head_any W (hr.keep hb))
  have HB := Lib.hid (obx w s t u)
  clear hs ht hu ns nt nu hr o0 o1 o2
  obtain ⟨x, tx, lx, vx, dx⟩ := s
  obtain ⟨y, ty, ly, vy, dy⟩ := t
  obtain ⟨z, tz, lz, vz, dz⟩ := u
  dsimp only at *
  have b0 := trivial
  have b1 := trivial
  have b2 := trivial
  have b3 := trivial
  have a0 := trivial
  have a1 := trivial
  have a2 := trivial
  have a3 := trivial
  have c0 := trivial
  have c1 := trivial
  have c2 := trivial
  have c3 := trivial
  go_enter Tryd.func5, Tryd.ntmps5
  go_wp2_with (go_at_call 7; fail)
  refine (HD.out _ HB.out.bel).mono ?_
  rintro e w1 ⟨rfl, hb⟩
  replace HB := Lib.hid (HB.out.keep hb)
  clear hb a0 a1 a2 a3 b0 b1 b2 b3 c0 c1 c2 c3
  have a0 := cell_of_blk HB.out.a 0 (.string x) rfl
  have a1 := cell_of_blk HB.out.a 1 (.int .i64 tx) rfl
  have a2 := cell_of_blk HB.out.a 2 (.int .i64 lx) rfl
  have a3 := cell_of_blk HB.out.a 3 vx rfl
  have b0 := cell_of_blk HB.out.b 0 (.string y) rfl
  have b1 := cell_of_blk HB.out.b 1 (.int .i64 ty) rfl
  have b2 := cell_of_blk HB.out.b 2 (.int .i64 ly) rfl
  have b3 := cell_of_blk HB.out.b 3 vy rfl
  have c0 := cell_of_blk HB.out.c 0 (.string z) rfl
  have c1 := cell_of_blk HB.out.c 1 (.int .i64 tz) rfl
  have c2 := cell_of_blk HB.out.c 2 (.int .i64 lz) rfl
  have c3 := cell_of_blk HB.out.c 3 vz rfl
  go_wp2_with (go_at_call 14; fail)
  refine (V0.out _ HB.out.bel).mono ?_
  rintro e v0 ⟨rfl, hb⟩
  replace HB := Lib.hid (HB.out.keep hb)
  clear hb a0 a1 a2 a3 b0 b1 b2 b3 c0 c1 c2 c3
  have a0 := cell_of_blk HB.out.a 0 (.string x) rfl
  have a1 := cell_of_blk HB.out.a 1 (.int .i64 tx) rfl
  have a2 := cell_of_blk HB.out.a 2 (.int .i64 lx) rfl
  have a3 := cell_of_blk HB.out.a 3 vx rfl
  have b0 := cell_of_blk HB.out.b 0 (.string y) rfl
  have b1 := cell_of_blk HB.out.b 1 (.int .i64 ty) rfl
  have b2 := cell_of_blk HB.out.b 2 (.int .i64 ly) rfl
  have b3 := cell_of_blk HB.out.b 3 vy rfl
  have c0 := cell_of_blk HB.out.c 0 (.string z) rfl
  have c1 := cell_of_blk HB.out.c 1 (.int .i64 tz) rfl
  have c2 := cell_of_blk HB.out.c 2 (.int .i64 lz) rfl
  have c3 := cell_of_blk HB.out.c 3 vz rfl
  go_wp2_with (go_at_call 14; fail)
  refine (V1.out _ HB.out.bel).mono ?_
  rintro e v1 ⟨rfl, hb⟩
  replace HB := Lib.hid (HB.out.keep hb)
  clear hb a0 a1 a2 a3 b0 b1 b2 b3 c0 c1 c2 c3
  have a0 := cell_of_blk HB.out.a 0 (.string x) rfl
  have a1 := cell_of_blk HB.out.a 1 (.int .i64 tx) rfl
  have a2 := cell_of_blk HB.out.a 2 (.int .i64 lx) rfl
  have a3 := cell_of_blk HB.out.a 3 vx rfl
  have b0 := cell_of_blk HB.out.b 0 (.string y) rfl
  have b1 := cell_of_blk HB.out.b 1 (.int .i64 ty) rfl
  have b2 := cell_of_blk HB.out.b 2 (.int .i64 ly) rfl
  have b3 := cell_of_blk HB.out.b 3 vy rfl
  have c0 := cell_of_blk HB.out.c 0 (.string z) rfl
  have c1 := cell_of_blk HB.out.c 1 (.int .i64 tz) rfl
  have c2 := cell_of_blk HB.out.c 2 (.int .i64 lz) rfl
  have c3 := cell_of_blk HB.out.c 3 vz rfl
  go_wp2_with (go_at_call 14; fail)
  refine (V2.out _ HB.out.bel).mono ?_
  rintro e v2 ⟨rfl, hb⟩
  replace HB := Lib.hid (HB.out.keep hb)
  clear hb a0 a1 a2 a3 b0 b1 b2 b3 c0 c1 c2 c3
  have a0 := cell_of_blk HB.out.a 0 (.string x) rfl
  have a1 := cell_of_blk HB.out.a 1 (.int .i64 tx) rfl
  have a2 := cell_of_blk HB.out.a 2 (.int .i64 lx) rfl
  have a3 := cell_of_blk HB.out.a 3 vx rfl
  have b0 := cell_of_blk HB.out.b 0 (.string y) rfl
  have b1 := cell_of_blk HB.out.b 1 (.int .i64 ty) rfl
  have b2 := cell_of_blk HB.out.b 2 (.int .i64 ly) rfl
  have b3 := cell_of_blk HB.out.b 3 vy rfl
  have c0 := cell_of_blk HB.out.c 0 (.string z) rfl
  have c1 := cell_of_blk HB.out.c 1 (.int .i64 tz) rfl
  have c2 := cell_of_blk HB.out.c 2 (.int .i64 lz) rfl
  have c3 := cell_of_blk HB.out.c 3 vz rfl
  go_wp2
  go_ret
  exact ⟨rfl, HB.out.bel⟩
set_option maxHeartbeats 4000000 in
set_option maxRecDepth 100000 in
theorem ro_yes (s t u : St) (w : World)
    (hs : s.In w) (ht : t.In w) (hu : u.In w) (ns : s.l.length ≤ maxLen) (nt : t.l.length ≤ maxLen) (nu : u.l.length ≤ maxLen) (hr : RulesAt w) (o0 : s.ok = true) (o1 : t.ok = true) (o2 : u.ok = true) :
    Calls Tryd.prog 5 #[.agg #[.string s.x, .int .i64 s.typ, .int .i64 s.life, s.v], .agg #[.string t.x, .int .i64 t.typ, .int .i64 t.life, t.v], .agg #[.string u.x, .int .i64 u.typ, .int .i64 u.life, u.v]] w fun e w' => e = .returned (.bool true) ∧ Below w.heap.size w w' := by
  have V0 := Lib.hid (fun W (hb : Below w.heap.size w W) => rvset_any s.x s.typ s.life s.v s.l W hs.hx ns hs.hs (hs.hA.keep hb))
  rw [show setB s.x.toList s.typ s.life s.l = true from o0] at V0
  unfold ToB at V0
  have V1 := Lib.hid (fun W (hb : Below w.heap.size w W) => rvset_any t.x t.typ t.life t.v t.l W ht.hx nt ht.hs (ht.hA.keep hb))
  rw [show setB t.x.toList t.typ t.life t.l = true from o1] at V1
  unfold ToB at V1
  have V2 := Lib.hid (fun W (hb : Below w.heap.size w W) => rvset_any u.x u.typ u.life u.v u.l W hu.hx nu hu.hs (hu.hA.keep hb))
  rw [show setB u.x.toList u.typ u.life u.l = true from o2] at V2
  unfold ToB at V2
  have C0 := Lib.hid (fun W (hb : Below w.heap.size w W) => compare_any s t W (hs.keep hb) (ht.keep hb) (hr.keep hb) o0 o1)
  have C1 := Lib.hid (fun W (hb : Below w.heap.size w W) => compare_any t s W (ht.keep hb) (hs.keep hb) (hr.keep hb) o1 o0)
  have C2 := Lib.hid (fun W (hb : Below w.heap.size w W) => compare_any t u W (ht.keep hb) (hu.keep hb) (hr.keep hb) o1 o2)
  have C3 := Lib.hid (fun W (hb : Below w.heap.size w W) => compare_any s u W (hs.keep hb) (hu.keep hb) (hr.keep hb) o0 o2)
  have R1 := ordB_range s.x.toList t.x.toList s.typ t.typ
  have Z1 := ordB_zero s.x.toList t.x.toList s.typ t.typ
  have T1 := ordB_trans s.x.toList t.x.toList u.x.toList s.typ t.typ u.typ
  rw [ordB_anti s.x.toList t.x.toList s.typ t.typ] at C1
  generalize ordB s.x.toList t.x.toList s.typ t.typ = i at *
  generalize ordB t.x.toList u.x.toList t.typ u.typ = k at *
  generalize ordB s.x.toList u.x.toList s.typ u.typ = m at *
  obtain ⟨j, hj⟩ : ∃ j : Int, -i = j := ⟨_, rfl⟩
  rw [hj] at C1
  have HJ := Lib.hid hj
  have HR1 := Lib.hid R1
  have HZ1 := Lib.hid Z1
  have HT1 := Lib.hid T1
  have r1 : ¬ i < -1 := by omega
  have r2 : ¬ 1 < i := by omega
  clear hj R1 Z1 T1
  have HD := Lib.hid (fun W (hb : Below w.heap.size w W) => head_any W (hr.keep hb))
  have HB := Lib.hid (obx w s t u)
  clear hs ht hu ns nt nu hr o0 o1 o2
  obtain ⟨x, tx, lx, vx, dx⟩ := s
  obtain ⟨y, ty, ly, vy, dy⟩ := t
  obtain ⟨z, tz, lz, vz, dz⟩ := u
  dsimp only at *
  have b0 := trivial
  have b1 := trivial
  have b2 := trivial
  have b3 := trivial
  have a0 := trivial
  have a1 := trivial
  have a2 := trivial
  have a3 := trivial
  have c0 := trivial
  have c1 := trivial
  have c2 := trivial
  have c3 := trivial
  go_enter Tryd.func5, Tryd.ntmps5
  go_wp2_with (go_at_call 7; fail)
  refine (HD.out _ HB.out.bel).mono ?_
  rintro e w1 ⟨rfl, hb⟩
  replace HB := Lib.hid (HB.out.keep hb)
  clear hb a0 a1 a2 a3 b0 b1 b2 b3 c0 c1 c2 c3
  have a0 := cell_of_blk HB.out.a 0 (.string x) rfl
  have a1 := cell_of_blk HB.out.a 1 (.int .i64 tx) rfl
  have a2 := cell_of_blk HB.out.a 2 (.int .i64 lx) rfl
  have a3 := cell_of_blk HB.out.a 3 vx rfl
  have b0 := cell_of_blk HB.out.b 0 (.string y) rfl
  have b1 := cell_of_blk HB.out.b 1 (.int .i64 ty) rfl
  have b2 := cell_of_blk HB.out.b 2 (.int .i64 ly) rfl
  have b3 := cell_of_blk HB.out.b 3 vy rfl
  have c0 := cell_of_blk HB.out.c 0 (.string z) rfl
  have c1 := cell_of_blk HB.out.c 1 (.int .i64 tz) rfl
  have c2 := cell_of_blk HB.out.c 2 (.int .i64 lz) rfl
  have c3 := cell_of_blk HB.out.c 3 vz rfl
  go_wp2_with (go_at_call 14; fail)
  refine (V0.out _ HB.out.bel).mono ?_
  rintro e v0 ⟨rfl, hb⟩
  replace HB := Lib.hid (HB.out.keep hb)
  clear hb a0 a1 a2 a3 b0 b1 b2 b3 c0 c1 c2 c3
  have a0 := cell_of_blk HB.out.a 0 (.string x) rfl
  have a1 := cell_of_blk HB.out.a 1 (.int .i64 tx) rfl
  have a2 := cell_of_blk HB.out.a 2 (.int .i64 lx) rfl
  have a3 := cell_of_blk HB.out.a 3 vx rfl
  have b0 := cell_of_blk HB.out.b 0 (.string y) rfl
  have b1 := cell_of_blk HB.out.b 1 (.int .i64 ty) rfl
  have b2 := cell_of_blk HB.out.b 2 (.int .i64 ly) rfl
  have b3 := cell_of_blk HB.out.b 3 vy rfl
  have c0 := cell_of_blk HB.out.c 0 (.string z) rfl
  have c1 := cell_of_blk HB.out.c 1 (.int .i64 tz) rfl
  have c2 := cell_of_blk HB.out.c 2 (.int .i64 lz) rfl
  have c3 := cell_of_blk HB.out.c 3 vz rfl
  go_wp2_with (go_at_call 14; fail)
  refine (V1.out _ HB.out.bel).mono ?_
  rintro e v1 ⟨rfl, hb⟩
  replace HB := Lib.hid (HB.out.keep hb)
  clear hb a0 a1 a2 a3 b0 b1 b2 b3 c0 c1 c2 c3
  have a0 := cell_of_blk HB.out.a 0 (.string x) rfl
  have a1 := cell_of_blk HB.out.a 1 (.int .i64 tx) rfl
  have a2 := cell_of_blk HB.out.a 2 (.int .i64 lx) rfl
  have a3 := cell_of_blk HB.out.a 3 vx rfl
  have b0 := cell_of_blk HB.out.b 0 (.string y) rfl
  have b1 := cell_of_blk HB.out.b 1 (.int .i64 ty) rfl
  have b2 := cell_of_blk HB.out.b 2 (.int .i64 ly) rfl
  have b3 := cell_of_blk HB.out.b 3 vy rfl
  have c0 := cell_of_blk HB.out.c 0 (.string z) rfl
  have c1 := cell_of_blk HB.out.c 1 (.int .i64 tz) rfl
  have c2 := cell_of_blk HB.out.c 2 (.int .i64 lz) rfl
  have c3 := cell_of_blk HB.out.c 3 vz rfl
  go_wp2_with (go_at_call 14; fail)
  refine (V2.out _ HB.out.bel).mono ?_
  rintro e v2 ⟨rfl, hb⟩
  replace HB := Lib.hid (HB.out.keep hb)
  clear hb a0 a1 a2 a3 b0 b1 b2 b3 c0 c1 c2 c3
  have a0 := cell_of_blk HB.out.a 0 (.string x) rfl
  have a1 := cell_of_blk HB.out.a 1 (.int .i64 tx) rfl
  have a2 := cell_of_blk HB.out.a 2 (.int .i64 lx) rfl
  have a3 := cell_of_blk HB.out.a 3 vx rfl
  have b0 := cell_of_blk HB.out.b 0 (.string y) rfl
  have b1 := cell_of_blk HB.out.b 1 (.int .i64 ty) rfl
  have b2 := cell_of_blk HB.out.b 2 (.int .i64 ly) rfl
  have b3 := cell_of_blk HB.out.b 3 vy rfl
  have c0 := cell_of_blk HB.out.c 0 (.string z) rfl
  have c1 := cell_of_blk HB.out.c 1 (.int .i64 tz) rfl
  have c2 := cell_of_blk HB.out.c 2 (.int .i64 lz) rfl
  have c3 := cell_of_blk HB.out.c 3 vz rfl
  go_wp2_with (go_at_call 9; fail)
  refine (C0.out _ HB.out.bel).mono ?_
  rintro e u0 ⟨rfl, hb⟩
  replace HB := Lib.hid (HB.out.keep hb)
  clear hb a0 a1 a2 a3 b0 b1 b2 b3 c0 c1 c2 c3
  have a0 := cell_of_blk HB.out.a 0 (.string x) rfl
  have a1 := cell_of_blk HB.out.a 1 (.int .i64 tx) rfl
  have a2 := cell_of_blk HB.out.a 2 (.int .i64 lx) rfl
  have a3 := cell_of_blk HB.out.a 3 vx rfl
  have b0 := cell_of_blk HB.out.b 0 (.string y) rfl
  have b1 := cell_of_blk HB.out.b 1 (.int .i64 ty) rfl
  have b2 := cell_of_blk HB.out.b 2 (.int .i64 ly) rfl
  have b3 := cell_of_blk HB.out.b 3 vy rfl
  have c0 := cell_of_blk HB.out.c 0 (.string z) rfl
  have c1 := cell_of_blk HB.out.c 1 (.int .i64 tz) rfl
  have c2 := cell_of_blk HB.out.c 2 (.int .i64 lz) rfl
  have c3 := cell_of_blk HB.out.c 3 vz rfl
  go_wp2_with (go_at_call 9; fail)
  refine (C1.out _ HB.out.bel).mono ?_
  rintro e u1 ⟨rfl, hb⟩
  replace HB := Lib.hid (HB.out.keep hb)
  clear hb a0 a1 a2 a3 b0 b1 b2 b3 c0 c1 c2 c3
  have a0 := cell_of_blk HB.out.a 0 (.string x) rfl
  have a1 := cell_of_blk HB.out.a 1 (.int .i64 tx) rfl
  have a2 := cell_of_blk HB.out.a 2 (.int .i64 lx) rfl
  have a3 := cell_of_blk HB.out.a 3 vx rfl
  have b0 := cell_of_blk HB.out.b 0 (.string y) rfl
  have b1 := cell_of_blk HB.out.b 1 (.int .i64 ty) rfl
  have b2 := cell_of_blk HB.out.b 2 (.int .i64 ly) rfl
  have b3 := cell_of_blk HB.out.b 3 vy rfl
  have c0 := cell_of_blk HB.out.c 0 (.string z) rfl
  have c1 := cell_of_blk HB.out.c 1 (.int .i64 tz) rfl
  have c2 := cell_of_blk HB.out.c 2 (.int .i64 lz) rfl
  have c3 := cell_of_blk HB.out.c 3 vz rfl
  go_wp2_with (go_at_call 9; fail)
  refine (C2.out _ HB.out.bel).mono ?_
  rintro e u2 ⟨rfl, hb⟩
  replace HB := Lib.hid (HB.out.keep hb)
  clear hb a0 a1 a2 a3 b0 b1 b2 b3 c0 c1 c2 c3
  have a0 := cell_of_blk HB.out.a 0 (.string x) rfl
  have a1 := cell_of_blk HB.out.a 1 (.int .i64 tx) rfl
  have a2 := cell_of_blk HB.out.a 2 (.int .i64 lx) rfl
  have a3 := cell_of_blk HB.out.a 3 vx rfl
  have b0 := cell_of_blk HB.out.b 0 (.string y) rfl
  have b1 := cell_of_blk HB.out.b 1 (.int .i64 ty) rfl
  have b2 := cell_of_blk HB.out.b 2 (.int .i64 ly) rfl
  have b3 := cell_of_blk HB.out.b 3 vy rfl
  have c0 := cell_of_blk HB.out.c 0 (.string z) rfl
  have c1 := cell_of_blk HB.out.c 1 (.int .i64 tz) rfl
  have c2 := cell_of_blk HB.out.c 2 (.int .i64 lz) rfl
  have c3 := cell_of_blk HB.out.c 3 vz rfl
  go_wp2_with (go_at_call 9; fail)
  refine (C3.out _ HB.out.bel).mono ?_
  rintro e u3 ⟨rfl, hb⟩
  replace HB := Lib.hid (HB.out.keep hb)
  clear hb a0 a1 a2 a3 b0 b1 b2 b3 c0 c1 c2 c3
  have a0 := cell_of_blk HB.out.a 0 (.string x) rfl
  have a1 := cell_of_blk HB.out.a 1 (.int .i64 tx) rfl
  have a2 := cell_of_blk HB.out.a 2 (.int .i64 lx) rfl
  have a3 := cell_of_blk HB.out.a 3 vx rfl
  have b0 := cell_of_blk HB.out.b 0 (.string y) rfl
  have b1 := cell_of_blk HB.out.b 1 (.int .i64 ty) rfl
  have b2 := cell_of_blk HB.out.b 2 (.int .i64 ly) rfl
  have b3 := cell_of_blk HB.out.b 3 vy rfl
  have c0 := cell_of_blk HB.out.c 0 (.string z) rfl
  have c1 := cell_of_blk HB.out.c 1 (.int .i64 tz) rfl
  have c2 := cell_of_blk HB.out.c 2 (.int .i64 lz) rfl
  have c3 := cell_of_blk HB.out.c 3 vz rfl
  go_upto_region 10 with fail
  have hi : i = -1 ∨ i = 0 ∨ i = 1 := by have := HR1.out; omega
  have NE : i ≠ 0 → ((x.toList == y.toList) = false ∨ ((x.toList == y.toList) = true ∧ (tx == ty) = false)) := fun hi0 => by
    by_cases q : x.toList = y.toList
    · right
      refine ⟨by rw [q]; simp, beq_eq_false_iff_ne.2 fun q2 => hi0 (HZ1.out.2 ⟨q, q2⟩)⟩
    · exact .inl (beq_eq_false_iff_ne.2 q)
  have KM : i ≤ 0 → 0 < k ∨ (¬ 0 < k ∧ m ≤ 0) := fun hi0 => by
    by_cases q : 0 < k
    · exact .inl q
    · exact .inr ⟨q, HT1.out hi0 (by omega)⟩
  rcases hi with rfl | rfl | rfl
  · obtain rfl : (1 : Int) = j := HJ.out
    rcases NE (by decide) with z0 | ⟨z0, z1⟩
    · rcases KM (by decide) with q | ⟨q, q2⟩
      · clear NE KM
        go_wp2
        go_ret
        exact ⟨rfl, HB.out.bel⟩
      · clear NE KM
        go_wp2
        go_ret
        exact ⟨rfl, HB.out.bel⟩
    · rcases KM (by decide) with q | ⟨q, q2⟩
      · clear NE KM
        go_wp2
        go_ret
        exact ⟨rfl, HB.out.bel⟩
      · clear NE KM
        go_wp2
        go_ret
        exact ⟨rfl, HB.out.bel⟩
  · obtain rfl : (0 : Int) = j := HJ.out
    obtain ⟨q0, rfl⟩ := HZ1.out.1 rfl
    obtain rfl := ba_eq q0
    rcases KM (by decide) with q | ⟨q, q2⟩
    · clear NE KM q0
      go_wp2
      go_ret
      exact ⟨rfl, HB.out.bel⟩
    · clear NE KM q0
      go_wp2
      go_ret
      exact ⟨rfl, HB.out.bel⟩
  · obtain rfl : (-1 : Int) = j := HJ.out
    rcases NE (by decide) with z0 | ⟨z0, z1⟩
    · clear NE KM
      go_wp2
      go_ret
      exact ⟨rfl, HB.out.bel⟩
    · clear NE KM
      go_wp2
      go_ret
      exact ⟨rfl, HB.out.bel⟩

theorem order_law (s t u : St) (w : World)
    (hs : s.In w) (ht : t.In w) (hu : u.In w) (ns : s.l.length ≤ maxLen) (nt : t.l.length ≤ maxLen) (nu : u.l.length ≤ maxLen) (hr : RulesAt w) :
    Calls Tryd.prog 5 #[.agg #[.string s.x, .int .i64 s.typ, .int .i64 s.life, s.v], .agg #[.string t.x, .int .i64 t.typ, .int .i64 t.life, t.v], .agg #[.string u.x, .int .i64 u.typ, .int .i64 u.life, u.v]] w fun e w' => e = .returned (.bool true) ∧ Below w.heap.size w w' := by
  by_cases o0 : s.ok = true
  · by_cases o1 : t.ok = true
    · by_cases o2 : u.ok = true
      · exact ro_yes s t u w hs ht hu ns nt nu hr o0 o1 o2
      · exact ro_no2 s t u w hs ht hu ns nt nu hr o0 o1 (by simpa using o2)
    · exact ro_no1 s t u w hs ht hu ns nt nu hr o0 (by simpa using o1)
  · exact ro_no0 s t u w hs ht hu ns nt nu hr (by simpa using o0)

end Go.Proofs.YtmnbcjchfbfngaaDoor
