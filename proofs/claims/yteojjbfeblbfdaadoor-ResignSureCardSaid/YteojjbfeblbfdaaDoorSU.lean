/- The contract of Sure of package resign at a valid set with one signature; no condition beyond those that each theorem names. -/
import Derived.Test.YteojjbfeblbfdaaDoorG8
import Derived.Test.YteojjbfeblbfdaaDoorRS
import Derived.BigRegion
import Derived.IntWalk
namespace Go.Proofs.YteojjbfeblbfdaaDoor
set_option linter.unusedSimpArgs false
set_option linter.unusedVariables false
open Go.RowKit
open NmP SpP

theorem GAt.lt {W : World} {b off : Nat} {t : Sg} (h : GAt W b off t) : b < W.heap.size := World.block_lt_of_cell? W _ h.c0
theorem GAt.keep {W W' : World} {b off : Nat} {t : Sg} (h : GAt W b off t) (hb : Below W.heap.size W W') : GAt W' b off t :=
  ⟨(hb.cell h.lt).trans h.c0, (hb.cell h.lt).trans h.c1, (hb.cell h.lt).trans h.c2, (hb.cell h.lt).trans h.c3, (hb.cell h.lt).trans h.c4, (hb.cell h.lt).trans h.c5⟩
set_option maxHeartbeats 1000000 in
set_option maxRecDepth 100000 in
theorem odd1 {c P : Nat} {w : World} {g : Sg} (hs : GAt w c 0 g) (hp : w.cell? ⟨P, 4, none⟩ = some (.slice (some ⟨c, 0, none⟩) 1 1)) (h1 : 0 ≤ g.f) (h2 : g.f ≤ g.u) (h3 : g.u ≤ 20000000) :
    Calls Tryd.prog 86 #[.agg #[.string g.z, .int .i64 g.k, .int .i64 g.a, .int .i64 g.f, .int .i64 g.u, .int .u64 g.m], .pointer (some ⟨P, 0, none⟩)] w fun e w' => e = .returned (.bool false) ∧ Below w.heap.size w w' := by
  obtain ⟨c0, c1, c2, c3, c4, c5⟩ := hs
  obtain ⟨gz, gk, ga, gf, gu, gm⟩ := g
  simp only at c0 c1 c2 c3 c4 c5 h1 h2 h3 ⊢
  have hP := World.block_lt_of_cell? w _ hp
  have hc := World.block_lt_of_cell? w _ c0
  simp only at hP hc
  have d1 : decide (gf < 0) = false := decide_eq_false (by omega)
  have d2 : decide (gu < gf) = false := decide_eq_false (by omega)
  have d3 : decide (20000000 < gu) = false := decide_eq_false (by omega)
  have d4 : (gf != gf) = false := by simp
  have d5 : (gu != gu) = false := by simp
  clear h1 h2 h3
  go_enter Tryd.func86, Tryd.ntmps86
  go_wp2
  go_quiet (fail)
  go_wp2
  go_ret
  exact ⟨rfl, below_drewN ((Below.refl _ w).alloc (Nat.le_refl _) _) _⟩
set_option maxHeartbeats 1000000 in
set_option maxRecDepth 100000 in
theorem idx1 {c P : Nat} {w : World} {g : Sg} (hs : GAt w c 0 g) (hp : w.cell? ⟨P, 4, none⟩ = some (.slice (some ⟨c, 0, none⟩) 1 1)) (h1 : 0 ≤ g.f) (h2 : g.f ≤ g.u) (h3 : g.u ≤ 20000000) :
    Calls Tryd.prog 104 #[.slice (some ⟨c, 0, none⟩) 1 1, .func (.func 86) #[] #[.pointer (some ⟨P, 0, none⟩)]] w fun e w' => e = .returned (.int .i64 (-1)) ∧ Below w.heap.size w w' := by
  have HO := Lib.hid (odd1 hs hp h1 h2 h3)
  obtain ⟨c0, c1, c2, c3, c4, c5⟩ := hs
  clear hp h1 h2 h3
  go_enter Tryd.func104, Tryd.ntmps104
  go_wp2
  refine wp_loop_rounds 2 ?_
  rw [rounds_succ]
  go_wp2_with (go_at_call 86; refine HO.out.mono ?_; rintro e w1 ⟨rfl, hb1⟩; have HB1 := Lib.hid hb1; clear hb1)
  rw [rounds_succ]
  go_wp2
  go_ret
  exact ⟨rfl, HB1.out⟩
set_option maxRecDepth 100000 in
theorem has1 {c P : Nat} {w : World} {g : Sg} (hs : GAt w c 0 g) (hp : w.cell? ⟨P, 4, none⟩ = some (.slice (some ⟨c, 0, none⟩) 1 1)) (h1 : 0 ≤ g.f) (h2 : g.f ≤ g.u) (h3 : g.u ≤ 20000000) :
    Calls Tryd.prog 87 #[.slice (some ⟨c, 0, none⟩) 1 1, .func (.func 86) #[] #[.pointer (some ⟨P, 0, none⟩)]] w fun e w' => e = .returned (.bool false) ∧ Below w.heap.size w w' := by
  have HI := Lib.hid (idx1 hs hp h1 h2 h3)
  clear hs hp h1 h2 h3
  go_enter Tryd.func87, Tryd.ntmps87
  go_wp2_with (go_at_call 104; refine HI.out.mono ?_; rintro e w1 ⟨rfl, hb1⟩; have HB1 := Lib.hid hb1; clear hb1)
  go_ret
  exact ⟨rfl, HB1.out⟩

set_option maxHeartbeats 1000000 in
set_option maxRecDepth 100000 in
theorem plain1 (s : St) {c : Nat} {w : World} {g : Sg} (hi : s.In w) (hr : RulesAt w) (hok : s.ok = true) (hs : GAt w c 0 g) (h1 : 0 ≤ g.f) (h2 : g.f ≤ g.u) (h3 : g.u ≤ 20000000) :
    Calls Tryd.prog 44 #[.agg #[.string s.x, .int .i64 s.typ, .int .i64 s.life, s.v, .slice (some ⟨c, 0, none⟩) 1 1]] w fun e w' => e = .returned (.bool true) ∧ Below w.heap.size w w' := by
  have hb0 : Below w.heap.size w (w.alloc (.cells #[.string s.x, .int .i64 s.typ, .int .i64 s.life, s.v, .slice (some ⟨c, 0, none⟩) 1 1] 37)) := (Below.refl _ w).alloc (Nat.le_refl _) _
  have hg : (w.alloc (.cells #[.string s.x, .int .i64 s.typ, .int .i64 s.life, s.v, .slice (some ⟨c, 0, none⟩) 1 1] 37)).heap[w.heap.size]? = some (Obj.cells #[.string s.x, .int .i64 s.typ, .int .i64 s.life, s.v, .slice (some ⟨c, 0, none⟩) 1 1] 37 (0, 0)) := heap_alloc_new w _
  have hv := valid_set s.x s.typ s.life s.v s.l _ hi.hx hi.hs (hi.hA.keep hb0) (hr.keep hb0)
  rw [show setB s.x.toList s.typ s.life s.l = true from hok] at hv
  have hs1 := hs.keep hb0
  obtain ⟨pv, cv, hvv⟩ := hi.hA.form
  have HG := Lib.hid hg
  have HV := Lib.hid hv
  have HB0 := Lib.hid hb0
  have HS1 := Lib.hid hs1
  clear hg hv hb0 hs1 hs hi hr hok
  obtain ⟨sx, st, sl, sw, sd⟩ := s
  simp only at hvv
  subst hvv
  simp only at HG HV HB0 HS1 ⊢
  go_enter Tryd.func44, Tryd.ntmps44
  go_wp2_with (go_at_call 37; fail)
  (with_reducible refine HV.out.mono ?_)
  rintro e w2 ⟨rfl, hb2⟩
  have hg2 := (hb2.block w.heap.size (by simp)).trans HG.out
  have g4 := cell_of_blk hg2 4 (.slice (some ⟨c, 0, none⟩) 1 1) rfl
  have HB2 := Lib.hid (HB0.out.trans (hb2.mono HB0.out.size))
  have HS := Lib.hid (has1 (HS1.out.keep hb2) g4 h1 h2 h3)
  have hl2 := (Array.getElem?_eq_some_iff.1 hg2).1
  clear hb2 hg2 h1 h2 h3
  go_wp2_with (go_at_call 87; (with_reducible refine HS.out.mono ?_); rintro e w3 ⟨rfl, hb3⟩; have HB3 := Lib.hid (HB2.out.trans (hb3.mono HB2.out.size)); clear hb3)
  go_ret
  exact ⟨rfl, HB3.out⟩
/-- The times at which a signature is surely valid. -/
def endL (u d E : Int) : Int := if E ≤ u - d + 1 then E else u - d + 1
def sureL (f u d E : Int) : List Sp := if f + d < endL u d E then [(f + d, endL u d E)] else []
/-- A call that returns stretches. -/
def SpTo (l : List Sp) (w : World) (e : Ending) (w' : World) : Prop := ∃ v, e = .returned v ∧ SlS v l w' ∧ Below w.heap.size w w'
set_option maxHeartbeats 4000000 in
set_option maxRecDepth 100000 in
theorem sure1 (s : St) {c : Nat} {w : World} {g : Sg} (d E : Int) (hvf : ∃ p q, s.v = .slice p s.l.length q) (hs : GAt w c 0 g) (h1 : 0 ≤ g.f) (h2 : g.f ≤ g.u) (h3 : g.u ≤ 20000000) (hd : 0 ≤ d ∧ d ≤ 1000) (hE : 1 ≤ E ∧ E ≤ 20000000) :
    Calls Tryd.prog 45 #[.agg #[.string s.x, .int .i64 s.typ, .int .i64 s.life, s.v, .slice (some ⟨c, 0, none⟩) 1 1], .int .i64 d, .int .i64 E] w (SpTo (sureL g.f g.u d E) w) := by
  obtain ⟨pv, cv, hvv⟩ := hvf
  obtain ⟨c0, c1, c2, c3, c4, c5⟩ := hs
  obtain ⟨gz, gk, ga, gf, gu, gm⟩ := g
  obtain ⟨sx, st, sl, sw, sd⟩ := s
  simp only at hvv
  subst hvv
  simp only at c0 c1 c2 c3 c4 c5 h1 h2 h3 ⊢
  have hc := World.block_lt_of_cell? w _ c0
  simp only at hc
  obtain ⟨d1, d2⟩ := hd
  obtain ⟨E1, E2⟩ := hE
  obtain ⟨F, hF⟩ : ∃ F, gf + d = F := ⟨_, rfl⟩
  obtain ⟨U, hU⟩ : ∃ U, gu - d + 1 = U := ⟨_, rfl⟩
  have w1 : IntKind.i64.wrap (gf + d) = F := by rw [← hF]; exact IntWalk.i64_in _ (by omega)
  have w2 : IntKind.i64.wrap (gu - d) = gu - d := IntWalk.i64_in _ (by omega)
  have w3 : IntKind.i64.wrap (gu - d + 1) = U := by rw [← hU]; exact IntWalk.i64_in _ (by omega)
  unfold sureL endL
  rw [hF, hU]
  clear hF hU
  by_cases hm : E ≤ U
  · rw [if_pos hm]
    by_cases hx : F < E
    · rw [if_pos hx]
      have x1 : decide (E ≤ F) = false := decide_eq_false (by omega)
      go_enter Tryd.func45, Tryd.ntmps45
      go_wp2
      go_region
      go_wp2
      go_ret
      exact ⟨_, rfl, SlS.two (x := (F, E)) (new3 w _ _ _), (below3 w _ _ _).drew⟩
    · rw [if_neg hx]
      have x1 : decide (E ≤ F) = true := decide_eq_true (by omega)
      go_enter Tryd.func45, Tryd.ntmps45
      go_wp2
      go_region
      go_wp2
      go_ret
      exact ⟨_, rfl, SlS.nil none 0 _, (below2 w _ _).drew⟩
  · rw [if_neg hm]
    have hm2 : U ≤ E := by omega
    by_cases hx : F < U
    · rw [if_pos hx]
      have x1 : decide (U ≤ F) = false := decide_eq_false (by omega)
      go_enter Tryd.func45, Tryd.ntmps45
      go_wp2
      go_region
      go_wp2
      go_ret
      exact ⟨_, rfl, SlS.two (x := (F, U)) (new3 w _ _ _), (below3 w _ _ _).drew⟩
    · rw [if_neg hx]
      have x1 : decide (U ≤ F) = true := decide_eq_true (by omega)
      go_enter Tryd.func45, Tryd.ntmps45
      go_wp2
      go_region
      go_wp2
      go_ret
      exact ⟨_, rfl, SlS.nil none 0 _, (below2 w _ _).drew⟩
/-- A call that returns stretches and no error. -/
def SuTo (l : List Sp) (w : World) (e : Ending) (w' : World) : Prop := ∃ v, e = .returned (.tuple #[v, .int .i64 0]) ∧ SlS v l w' ∧ Below w.heap.size w w'
set_option maxHeartbeats 4000000 in
set_option maxRecDepth 100000 in
theorem Sure1 (s : St) {c : Nat} {w : World} {g : Sg} (d E : Int) (hi : s.In w) (hr : RulesAt w) (hok : s.ok = true) (hs : GAt w c 0 g) (h1 : 0 ≤ g.f) (h2 : g.f ≤ g.u) (h3 : g.u ≤ 20000000) (hd : 0 ≤ d ∧ d ≤ 1000) (hE : 1 ≤ E ∧ E ≤ 20000000) :
    Calls Tryd.prog 12 #[.agg #[.string s.x, .int .i64 s.typ, .int .i64 s.life, s.v, .slice (some ⟨c, 0, none⟩) 1 1], .int .i64 d, .int .i64 E] w (SuTo (sureL g.f g.u d E) w) := by
  have hb0 : Below w.heap.size w (w.alloc (.cells #[.string s.x, .int .i64 s.typ, .int .i64 s.life, s.v, .slice (some ⟨c, 0, none⟩) 1 1] 37)) := (Below.refl _ w).alloc (Nat.le_refl _) _
  have hg : (w.alloc (.cells #[.string s.x, .int .i64 s.typ, .int .i64 s.life, s.v, .slice (some ⟨c, 0, none⟩) 1 1] 37)).heap[w.heap.size]? = some (Obj.cells #[.string s.x, .int .i64 s.typ, .int .i64 s.life, s.v, .slice (some ⟨c, 0, none⟩) 1 1] 37 (0, 0)) := heap_alloc_new w _
  have hp := plain1 s (hi.keep hb0) (hr.keep hb0) hok (hs.keep hb0) h1 h2 h3
  have hu := fun W (h : Below w.heap.size w W) => sure1 s d E hi.hA.form (hs.keep h) h1 h2 h3 hd hE
  obtain ⟨pv, cv, hvv⟩ := hi.hA.form
  have HG := Lib.hid hg
  have HP := Lib.hid hp
  have HU := Lib.hid hu
  have HB0 := Lib.hid hb0
  unfold SpTo at HU
  have e1 : decide (d < 0) = false := decide_eq_false (by omega)
  have e2 : decide (1000 < d) = false := decide_eq_false (by omega)
  have e3 : decide (E < 1) = false := decide_eq_false (by omega)
  have e4 : decide (20000000 < E) = false := decide_eq_false (by omega)
  clear hg hp hu hb0 hs hi hr hok h1 h2 h3 hd hE
  generalize sureL g.f g.u d E = L at *
  obtain ⟨sx, st, sl, sw, sd⟩ := s
  simp only at hvv
  subst hvv
  simp only at HG HP HU HB0 ⊢
  go_enter Tryd.func12, Tryd.ntmps12
  go_wp2_with (go_at_call 44; fail)
  (with_reducible refine HP.out.mono ?_)
  rintro e w2 ⟨rfl, hb2⟩
  have hg2 := (hb2.block w.heap.size (by simp)).trans HG.out
  have g0 := cell_of_blk hg2 0 (.string sx) rfl
  have g1 := cell_of_blk hg2 1 (.int .i64 st) rfl
  have g2 := cell_of_blk hg2 2 (.int .i64 sl) rfl
  have g3 := cell_of_blk hg2 3 (.slice pv sd.length cv) rfl
  have g4 := cell_of_blk hg2 4 (.slice (some ⟨c, 0, none⟩) 1 1) rfl
  have HB2 := Lib.hid (HB0.out.trans (hb2.mono HB0.out.size))
  clear hb2 hg2
  go_wp2_with (go_at_call 45; (with_reducible refine (HU.out _ HB2.out).mono ?_); rintro e w3 ⟨sl3, rfl, hs3, hb3⟩; obtain ⟨p3, c3, rfl⟩ := hs3.form; have HS3 := Lib.hid hs3; have HB3 := Lib.hid (HB2.out.trans (hb3.mono HB2.out.size)); clear hs3 hb3)
  go_ret2
  exact ⟨_, rfl, HS3.out, HB3.out⟩
end Go.Proofs.YteojjbfeblbfdaaDoor
