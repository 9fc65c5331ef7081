/- The contract of Sure of package resign at the signed sets of the examples; no condition beyond those that each theorem names. -/
import Derived.Test.YteojjbfeblbfdaaDoorRV
import Derived.BigRegion
import Derived.RangeFuncOwn
namespace Go.Proofs.YteojjbfeblbfdaaDoor
set_option linter.unusedSimpArgs false
set_option linter.unusedVariables false
open Go.RowKit
open SpP

/-- The signature of the examples. -/
structure SigAt (c : Nat) (w : World) : Prop where
  c0 : w.cell? ⟨c, 0, none⟩ = some (.string ⟨#[120]⟩)
  c1 : w.cell? ⟨c, 1, none⟩ = some (.int .i64 1)
  c2 : w.cell? ⟨c, 2, none⟩ = some (.int .i64 1)
  c3 : w.cell? ⟨c, 3, none⟩ = some (.int .i64 10)
  c4 : w.cell? ⟨c, 4, none⟩ = some (.int .i64 90)
  c5 : w.cell? ⟨c, 5, none⟩ = some (.int .u64 0)
theorem SigAt.lt {c : Nat} {w : World} (h : SigAt c w) : c < w.heap.size := World.block_lt_of_cell? w _ h.c0
theorem SigAt.keep {c : Nat} {w w' : World} (h : SigAt c w) (hb : Below w.heap.size w w') : SigAt c w' :=
  ⟨(hb.cell h.lt).trans h.c0, (hb.cell h.lt).trans h.c1, (hb.cell h.lt).trans h.c2, (hb.cell h.lt).trans h.c3, (hb.cell h.lt).trans h.c4, (hb.cell h.lt).trans h.c5⟩
def sigV : Value := .agg #[.string ⟨#[120]⟩, .int .i64 1, .int .i64 1, .int .i64 10, .int .i64 90, .int .u64 0]

set_option maxHeartbeats 1000000 in
theorem odd_false {c P : Nat} {w : World} (hs : SigAt c w) (hp : w.cell? ⟨P, 4, none⟩ = some (.slice (some ⟨c, 0, none⟩) 1 1)) :
    Calls Tryd.prog 86 #[.agg #[.string ⟨#[120]⟩, .int .i64 1, .int .i64 1, .int .i64 10, .int .i64 90, .int .u64 0], .pointer (some ⟨P, 0, none⟩)] w fun e w' => e = .returned (.bool false) ∧ Below w.heap.size w w' := by
  obtain ⟨c0, c1, c2, c3, c4, c5⟩ := hs
  have hP := World.block_lt_of_cell? w _ hp
  have hc := World.block_lt_of_cell? w _ c0
  simp only at hP hc
  go_enter Tryd.func86, Tryd.ntmps86
  go_wp2
  go_quiet (fail)
  go_wp2
  go_ret
  exact ⟨rfl, below_drewN ((Below.refl _ w).alloc (Nat.le_refl _) _) _⟩
theorem idx_nil (f : Value) (w : World) :
    Calls Tryd.prog 104 #[.slice none 0 0, f] w fun e w' => e = .returned (.int .i64 (-1)) ∧ w = w' := by
  go_enter Tryd.func104, Tryd.ntmps104
  go_wp2
  refine wp_loop_rounds 1 ?_
  rw [rounds_succ]
  go_wp2
  go_ret
  exact ⟨rfl, rfl⟩
theorem has_nil (f : Value) (w : World) :
    Calls Tryd.prog 87 #[.slice none 0 0, f] w fun e w' => e = .returned (.bool false) ∧ w = w' := by
  go_enter Tryd.func87, Tryd.ntmps87
  go_wp2_with (go_at_call 104; refine (idx_nil _ _).mono ?_; rintro e w1 ⟨rfl, rfl⟩)
  go_ret
  exact ⟨rfl, rfl⟩
set_option maxHeartbeats 1000000 in
theorem idx_one {c P : Nat} {w : World} (hs : SigAt c w) (hp : w.cell? ⟨P, 4, none⟩ = some (.slice (some ⟨c, 0, none⟩) 1 1)) :
    Calls Tryd.prog 104 #[.slice (some ⟨c, 0, none⟩) 1 1, .func (.func 86) #[] #[.pointer (some ⟨P, 0, none⟩)]] w fun e w' => e = .returned (.int .i64 (-1)) ∧ Below w.heap.size w w' := by
  have HO := Lib.hid (odd_false hs hp)
  obtain ⟨c0, c1, c2, c3, c4, c5⟩ := hs
  clear hp
  go_enter Tryd.func104, Tryd.ntmps104
  go_wp2
  refine wp_loop_rounds 2 ?_
  rw [rounds_succ]
  go_wp2_with (go_at_call 86; refine HO.out.mono ?_; rintro e w1 ⟨rfl, hb1⟩; have HB1 := Lib.hid hb1; clear hb1)
  rw [rounds_succ]
  go_wp2
  go_ret
  exact ⟨rfl, HB1.out⟩
theorem has_one {c P : Nat} {w : World} (hs : SigAt c w) (hp : w.cell? ⟨P, 4, none⟩ = some (.slice (some ⟨c, 0, none⟩) 1 1)) :
    Calls Tryd.prog 87 #[.slice (some ⟨c, 0, none⟩) 1 1, .func (.func 86) #[] #[.pointer (some ⟨P, 0, none⟩)]] w fun e w' => e = .returned (.bool false) ∧ Below w.heap.size w w' := by
  have HI := Lib.hid (idx_one hs hp)
  clear hs hp
  go_enter Tryd.func87, Tryd.ntmps87
  go_wp2_with (go_at_call 104; refine HI.out.mono ?_; rintro e w1 ⟨rfl, hb1⟩; have HB1 := Lib.hid hb1; clear hb1)
  go_ret
  exact ⟨rfl, HB1.out⟩

def sgO (b : Nat) (v : Value) : Obj := .cells #[.string ⟨#[120]⟩, .int .i64 1, .int .i64 0, .slice (some ⟨b, 0, none⟩) 1 1, v] 37
/-- The box of a signed set. -/
structure SgAt (P b : Nat) (v : Value) (W : World) : Prop where
  c0 : W.cell? ⟨P, 0, none⟩ = some (.string ⟨#[120]⟩)
  c1 : W.cell? ⟨P, 1, none⟩ = some (.int .i64 1)
  c2 : W.cell? ⟨P, 2, none⟩ = some (.int .i64 0)
  c3 : W.cell? ⟨P, 3, none⟩ = some (.slice (some ⟨b, 0, none⟩) 1 1)
  c4 : W.cell? ⟨P, 4, none⟩ = some v
theorem SgAt.lt {P b : Nat} {v : Value} {W : World} (h : SgAt P b v W) : P < W.heap.size := World.block_lt_of_cell? W _ h.c0
theorem SgAt.keep {P b : Nat} {v : Value} {w w' : World} (h : SgAt P b v w) (hb : Below w.heap.size w w') : SgAt P b v w' :=
  ⟨(hb.cell h.lt).trans h.c0, (hb.cell h.lt).trans h.c1, (hb.cell h.lt).trans h.c2, (hb.cell h.lt).trans h.c3, (hb.cell h.lt).trans h.c4⟩
theorem SgAt.new (w : World) (b : Nat) (v : Value) : SgAt w.heap.size b v (w.alloc (sgO b v)) := by
  unfold sgO
  refine ⟨?_, ?_, ?_, ?_, ?_⟩ <;> (rw [World.cell?_alloc_at _ _ _ _ rfl]; rfl)

set_option maxHeartbeats 1000000 in
theorem plain_nil {b : Nat} {w : World} (hr : RuleAt w) (hd : DatAt b w) :
    Calls Tryd.prog 44 #[.agg #[.string ⟨#[120]⟩, .int .i64 1, .int .i64 0, .slice (some ⟨b, 0, none⟩) 1 1, .slice none 0 0]] w fun e w' => e = .returned (.bool true) ∧ Below w.heap.size w w' := by
  have hb0 : Below w.heap.size w (w.alloc (sgO b (.slice none 0 0))) := (Below.refl _ w).alloc (Nat.le_refl _) _
  have hg := SgAt.new w b (.slice none 0 0)
  have hv := valid_lit (hr.keep hb0) (hd.keep hb0)
  clear hr hd
  unfold sgO at *
  go_enter Tryd.func44, Tryd.ntmps44
  go_wp2_with fail
  generalize w.alloc _ = W1 at *
  have HG := Lib.hid hg
  obtain ⟨g0, g1, g2, g3, g4⟩ := hg
  have HV := Lib.hid hv
  have HB0 := Lib.hid hb0
  clear hv hb0
  go_wp2_with (go_at_call 37; fail)
  refine HV.out.mono ?_
  rintro e w2 ⟨rfl, hb2⟩
  obtain ⟨g0, g1, g2, g3, g4⟩ := HG.out.keep hb2
  have HB2 := Lib.hid (HB0.out.trans (hb2.mono HB0.out.size))
  clear hb2
  go_wp2_with (go_at_call 87; refine (has_nil _ _).mono ?_; rintro e w3 ⟨rfl, rfl⟩; have HB3 := HB2)
  go_ret
  exact ⟨rfl, HB3.out⟩
set_option maxHeartbeats 1000000 in
theorem plain_one {b c : Nat} {w : World} (hr : RuleAt w) (hd : DatAt b w) (hs : SigAt c w) :
    Calls Tryd.prog 44 #[.agg #[.string ⟨#[120]⟩, .int .i64 1, .int .i64 0, .slice (some ⟨b, 0, none⟩) 1 1, .slice (some ⟨c, 0, none⟩) 1 1]] w fun e w' => e = .returned (.bool true) ∧ Below w.heap.size w w' := by
  have hb0 : Below w.heap.size w (w.alloc (sgO b (.slice (some ⟨c, 0, none⟩) 1 1))) := (Below.refl _ w).alloc (Nat.le_refl _) _
  have hg := SgAt.new w b (.slice (some ⟨c, 0, none⟩) 1 1)
  have hv := valid_lit (hr.keep hb0) (hd.keep hb0)
  have hs1 := hs.keep hb0
  clear hs
  clear hr hd
  unfold sgO at *
  go_enter Tryd.func44, Tryd.ntmps44
  go_wp2_with fail
  generalize w.alloc _ = W1 at *
  have HG := Lib.hid hg
  obtain ⟨g0, g1, g2, g3, g4⟩ := hg
  have HV := Lib.hid hv
  have HB0 := Lib.hid hb0
  clear hv hb0
  go_wp2_with (go_at_call 37; fail)
  refine HV.out.mono ?_
  rintro e w2 ⟨rfl, hb2⟩
  obtain ⟨g0, g1, g2, g3, g4⟩ := HG.out.keep hb2
  have HB2 := Lib.hid (HB0.out.trans (hb2.mono HB0.out.size))
  have HS := Lib.hid (has_one (hs1.keep hb2) g4)
  clear hs1
  clear hb2
  go_wp2_with (go_at_call 87; refine HS.out.mono ?_; rintro e w3 ⟨rfl, hb3⟩; have HB3 := Lib.hid (HB2.out.trans (hb3.mono HB2.out.size)); clear hb3)
  go_ret
  exact ⟨rfl, HB3.out⟩

theorem SlS.new1 (W : World) (x : Sp) (c : Nat) : SlS (.slice (some ⟨W.heap.size, 0, none⟩) 1 c) [x] (W.alloc (.cells #[.int .i64 x.1, .int .i64 x.2] 80)) := by
  refine .inr ⟨W.heap.size, 0, c, rfl, by simp, fun m u hm => ?_⟩
  rw [Nat.zero_add, World.cell?_alloc_at _ _ _ _ rfl]
  simpa [rowS, valsS] using hm
theorem SlS.two {W : World} {B c : Nat} {T : TypeId} {x : Sp} (h : W.heap[B]? = some (.cells #[.int .i64 x.1, .int .i64 x.2] T)) : SlS (.slice (some ⟨B, 0, none⟩) 1 c) [x] W := by
  refine .inr ⟨B, 0, c, rfl, (Array.getElem?_eq_some_iff.1 h).1, fun m u hm => ?_⟩
  have hm : m = 0 ∨ m = 1 := by
    have := (List.getElem?_eq_some_iff.1 hm).1
    simp [rowS, valsS] at this
    omega
  rename_i hm0
  rcases hm with rfl | rfl <;> (simp [rowS, valsS] at hm0; subst hm0; simp [World.cell?, h])
theorem new3 (w : World) (A B O : Obj) : (((w.alloc A).alloc B).alloc O).heap[w.heap.size + 1 + 1]? = some O := by
  have := World.alloc_heap_new ((w.alloc A).alloc B) O
  rw [World.size_alloc, World.size_alloc] at this
  exact this
theorem below2 (w : World) (A B : Obj) : Below w.heap.size w ((w.alloc A).alloc B) := ((Below.refl _ w).alloc (Nat.le_refl _) _).alloc (by simp) _
theorem below3 (w : World) (A B O : Obj) : Below w.heap.size w (((w.alloc A).alloc B).alloc O) := (below2 w A B).alloc (by simp; omega) _
theorem SlS.nil (p : Option Addr) (c : Nat) (W : World) : SlS (.slice p 0 c) [] W := .inl ⟨rfl, p, c, rfl⟩

set_option maxHeartbeats 1000000 in
theorem sure_a {b c : Nat} {w : World} (hs : SigAt c w) :
    Calls Tryd.prog 45 #[.agg #[.string ⟨#[120]⟩, .int .i64 1, .int .i64 0, .slice (some ⟨b, 0, none⟩) 1 1, .slice (some ⟨c, 0, none⟩) 1 1], .int .i64 5, .int .i64 1000] w fun e w' => ∃ sl, e = .returned sl ∧ SlS sl [(15, 86)] w' ∧ Below w.heap.size w w' := by
  obtain ⟨c0, c1, c2, c3, c4, c5⟩ := hs
  have hc := World.block_lt_of_cell? w _ c0
  simp only at hc
  go_enter Tryd.func45, Tryd.ntmps45
  go_wp2
  go_region
  go_wp2
  go_ret
  exact ⟨_, rfl, SlS.two (x := (15, 86)) (new3 w _ _ _), (below3 w _ _ _).drew⟩

set_option maxHeartbeats 1000000 in
theorem sure_b {b c : Nat} {w : World} (hs : SigAt c w) :
    Calls Tryd.prog 45 #[.agg #[.string ⟨#[120]⟩, .int .i64 1, .int .i64 0, .slice (some ⟨b, 0, none⟩) 1 1, .slice (some ⟨c, 0, none⟩) 1 1], .int .i64 41, .int .i64 1000] w fun e w' => ∃ sl, e = .returned sl ∧ SlS sl [] w' ∧ Below w.heap.size w w' := by
  obtain ⟨c0, c1, c2, c3, c4, c5⟩ := hs
  have hc := World.block_lt_of_cell? w _ c0
  simp only at hc
  go_enter Tryd.func45, Tryd.ntmps45
  go_wp2
  go_region
  go_wp2
  go_ret
  exact ⟨_, rfl, SlS.nil none 0 _, (below2 w _ _).drew⟩

set_option maxHeartbeats 1000000 in
theorem sure_c {b : Nat} {w : World} :
    Calls Tryd.prog 45 #[.agg #[.string ⟨#[120]⟩, .int .i64 1, .int .i64 0, .slice (some ⟨b, 0, none⟩) 1 1, .slice none 0 0], .int .i64 5, .int .i64 70] w fun e w' => ∃ sl, e = .returned sl ∧ SlS sl [(0, 70)] w' ∧ Below w.heap.size w w' := by
  skip
  skip
  skip
  go_enter Tryd.func45, Tryd.ntmps45
  go_wp2
  go_ret
  exact ⟨_, rfl, SlS.two (x := (0, 70)) (new3 w _ _ _), below3 w _ _ _⟩

set_option maxHeartbeats 1000000 in
theorem Sure_a {b c : Nat} {w : World} (hr : RuleAt w) (hd : DatAt b w) (hs : SigAt c w) :
    Calls Tryd.prog 12 #[.agg #[.string ⟨#[120]⟩, .int .i64 1, .int .i64 0, .slice (some ⟨b, 0, none⟩) 1 1, .slice (some ⟨c, 0, none⟩) 1 1], .int .i64 5, .int .i64 1000] w fun e w' => ∃ sl, e = .returned (.tuple #[sl, .int .i64 0]) ∧ SlS sl [(15, 86)] w' ∧ Below w.heap.size w w' := by
  have hb0 : Below w.heap.size w (w.alloc (sgO b (.slice (some ⟨c, 0, none⟩) 1 1))) := (Below.refl _ w).alloc (Nat.le_refl _) _
  have hg := SgAt.new w b (.slice (some ⟨c, 0, none⟩) 1 1)
  have hp := plain_one (hr.keep hb0) (hd.keep hb0) (hs.keep hb0)
  have hu := fun W (h : Below w.heap.size w W) => sure_a (b := b) (w := W) (hs.keep h)
  clear hr hd hs
  unfold sgO at *
  go_enter Tryd.func12, Tryd.ntmps12
  go_wp2_with fail
  generalize w.alloc _ = W1 at *
  have HG := Lib.hid hg
  obtain ⟨g0, g1, g2, g3, g4⟩ := hg
  have HP := Lib.hid hp
  have HU := Lib.hid hu
  have HB0 := Lib.hid hb0
  clear hp hb0 hu
  go_wp2_with (go_at_call 44; fail)
  refine HP.out.mono ?_
  rintro e w2 ⟨rfl, hb2⟩
  obtain ⟨g0, g1, g2, g3, g4⟩ := HG.out.keep hb2
  have HB2 := Lib.hid (HB0.out.trans (hb2.mono HB0.out.size))
  clear hb2
  go_wp2_with (go_at_call 45; refine (HU.out _ HB2.out).mono ?_; rintro e w3 ⟨sl, rfl, hs3, hb3⟩; obtain ⟨p3, c3, rfl⟩ := hs3.form; have HS3 := Lib.hid hs3; have HB3 := Lib.hid (HB2.out.trans (hb3.mono HB2.out.size)); clear hs3 hb3)
  go_ret2
  exact ⟨_, rfl, HS3.out, HB3.out⟩

set_option maxHeartbeats 1000000 in
theorem Sure_b {b c : Nat} {w : World} (hr : RuleAt w) (hd : DatAt b w) (hs : SigAt c w) :
    Calls Tryd.prog 12 #[.agg #[.string ⟨#[120]⟩, .int .i64 1, .int .i64 0, .slice (some ⟨b, 0, none⟩) 1 1, .slice (some ⟨c, 0, none⟩) 1 1], .int .i64 41, .int .i64 1000] w fun e w' => ∃ sl, e = .returned (.tuple #[sl, .int .i64 0]) ∧ SlS sl [] w' ∧ Below w.heap.size w w' := by
  have hb0 : Below w.heap.size w (w.alloc (sgO b (.slice (some ⟨c, 0, none⟩) 1 1))) := (Below.refl _ w).alloc (Nat.le_refl _) _
  have hg := SgAt.new w b (.slice (some ⟨c, 0, none⟩) 1 1)
  have hp := plain_one (hr.keep hb0) (hd.keep hb0) (hs.keep hb0)
  have hu := fun W (h : Below w.heap.size w W) => sure_b (b := b) (w := W) (hs.keep h)
  clear hr hd hs
  unfold sgO at *
  go_enter Tryd.func12, Tryd.ntmps12
  go_wp2_with fail
  generalize w.alloc _ = W1 at *
  have HG := Lib.hid hg
  obtain ⟨g0, g1, g2, g3, g4⟩ := hg
  have HP := Lib.hid hp
  have HU := Lib.hid hu
  have HB0 := Lib.hid hb0
  clear hp hb0 hu
  go_wp2_with (go_at_call 44; fail)
  refine HP.out.mono ?_
  rintro e w2 ⟨rfl, hb2⟩
  obtain ⟨g0, g1, g2, g3, g4⟩ := HG.out.keep hb2
  have HB2 := Lib.hid (HB0.out.trans (hb2.mono HB0.out.size))
  clear hb2
  go_wp2_with (go_at_call 45; refine (HU.out _ HB2.out).mono ?_; rintro e w3 ⟨sl, rfl, hs3, hb3⟩; obtain ⟨p3, c3, rfl⟩ := hs3.form; have HS3 := Lib.hid hs3; have HB3 := Lib.hid (HB2.out.trans (hb3.mono HB2.out.size)); clear hs3 hb3)
  go_ret2
  exact ⟨_, rfl, HS3.out, HB3.out⟩

set_option maxHeartbeats 1000000 in
theorem Sure_c {b : Nat} {w : World} (hr : RuleAt w) (hd : DatAt b w) :
    Calls Tryd.prog 12 #[.agg #[.string ⟨#[120]⟩, .int .i64 1, .int .i64 0, .slice (some ⟨b, 0, none⟩) 1 1, .slice none 0 0], .int .i64 5, .int .i64 70] w fun e w' => ∃ sl, e = .returned (.tuple #[sl, .int .i64 0]) ∧ SlS sl [(0, 70)] w' ∧ Below w.heap.size w w' := by
  have hb0 : Below w.heap.size w (w.alloc (sgO b (.slice none 0 0))) := (Below.refl _ w).alloc (Nat.le_refl _) _
  have hg := SgAt.new w b (.slice none 0 0)
  have hp := plain_nil (hr.keep hb0) (hd.keep hb0)
  have hu := fun W (h : Below w.heap.size w W) => sure_c (b := b) (w := W)
  clear hr hd 
  unfold sgO at *
  go_enter Tryd.func12, Tryd.ntmps12
  go_wp2_with fail
  generalize w.alloc _ = W1 at *
  have HG := Lib.hid hg
  obtain ⟨g0, g1, g2, g3, g4⟩ := hg
  have HP := Lib.hid hp
  have HU := Lib.hid hu
  have HB0 := Lib.hid hb0
  clear hp hb0 hu
  go_wp2_with (go_at_call 44; fail)
  refine HP.out.mono ?_
  rintro e w2 ⟨rfl, hb2⟩
  obtain ⟨g0, g1, g2, g3, g4⟩ := HG.out.keep hb2
  have HB2 := Lib.hid (HB0.out.trans (hb2.mono HB0.out.size))
  clear hb2
  go_wp2_with (go_at_call 45; refine (HU.out _ HB2.out).mono ?_; rintro e w3 ⟨sl, rfl, hs3, hb3⟩; obtain ⟨p3, c3, rfl⟩ := hs3.form; have HS3 := Lib.hid hs3; have HB3 := Lib.hid (HB2.out.trans (hb3.mono HB2.out.size)); clear hs3 hb3)
  go_ret2
  exact ⟨_, rfl, HS3.out, HB3.out⟩
end Go.Proofs.YteojjbfeblbfdaaDoor
