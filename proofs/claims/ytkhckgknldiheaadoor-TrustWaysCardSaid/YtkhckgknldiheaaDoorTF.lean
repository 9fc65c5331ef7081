/- What layer 10's head calls example returns; no condition beyond those that each theorem names. -/
import Derived.Test.YtkhckgknldiheaaDoorTE
import Derived.Deep.CutRange
import Derived.Deep.RegionWith
import Derived.Deep.RegionHeld3
namespace Go.Proofs.YtkhckgknldiheaaDoor
set_option linter.unusedSimpArgs false
set_option linter.unusedVariables false
open Go.RowKit
open NmP SpP

/-- The datum of a number. -/
def dE (n : Int) : Dt := (⟨#[]⟩, n, 1)
/-- The three sets of the example. -/
structure ExS (s1 s2 s3 : Sd) : Prop where
  a : IsS s1 ⟨#[120]⟩ 6 ⟨#[46]⟩ 1 (dE 2)
  b : IsS s2 ⟨#[46]⟩ 7 ⟨#[46]⟩ 1 (dE 1)
  c : IsS s3 ⟨#[120]⟩ 7 ⟨#[120]⟩ 2 (dE 2)
/-- What example returns. -/
def ExTo (w : World) (e : Ending) (w' : World) : Prop := ∃ b s1 s2 s3 g, e = .returned (.tuple #[.slice (some ⟨b, 0, none⟩) 3 3, .agg #[.string ⟨#[46]⟩, .int .i64 6, .int .i64 0, .slice (some ⟨g, 0, none⟩) 1 1]]) ∧ ExS s1 s2 s3 ∧ SlK (.slice (some ⟨b, 0, none⟩) 3 3) [s1, s2, s3] w' ∧ SlD (.slice (some ⟨g, 0, none⟩) 1 1) [dE 1] w' ∧ Below w.heap.size w w'
/-- What the walk keeps. -/
structure ExW (w W : World) : Prop where
  bel : Below w.heap.size w W
  h0 : W.heap[w.heap.size]? = some (Obj.cells #[.string ⟨#[]⟩, .int .i64 0, .int .i64 0, .slice none 0 0] 25 (0, 0))
  h1 : W.heap[w.heap.size + 1]? = some (Obj.cells #[.string ⟨#[]⟩, .int .i64 1, .int .i64 1] 65 (0, 0))
  h2 : W.heap[w.heap.size + 2]? = some (Obj.cells #[.string ⟨#[]⟩, .int .i64 2, .int .i64 1] 65 (0, 0))
theorem ExW.lt {w W : World} (h : ExW w W) : w.heap.size + 2 < W.heap.size := (Array.getElem?_eq_some_iff.1 h.h2).1
theorem ExW.lt0 {w W : World} (h : ExW w W) : w.heap.size < W.heap.size := (Array.getElem?_eq_some_iff.1 h.h0).1
theorem ExW.lt1 {w W : World} (h : ExW w W) : w.heap.size + 1 < W.heap.size := (Array.getElem?_eq_some_iff.1 h.h1).1
theorem ExW.keep {w W W' : World} (h : ExW w W) (hb : Below W.heap.size W W') : ExW w W' := by
  have := h.lt
  exact ⟨h.bel.trans (hb.mono h.bel.size), (hb.block _ (by omega)).trans h.h0, (hb.block _ (by omega)).trans h.h1, (hb.block _ (by omega)).trans h.h2⟩
theorem ExW.new (w : World) : ExW w (((w.alloc (.cells #[.string ⟨#[]⟩, .int .i64 0, .int .i64 0, .slice none 0 0] 25)).alloc (.cells #[.string ⟨#[]⟩, .int .i64 1, .int .i64 1] 65)).alloc (.cells #[.string ⟨#[]⟩, .int .i64 2, .int .i64 1] 65)) := by
  refine ⟨(((Below.refl _ w).alloc (Nat.le_refl _) _).alloc (by simp) _).alloc (by simp; omega) _, ?_, ?_, ?_⟩
  · exact (heap_alloc_old _ _ (by simp; omega)).trans ((heap_alloc_old _ _ (by simp)).trans (heap_alloc_new w _))
  · have h := heap_alloc_new (w.alloc (.cells #[.string ⟨#[]⟩, .int .i64 0, .int .i64 0, .slice none 0 0] 25)) (.cells #[.string ⟨#[]⟩, .int .i64 1, .int .i64 1] 65)
    exact (heap_alloc_old _ _ (by simp)).trans (by simpa using h)
  · have h := heap_alloc_new ((w.alloc (.cells #[.string ⟨#[]⟩, .int .i64 0, .int .i64 0, .slice none 0 0] 25)).alloc (.cells #[.string ⟨#[]⟩, .int .i64 1, .int .i64 1] 65)) (.cells #[.string ⟨#[]⟩, .int .i64 2, .int .i64 1] 65)
    simpa using h
def fourE (W : World) (q : Nat) (v0 v1 v2 v3 : Value) : World := (((W.setCell ⟨q, 0, none⟩ v0).setCell ⟨q, 1, none⟩ v1).setCell ⟨q, 2, none⟩ v2).setCell ⟨q, 3, none⟩ v3
theorem fourE_other (W : World) (q g : Nat) (h : g ≠ q) (a0 a1 a2 a3 : Value) : (fourE W q a0 a1 a2 a3).heap[g]? = W.heap[g]? :=
  (heap_setCell_other _ ⟨q, 3, none⟩ g a3 h).trans ((heap_setCell_other _ ⟨q, 2, none⟩ g a2 h).trans ((heap_setCell_other _ ⟨q, 1, none⟩ g a1 h).trans (heap_setCell_other _ ⟨q, 0, none⟩ g a0 h)))
theorem fourE_size (W : World) (q : Nat) (v0 v1 v2 v3 : Value) : (fourE W q v0 v1 v2 v3).heap.size = W.heap.size := by simp [fourE]
theorem ExW.old {w W : World} (h : ExW w W) (v0 v1 v2 v3 : Value) (o1 o2 : Obj) (g : Nat) (hg : g ≠ w.heap.size) (hl : g < W.heap.size) : (((fourE W w.heap.size v0 v1 v2 v3).alloc o1).alloc o2).heap[g]? = W.heap[g]? :=
  (heap_alloc_old _ _ (by simp [fourE]; omega)).trans ((heap_alloc_old _ _ (by simp [fourE]; omega)).trans (fourE_other W _ g hg v0 v1 v2 v3))
theorem ExW.fin {w W : World} (h : ExW w W) (v0 v1 v2 v3 : Value) (o1 o2 : Obj) : ((((((W.setCell ⟨w.heap.size, 0, none⟩ v0).setCell ⟨w.heap.size, 1, none⟩ v1).setCell ⟨w.heap.size, 2, none⟩ v2).setCell ⟨w.heap.size, 3, none⟩ v3).alloc o1).alloc o2).cell? ⟨w.heap.size + 1, 0, none⟩ = some (.string ⟨#[]⟩) ∧ ((((((W.setCell ⟨w.heap.size, 0, none⟩ v0).setCell ⟨w.heap.size, 1, none⟩ v1).setCell ⟨w.heap.size, 2, none⟩ v2).setCell ⟨w.heap.size, 3, none⟩ v3).alloc o1).alloc o2).cell? ⟨w.heap.size + 1, 1, none⟩ = some (.int .i64 1) ∧ ((((((W.setCell ⟨w.heap.size, 0, none⟩ v0).setCell ⟨w.heap.size, 1, none⟩ v1).setCell ⟨w.heap.size, 2, none⟩ v2).setCell ⟨w.heap.size, 3, none⟩ v3).alloc o1).alloc o2).cell? ⟨w.heap.size + 1, 2, none⟩ = some (.int .i64 1) ∧ ((((((W.setCell ⟨w.heap.size, 0, none⟩ v0).setCell ⟨w.heap.size, 1, none⟩ v1).setCell ⟨w.heap.size, 2, none⟩ v2).setCell ⟨w.heap.size, 3, none⟩ v3).alloc o1).alloc o2).cell? ⟨w.heap.size + 2, 0, none⟩ = some (.string ⟨#[]⟩) ∧ ((((((W.setCell ⟨w.heap.size, 0, none⟩ v0).setCell ⟨w.heap.size, 1, none⟩ v1).setCell ⟨w.heap.size, 2, none⟩ v2).setCell ⟨w.heap.size, 3, none⟩ v3).alloc o1).alloc o2).cell? ⟨w.heap.size + 2, 1, none⟩ = some (.int .i64 2) ∧ ((((((W.setCell ⟨w.heap.size, 0, none⟩ v0).setCell ⟨w.heap.size, 1, none⟩ v1).setCell ⟨w.heap.size, 2, none⟩ v2).setCell ⟨w.heap.size, 3, none⟩ v3).alloc o1).alloc o2).cell? ⟨w.heap.size + 2, 2, none⟩ = some (.int .i64 1) := by
  have k1 := (h.old v0 v1 v2 v3 o1 o2 (w.heap.size + 1) (by omega) h.lt1).trans h.h1
  have k2 := (h.old v0 v1 v2 v3 o1 o2 (w.heap.size + 2) (by omega) h.lt).trans h.h2
  exact ⟨cell_of_blk k1 0 _ rfl, cell_of_blk k1 1 _ rfl, cell_of_blk k1 2 _ rfl, cell_of_blk k2 0 _ rfl, cell_of_blk k2 1 _ rfl, cell_of_blk k2 2 _ rfl⟩
theorem ExW.old1 {w W : World} (h : ExW w W) (v0 v1 v2 v3 : Value) (o1 : Obj) (g : Nat) (hg : g ≠ w.heap.size) (hl : g < W.heap.size) : ((fourE W w.heap.size v0 v1 v2 v3).alloc o1).heap[g]? = W.heap[g]? :=
  (heap_alloc_old _ _ (by simp [fourE]; omega)).trans (fourE_other W _ g hg v0 v1 v2 v3)
theorem ExW.fin1 {w W : World} (h : ExW w W) (v0 v1 v2 v3 : Value) (o1 : Obj) : (((((W.setCell ⟨w.heap.size, 0, none⟩ v0).setCell ⟨w.heap.size, 1, none⟩ v1).setCell ⟨w.heap.size, 2, none⟩ v2).setCell ⟨w.heap.size, 3, none⟩ v3).alloc o1).cell? ⟨w.heap.size + 1, 0, none⟩ = some (.string ⟨#[]⟩) ∧ (((((W.setCell ⟨w.heap.size, 0, none⟩ v0).setCell ⟨w.heap.size, 1, none⟩ v1).setCell ⟨w.heap.size, 2, none⟩ v2).setCell ⟨w.heap.size, 3, none⟩ v3).alloc o1).cell? ⟨w.heap.size + 1, 1, none⟩ = some (.int .i64 1) ∧ (((((W.setCell ⟨w.heap.size, 0, none⟩ v0).setCell ⟨w.heap.size, 1, none⟩ v1).setCell ⟨w.heap.size, 2, none⟩ v2).setCell ⟨w.heap.size, 3, none⟩ v3).alloc o1).cell? ⟨w.heap.size + 1, 2, none⟩ = some (.int .i64 1) ∧ (((((W.setCell ⟨w.heap.size, 0, none⟩ v0).setCell ⟨w.heap.size, 1, none⟩ v1).setCell ⟨w.heap.size, 2, none⟩ v2).setCell ⟨w.heap.size, 3, none⟩ v3).alloc o1).cell? ⟨w.heap.size + 2, 0, none⟩ = some (.string ⟨#[]⟩) ∧ (((((W.setCell ⟨w.heap.size, 0, none⟩ v0).setCell ⟨w.heap.size, 1, none⟩ v1).setCell ⟨w.heap.size, 2, none⟩ v2).setCell ⟨w.heap.size, 3, none⟩ v3).alloc o1).cell? ⟨w.heap.size + 2, 1, none⟩ = some (.int .i64 2) ∧ (((((W.setCell ⟨w.heap.size, 0, none⟩ v0).setCell ⟨w.heap.size, 1, none⟩ v1).setCell ⟨w.heap.size, 2, none⟩ v2).setCell ⟨w.heap.size, 3, none⟩ v3).alloc o1).cell? ⟨w.heap.size + 2, 2, none⟩ = some (.int .i64 1) := by
  have k1 := (h.old1 v0 v1 v2 v3 o1 (w.heap.size + 1) (by omega) h.lt1).trans h.h1
  have k2 := (h.old1 v0 v1 v2 v3 o1 (w.heap.size + 2) (by omega) h.lt).trans h.h2
  exact ⟨cell_of_blk k1 0 _ rfl, cell_of_blk k1 1 _ rfl, cell_of_blk k1 2 _ rfl, cell_of_blk k2 0 _ rfl, cell_of_blk k2 1 _ rfl, cell_of_blk k2 2 _ rfl⟩
/-- The datum of the further slice. -/
def DtE (w : World) (g : Nat) (V : World) : Prop := SlD (.slice (some ⟨g, 0, none⟩) 1 1) [dE 1] V ∧ w.heap.size < g
theorem DtE.keep {w V V' : World} {g : Nat} (h : DtE w g V) (hb : Below V.heap.size V V') : DtE w g V' := ⟨h.1.keep hb, h.2⟩
theorem DtE.new {w V : World} (h : ExW w V) : DtE w V.heap.size (V.alloc (.cells #[.string ⟨#[]⟩, .int .i64 1, .int .i64 1] 65)) := ⟨sldE_new (dE 1) V _, h.lt0⟩
theorem setE4 {W : World} {q : Nat} {o0 o1 o2 o3 : Value} {t : TypeId} (a b c d : Value) (h : W.heap[q]? = some (Obj.cells #[o0, o1, o2, o3] t (0, 0))) : (fourE W q a b c d).heap[q]? = some (Obj.cells #[a, b, c, d] t (0, 0)) := by
  have h1 := heap_setCell_same W q 0 _ _ a h
  have h2 := heap_setCell_same _ q 1 _ _ b h1
  have h3 := heap_setCell_same _ q 2 _ _ c h2
  exact heap_setCell_same _ q 3 _ _ d h3
theorem belE4 {n : Nat} {w W : World} {q : Nat} (h : Below n w W) (hq : n ≤ q) (a b c d : Value) : Below n w (fourE W q a b c d) :=
  ((((h.setCell (p := ⟨q, 0, none⟩) hq a).setCell (p := ⟨q, 1, none⟩) hq b).setCell (p := ⟨q, 2, none⟩) hq c).setCell (p := ⟨q, 3, none⟩) hq d)
theorem Sd.In.four {s : Sd} {W : World} {q : Nat} (h : s.In W) (hf : FrS (q + 1) s) (a b c d : Value) : s.In (fourE W q a b c d) := by
  obtain ⟨a', b', h1, h2, h3, h4⟩ := hf
  obtain ⟨⟨hx, hs, hA⟩, hn, hg, hz, hl⟩ := h
  refine ⟨⟨hx, hs, ?_⟩, hn, ?_, hz, hl⟩
  · have hA' : SlD (.slice s.p s.n s.c) s.l W := hA
    show SlD (.slice s.p s.n s.c) s.l _
    rw [h1] at hA' ⊢
    exact sldE_other hA' (by rw [fourE_size]; omega) (fourE_other _ _ _ (by omega) _ _ _ _)
  · have hA' : SlG (.slice s.q s.m s.d) s.g W := hg
    show SlG (.slice s.q s.m s.d) s.g _
    rw [h2] at hA' ⊢
    exact slgE_other hA' (by rw [fourE_size]; omega) (fourE_other _ _ _ (by omega) _ _ _ _)
theorem slkE_new (s1 s2 s3 : Sd) (W V : World) (t : TypeId) (h1 : s1.In V) (h2 : s2.In V) (h3 : s3.In V) (hV : W.alloc (.cells #[.string s1.x, .int .i64 s1.t, .int .i64 s1.f, .slice s1.p s1.n s1.c, .slice s1.q s1.m s1.d, .string s2.x, .int .i64 s2.t, .int .i64 s2.f, .slice s2.p s2.n s2.c, .slice s2.q s2.m s2.d, .string s3.x, .int .i64 s3.t, .int .i64 s3.f, .slice s3.p s3.n s3.c, .slice s3.q s3.m s3.d] t) = V) : SlK (.slice (some ⟨W.heap.size, 0, none⟩) 3 3) [s1, s2, s3] V := by
  refine ⟨.inr ⟨W.heap.size, 0, 3, rfl, by rw [← hV]; simp, fun m u hm => ?_⟩, fun s hs => ?_⟩
  · subst hV
    have hm' : (#[Value.string s1.x, .int .i64 s1.t, .int .i64 s1.f, .slice s1.p s1.n s1.c, .slice s1.q s1.m s1.d, .string s2.x, .int .i64 s2.t, .int .i64 s2.f, .slice s2.p s2.n s2.c, .slice s2.q s2.m s2.d, .string s3.x, .int .i64 s3.t, .int .i64 s3.f, .slice s3.p s3.n s3.c, .slice s3.q s3.m s3.d] : Array Value)[m]? = some u := by
      rw [← Array.getElem?_toList]
      exact hm
    rw [Nat.zero_add]
    exact cell_of_blk (heap_alloc_new W _) m u hm'
  · rcases List.mem_cons.1 hs with rfl | hs
    · exact h1
    · rcases List.mem_cons.1 hs with rfl | hs
      · exact h2
      · rw [List.mem_singleton.1 hs]
        exact h3
/-- What stands at the end. -/
structure ExV (w : World) (b g : Nat) (s1 s2 s3 : Sd) (V : World) : Prop where
  k : SlK (.slice (some ⟨b, 0, none⟩) 3 3) [s1, s2, s3] V
  d : SlD (.slice (some ⟨g, 0, none⟩) 1 1) [dE 1] V
  bel : Below w.heap.size w V
  h : V.heap[w.heap.size]? = some (Obj.cells #[.string ⟨#[46]⟩, .int .i64 6, .int .i64 0, .slice (some ⟨g, 0, none⟩) 1 1] 25 (0, 0))
def rowE (s1 s2 s3 : Sd) : Obj := .cells #[.string s1.x, .int .i64 s1.t, .int .i64 s1.f, .slice s1.p s1.n s1.c, .slice s1.q s1.m s1.d, .string s2.x, .int .i64 s2.t, .int .i64 s2.f, .slice s2.p s2.n s2.c, .slice s2.q s2.m s2.d, .string s3.x, .int .i64 s3.t, .int .i64 s3.f, .slice s3.p s3.n s3.c, .slice s3.q s3.m s3.d] 37
def setE (W : World) (q g : Nat) : World := fourE W q (.string ⟨#[46]⟩) (.int .i64 6) (.int .i64 0) (.slice (some ⟨g, 0, none⟩) 1 1)
theorem setE_size (W : World) (q g : Nat) : (setE W q g).heap.size = W.heap.size := fourE_size _ _ _ _ _ _
theorem ex_i {w W : World} {s1 s2 s3 : Sd} (hE : ExW w W) (h1 : s1.In W) (h2 : s2.In W) (h3 : s3.In W) (f1 : FrS (w.heap.size + 1) s1) (f2 : FrS (w.heap.size + 1) s2) (f3 : FrS (w.heap.size + 1) s3) :
    ExV w W.heap.size (W.heap.size + 1) s1 s2 s3 (((setE W w.heap.size (W.heap.size + 1)).alloc (rowE s1 s2 s3)).alloc (.cells #[.string ⟨#[]⟩, .int .i64 1, .int .i64 1] 65)) := by
  have lt := hE.lt0
  have g1 := h1.four f1 (.string ⟨#[46]⟩) (.int .i64 6) (.int .i64 0) (.slice (some ⟨W.heap.size + 1, 0, none⟩) 1 1)
  have g2 := h2.four f2 (.string ⟨#[46]⟩) (.int .i64 6) (.int .i64 0) (.slice (some ⟨W.heap.size + 1, 0, none⟩) 1 1)
  have g3 := h3.four f3 (.string ⟨#[46]⟩) (.int .i64 6) (.int .i64 0) (.slice (some ⟨W.heap.size + 1, 0, none⟩) 1 1)
  have hb := belE4 hE.bel (Nat.le_refl _) (.string ⟨#[46]⟩) (.int .i64 6) (.int .i64 0) (.slice (some ⟨W.heap.size + 1, 0, none⟩) 1 1)
  have hh := setE4 (.string ⟨#[46]⟩) (.int .i64 6) (.int .i64 0) (.slice (some ⟨W.heap.size + 1, 0, none⟩) 1 1) hE.h0
  have hz := setE_size W w.heap.size (W.heap.size + 1)
  unfold setE at hz ⊢
  obtain ⟨F, hF⟩ : ∃ F, fourE W w.heap.size (.string ⟨#[46]⟩) (.int .i64 6) (.int .i64 0) (.slice (some ⟨W.heap.size + 1, 0, none⟩) 1 1) = F := ⟨_, rfl⟩
  rw [hF] at g1 g2 g3 hb hh hz ⊢
  rw [← hz]
  rw [← hz] at lt
  have b1 := bnewE F (rowE s1 s2 s3)
  have k := slkE_new s1 s2 s3 F _ 37 (g1.keep b1) (g2.keep b1) (g3.keep b1) rfl
  have z1 : (F.alloc (rowE s1 s2 s3)).heap.size = F.heap.size + 1 := by simp
  have b2 := bnewE (F.alloc (rowE s1 s2 s3)) (.cells #[.string ⟨#[]⟩, .int .i64 1, .int .i64 1] 65)
  have d := sldE_new (dE 1) (F.alloc (rowE s1 s2 s3)) 65
  rw [z1] at d
  rw [← hz] at hh
  exact ⟨k.keep b2, d, hb.trans ((b1.trans (b2.mono b1.size)).mono hb.size), ((b1.trans (b2.mono b1.size)).block _ lt).trans hh⟩
theorem ex_ii {w W : World} {s1 s2 s3 : Sd} (hE : ExW w W) (h1 : s1.In W) (h2 : s2.In W) (h3 : s3.In W) (f1 : FrS (w.heap.size + 1) s1) (f2 : FrS (w.heap.size + 1) s2) (f3 : FrS (w.heap.size + 1) s3) :
    ExV w (W.heap.size + 1) W.heap.size s1 s2 s3 (((setE W w.heap.size W.heap.size).alloc (.cells #[.string ⟨#[]⟩, .int .i64 1, .int .i64 1] 65)).alloc (rowE s1 s2 s3)) := by
  have lt := hE.lt0
  have g1 := h1.four f1 (.string ⟨#[46]⟩) (.int .i64 6) (.int .i64 0) (.slice (some ⟨W.heap.size, 0, none⟩) 1 1)
  have g2 := h2.four f2 (.string ⟨#[46]⟩) (.int .i64 6) (.int .i64 0) (.slice (some ⟨W.heap.size, 0, none⟩) 1 1)
  have g3 := h3.four f3 (.string ⟨#[46]⟩) (.int .i64 6) (.int .i64 0) (.slice (some ⟨W.heap.size, 0, none⟩) 1 1)
  have hb := belE4 hE.bel (Nat.le_refl _) (.string ⟨#[46]⟩) (.int .i64 6) (.int .i64 0) (.slice (some ⟨W.heap.size, 0, none⟩) 1 1)
  have hh := setE4 (.string ⟨#[46]⟩) (.int .i64 6) (.int .i64 0) (.slice (some ⟨W.heap.size, 0, none⟩) 1 1) hE.h0
  have hz := setE_size W w.heap.size W.heap.size
  unfold setE at hz ⊢
  obtain ⟨F, hF⟩ : ∃ F, fourE W w.heap.size (.string ⟨#[46]⟩) (.int .i64 6) (.int .i64 0) (.slice (some ⟨W.heap.size, 0, none⟩) 1 1) = F := ⟨_, rfl⟩
  rw [hF] at g1 g2 g3 hb hh hz ⊢
  rw [← hz]
  rw [← hz] at lt
  have b1 := bnewE F (.cells #[.string ⟨#[]⟩, .int .i64 1, .int .i64 1] 65)
  have z1 : (F.alloc (.cells #[.string ⟨#[]⟩, .int .i64 1, .int .i64 1] 65)).heap.size = F.heap.size + 1 := by simp
  have d := sldE_new (dE 1) F 65
  have b2 := bnewE (F.alloc (.cells #[.string ⟨#[]⟩, .int .i64 1, .int .i64 1] 65)) (rowE s1 s2 s3)
  have b12 := b1.trans (b2.mono b1.size)
  have k := slkE_new s1 s2 s3 (F.alloc (.cells #[.string ⟨#[]⟩, .int .i64 1, .int .i64 1] 65)) _ 37 (g1.keep b12) (g2.keep b12) (g3.keep b12) rfl
  rw [z1] at k
  rw [← hz] at hh
  exact ⟨k, d.keep b2, hb.trans (b12.mono hb.size), (b12.block _ lt).trans hh⟩
theorem ex_iii {w W : World} {s1 s2 s3 : Sd} {g : Nat} (hE : ExW w W) (hd : DtE w g W) (h1 : s1.In W) (h2 : s2.In W) (h3 : s3.In W) (f1 : FrS (w.heap.size + 1) s1) (f2 : FrS (w.heap.size + 1) s2) (f3 : FrS (w.heap.size + 1) s3) :
    ExV w W.heap.size g s1 s2 s3 ((setE W w.heap.size g).alloc (rowE s1 s2 s3)) := by
  have lt := hE.lt0
  have g1 := h1.four f1 (.string ⟨#[46]⟩) (.int .i64 6) (.int .i64 0) (.slice (some ⟨g, 0, none⟩) 1 1)
  have g2 := h2.four f2 (.string ⟨#[46]⟩) (.int .i64 6) (.int .i64 0) (.slice (some ⟨g, 0, none⟩) 1 1)
  have g3 := h3.four f3 (.string ⟨#[46]⟩) (.int .i64 6) (.int .i64 0) (.slice (some ⟨g, 0, none⟩) 1 1)
  have hb := belE4 hE.bel (Nat.le_refl _) (.string ⟨#[46]⟩) (.int .i64 6) (.int .i64 0) (.slice (some ⟨g, 0, none⟩) 1 1)
  have hh := setE4 (.string ⟨#[46]⟩) (.int .i64 6) (.int .i64 0) (.slice (some ⟨g, 0, none⟩) 1 1) hE.h0
  have hz := setE_size W w.heap.size g
  have d := sldE_other hd.1 (Nat.le_of_eq hz.symm) (fourE_other W w.heap.size g (by have := hd.2; omega) (.string ⟨#[46]⟩) (.int .i64 6) (.int .i64 0) (.slice (some ⟨g, 0, none⟩) 1 1))
  unfold setE at hz ⊢
  obtain ⟨F, hF⟩ : ∃ F, fourE W w.heap.size (.string ⟨#[46]⟩) (.int .i64 6) (.int .i64 0) (.slice (some ⟨g, 0, none⟩) 1 1) = F := ⟨_, rfl⟩
  have d' : SlD (.slice (some ⟨g, 0, none⟩) 1 1) [dE 1] F := by
    rw [← hF]
    exact d
  rw [hF] at g1 g2 g3 hb hh hz ⊢
  rw [← hz]
  rw [← hz] at lt
  have b1 := bnewE F (rowE s1 s2 s3)
  have k := slkE_new s1 s2 s3 F _ 37 (g1.keep b1) (g2.keep b1) (g3.keep b1) rfl
  exact ⟨k, d'.keep b1, hb.trans (b1.mono hb.size), (b1.block _ lt).trans hh⟩
theorem sg1 : signB ⟨⟨#[120]⟩, 6, 9, .slice none 0 0, [dE 2]⟩ ⟨#[46]⟩ 1 1 0 100 = true := by kernel_rfl
theorem sg2 : signB ⟨⟨#[46]⟩, 7, 9, .slice none 0 0, [dE 1]⟩ ⟨#[46]⟩ 1 1 0 100 = true := by kernel_rfl
theorem sg3 : signB ⟨⟨#[120]⟩, 7, 9, .slice none 0 0, [dE 2]⟩ ⟨#[120]⟩ 2 1 0 100 = true := by kernel_rfl

set_option maxHeartbeats 4000000 in
set_option maxRecDepth 100000 in
theorem example_any (w : World) (hr : RulesAt w) : Calls Tryd.prog 29 #[] w (ExTo w) := by
  have hnew := ExW.new w
  obtain ⟨W, hW⟩ : ∃ W, (((w.alloc (.cells #[.string ⟨#[]⟩, .int .i64 0, .int .i64 0, .slice none 0 0] 25)).alloc (.cells #[.string ⟨#[]⟩, .int .i64 1, .int .i64 1] 65)).alloc (.cells #[.string ⟨#[]⟩, .int .i64 2, .int .i64 1] 65)) = W := ⟨_, rfl⟩
  rw [hW] at hnew
  have HW := Lib.hid hW
  clear hW
  have HE : Hid (ExW w W.drew) := Lib.hid (hnew.keep (below_drewD (Below.refl _ W) 1))
  have HN := Lib.hid hnew
  have hep0 := hnew.keep (bnewE W (.cells #[.string (dE 1).1, .int .i64 (dE 1).2.1, .int .i64 (dE 1).2.2] 65))
  have HEP : Hid (ExW w (W.alloc (.cells #[.string ⟨#[]⟩, .int .i64 1, .int .i64 1] 65)).drew) := Lib.hid (hep0.keep (below_drewD (Below.refl _ _) 1))
  have HDP : Hid (DtE w W.heap.size (W.alloc (.cells #[.string ⟨#[]⟩, .int .i64 1, .int .i64 1] 65)).drew) := Lib.hid ((DtE.new hnew).keep (below_drewD (Below.refl _ _) 1))
  clear hep0
  have HR := Lib.hid hr
  have C1 : Hid (∀ V, ExW w V → Calls Tryd.prog 63 #[.string ⟨#[120]⟩, .int .i64 6, .string ⟨#[46]⟩, .int .i64 1, .agg #[.string ⟨#[]⟩, .int .i64 2, .int .i64 1]] V (SigTo ⟨#[120]⟩ 6 ⟨#[46]⟩ 1 (dE 2) V)) := Lib.hid (fun V h => signed_lit ⟨#[120]⟩ 6 ⟨#[46]⟩ 1 (dE 2) V (HR.out.keep h.bel) (by decide) (by decide) (by decide) sg1)
  have C2 : Hid (∀ V, ExW w V → Calls Tryd.prog 63 #[.string ⟨#[46]⟩, .int .i64 7, .string ⟨#[46]⟩, .int .i64 1, .agg #[.string ⟨#[]⟩, .int .i64 1, .int .i64 1]] V (SigTo ⟨#[46]⟩ 7 ⟨#[46]⟩ 1 (dE 1) V)) := Lib.hid (fun V h => signed_lit ⟨#[46]⟩ 7 ⟨#[46]⟩ 1 (dE 1) V (HR.out.keep h.bel) (by decide) (by decide) (by decide) sg2)
  have C3 : Hid (∀ V, ExW w V → Calls Tryd.prog 63 #[.string ⟨#[120]⟩, .int .i64 7, .string ⟨#[120]⟩, .int .i64 2, .agg #[.string ⟨#[]⟩, .int .i64 2, .int .i64 1]] V (SigTo ⟨#[120]⟩ 7 ⟨#[120]⟩ 2 (dE 2) V)) := Lib.hid (fun V h => signed_lit ⟨#[120]⟩ 7 ⟨#[120]⟩ 2 (dE 2) V (HR.out.keep h.bel) (by decide) (by decide) (by decide) sg3)
  go_enter Tryd.func29, Tryd.ntmps29
  go_upto_region 2 with fail
  simp only [Nat.add_assoc, Nat.reduceAdd]
  rw [HW.out]
  have a0 := cell_of_blk HN.out.h1 0 (.string ⟨#[]⟩) rfl
  have a1 := cell_of_blk HN.out.h1 1 (.int .i64 1) rfl
  have a2 := cell_of_blk HN.out.h1 2 (.int .i64 1) rfl
  have b0 := cell_of_blk HN.out.h2 0 (.string ⟨#[]⟩) rfl
  have b1 := cell_of_blk HN.out.h2 1 (.int .i64 2) rfl
  have b2 := cell_of_blk HN.out.h2 2 (.int .i64 1) rfl
  have c0 := cell_of_blk HN.out.h0 0 (.string ⟨#[]⟩) rfl
  have c1 := cell_of_blk HN.out.h0 1 (.int .i64 0) rfl
  have c2 := cell_of_blk HN.out.h0 2 (.int .i64 0) rfl
  have c3 := cell_of_blk HN.out.h0 3 (.slice none 0 0) rfl
  have rf0 := frozen_of_blk HN.out.h0 0
  have rf1 := frozen_of_blk HN.out.h0 1
  have rf2 := frozen_of_blk HN.out.h0 2
  have rf3 := frozen_of_blk HN.out.h0 3
  have q0 := HN.out.lt0
  have q1 := HN.out.lt1
  have q2 := HN.out.lt
  go_region_held3 (fun w' => w'.cell? ⟨w.heap.size + 1, 0, none⟩ = some (.string ⟨#[]⟩) ∧ w'.cell? ⟨w.heap.size + 1, 1, none⟩ = some (.int .i64 1) ∧ w'.cell? ⟨w.heap.size + 1, 2, none⟩ = some (.int .i64 1) ∧ w'.cell? ⟨w.heap.size + 2, 0, none⟩ = some (.string ⟨#[]⟩) ∧ w'.cell? ⟨w.heap.size + 2, 1, none⟩ = some (.int .i64 2) ∧ w'.cell? ⟨w.heap.size + 2, 2, none⟩ = some (.int .i64 1)) (first | go_keep | exact ExW.fin HE.out _ _ _ _ _ _ | exact ExW.fin1 HE.out _ _ _ _ _)
    (first | (go_at_call 63; (with_reducible refine (C1.out _ HE.out).mono ?_); rintro e w1 ⟨s1, rfl, hi1, hf1, hn1, hb⟩; (try replace HD := Lib.hid (HD.out.keep hb)); have F1 := Lib.hid (hf1.mono (HE.out).lt0); replace HE := Lib.hid (HE.out.keep hb); have I1 := Lib.hid hn1; have J1 := Lib.hid hi1; clear hb hn1 hi1 hf1 a0 a1 a2 b0 b1 b2 c0 c1 c2 c3 rf0 rf1 rf2 rf3 q0 q1 q2; have a0 := cell_of_blk HE.out.h1 0 (.string ⟨#[]⟩) rfl; have a1 := cell_of_blk HE.out.h1 1 (.int .i64 1) rfl; have a2 := cell_of_blk HE.out.h1 2 (.int .i64 1) rfl; have b0 := cell_of_blk HE.out.h2 0 (.string ⟨#[]⟩) rfl; have b1 := cell_of_blk HE.out.h2 1 (.int .i64 2) rfl; have b2 := cell_of_blk HE.out.h2 2 (.int .i64 1) rfl; have c0 := cell_of_blk HE.out.h0 0 (.string ⟨#[]⟩) rfl; have c1 := cell_of_blk HE.out.h0 1 (.int .i64 0) rfl; have c2 := cell_of_blk HE.out.h0 2 (.int .i64 0) rfl; have c3 := cell_of_blk HE.out.h0 3 (.slice none 0 0) rfl; have rf0 := frozen_of_blk HE.out.h0 0; have rf1 := frozen_of_blk HE.out.h0 1; have rf2 := frozen_of_blk HE.out.h0 2; have rf3 := frozen_of_blk HE.out.h0 3; have q0 := HE.out.lt0; have q1 := HE.out.lt1; have q2 := HE.out.lt) | (go_at_call 63; (with_reducible refine (C1.out _ HEP.out).mono ?_); rintro e w1 ⟨s1, rfl, hi1, hf1, hn1, hb⟩; have HD := Lib.hid (HDP.out.keep hb); have F1 := Lib.hid (hf1.mono (HEP.out).lt0); replace HE := Lib.hid (HEP.out.keep hb); have I1 := Lib.hid hn1; have J1 := Lib.hid hi1; clear hb hn1 hi1 hf1 a0 a1 a2 b0 b1 b2 c0 c1 c2 c3 rf0 rf1 rf2 rf3 q0 q1 q2; have a0 := cell_of_blk HE.out.h1 0 (.string ⟨#[]⟩) rfl; have a1 := cell_of_blk HE.out.h1 1 (.int .i64 1) rfl; have a2 := cell_of_blk HE.out.h1 2 (.int .i64 1) rfl; have b0 := cell_of_blk HE.out.h2 0 (.string ⟨#[]⟩) rfl; have b1 := cell_of_blk HE.out.h2 1 (.int .i64 2) rfl; have b2 := cell_of_blk HE.out.h2 2 (.int .i64 1) rfl; have c0 := cell_of_blk HE.out.h0 0 (.string ⟨#[]⟩) rfl; have c1 := cell_of_blk HE.out.h0 1 (.int .i64 0) rfl; have c2 := cell_of_blk HE.out.h0 2 (.int .i64 0) rfl; have c3 := cell_of_blk HE.out.h0 3 (.slice none 0 0) rfl; have rf0 := frozen_of_blk HE.out.h0 0; have rf1 := frozen_of_blk HE.out.h0 1; have rf2 := frozen_of_blk HE.out.h0 2; have rf3 := frozen_of_blk HE.out.h0 3; have q0 := HE.out.lt0; have q1 := HE.out.lt1; have q2 := HE.out.lt) | (go_at_call 63; (with_reducible refine (C1.out _ (HE.out.keep (bnewE _ _))).mono ?_); rintro e w1 ⟨s1, rfl, hi1, hf1, hn1, hb⟩; have HD := Lib.hid ((DtE.new HE.out).keep hb); have F1 := Lib.hid (hf1.mono ((HE.out.keep (bnewE _ _))).lt0); replace HE := Lib.hid ((HE.out.keep (bnewE _ _)).keep hb); have I1 := Lib.hid hn1; have J1 := Lib.hid hi1; clear hb hn1 hi1 hf1 a0 a1 a2 b0 b1 b2 c0 c1 c2 c3 rf0 rf1 rf2 rf3 q0 q1 q2; have a0 := cell_of_blk HE.out.h1 0 (.string ⟨#[]⟩) rfl; have a1 := cell_of_blk HE.out.h1 1 (.int .i64 1) rfl; have a2 := cell_of_blk HE.out.h1 2 (.int .i64 1) rfl; have b0 := cell_of_blk HE.out.h2 0 (.string ⟨#[]⟩) rfl; have b1 := cell_of_blk HE.out.h2 1 (.int .i64 2) rfl; have b2 := cell_of_blk HE.out.h2 2 (.int .i64 1) rfl; have c0 := cell_of_blk HE.out.h0 0 (.string ⟨#[]⟩) rfl; have c1 := cell_of_blk HE.out.h0 1 (.int .i64 0) rfl; have c2 := cell_of_blk HE.out.h0 2 (.int .i64 0) rfl; have c3 := cell_of_blk HE.out.h0 3 (.slice none 0 0) rfl; have rf0 := frozen_of_blk HE.out.h0 0; have rf1 := frozen_of_blk HE.out.h0 1; have rf2 := frozen_of_blk HE.out.h0 2; have rf3 := frozen_of_blk HE.out.h0 3; have q0 := HE.out.lt0; have q1 := HE.out.lt1; have q2 := HE.out.lt) | (go_at_call 63; (with_reducible refine (C2.out _ HE.out).mono ?_); rintro e w2 ⟨s2, rfl, hi2, hf2, hn2, hb⟩; (try replace HD := Lib.hid (HD.out.keep hb)); have F2 := Lib.hid (hf2.mono (HE.out).lt0); replace HE := Lib.hid (HE.out.keep hb); have I1 := Lib.hid (I1.out.keep hb); have I2 := Lib.hid hn2; have J2 := Lib.hid hi2; clear hb hn2 hi2 hf2 a0 a1 a2 b0 b1 b2 c0 c1 c2 c3 rf0 rf1 rf2 rf3 q0 q1 q2; have a0 := cell_of_blk HE.out.h1 0 (.string ⟨#[]⟩) rfl; have a1 := cell_of_blk HE.out.h1 1 (.int .i64 1) rfl; have a2 := cell_of_blk HE.out.h1 2 (.int .i64 1) rfl; have b0 := cell_of_blk HE.out.h2 0 (.string ⟨#[]⟩) rfl; have b1 := cell_of_blk HE.out.h2 1 (.int .i64 2) rfl; have b2 := cell_of_blk HE.out.h2 2 (.int .i64 1) rfl; have c0 := cell_of_blk HE.out.h0 0 (.string ⟨#[]⟩) rfl; have c1 := cell_of_blk HE.out.h0 1 (.int .i64 0) rfl; have c2 := cell_of_blk HE.out.h0 2 (.int .i64 0) rfl; have c3 := cell_of_blk HE.out.h0 3 (.slice none 0 0) rfl; have rf0 := frozen_of_blk HE.out.h0 0; have rf1 := frozen_of_blk HE.out.h0 1; have rf2 := frozen_of_blk HE.out.h0 2; have rf3 := frozen_of_blk HE.out.h0 3; have q0 := HE.out.lt0; have q1 := HE.out.lt1; have q2 := HE.out.lt) | (go_at_call 63; (with_reducible refine (C2.out _ (HE.out.keep (bnewE _ _))).mono ?_); rintro e w2 ⟨s2, rfl, hi2, hf2, hn2, hb⟩; have HD := Lib.hid ((DtE.new HE.out).keep hb); have F2 := Lib.hid (hf2.mono ((HE.out.keep (bnewE _ _))).lt0); replace HE := Lib.hid ((HE.out.keep (bnewE _ _)).keep hb); have I1 := Lib.hid ((I1.out.keep (bnewE _ _)).keep hb); have I2 := Lib.hid hn2; have J2 := Lib.hid hi2; clear hb hn2 hi2 hf2 a0 a1 a2 b0 b1 b2 c0 c1 c2 c3 rf0 rf1 rf2 rf3 q0 q1 q2; have a0 := cell_of_blk HE.out.h1 0 (.string ⟨#[]⟩) rfl; have a1 := cell_of_blk HE.out.h1 1 (.int .i64 1) rfl; have a2 := cell_of_blk HE.out.h1 2 (.int .i64 1) rfl; have b0 := cell_of_blk HE.out.h2 0 (.string ⟨#[]⟩) rfl; have b1 := cell_of_blk HE.out.h2 1 (.int .i64 2) rfl; have b2 := cell_of_blk HE.out.h2 2 (.int .i64 1) rfl; have c0 := cell_of_blk HE.out.h0 0 (.string ⟨#[]⟩) rfl; have c1 := cell_of_blk HE.out.h0 1 (.int .i64 0) rfl; have c2 := cell_of_blk HE.out.h0 2 (.int .i64 0) rfl; have c3 := cell_of_blk HE.out.h0 3 (.slice none 0 0) rfl; have rf0 := frozen_of_blk HE.out.h0 0; have rf1 := frozen_of_blk HE.out.h0 1; have rf2 := frozen_of_blk HE.out.h0 2; have rf3 := frozen_of_blk HE.out.h0 3; have q0 := HE.out.lt0; have q1 := HE.out.lt1; have q2 := HE.out.lt) | (go_at_call 63; (with_reducible refine (C3.out _ HE.out).mono ?_); rintro e w3 ⟨s3, rfl, hi3, hf3, hn3, hb⟩; (try replace HD := Lib.hid (HD.out.keep hb)); have F3 := Lib.hid (hf3.mono (HE.out).lt0); replace HE := Lib.hid (HE.out.keep hb); have I1 := Lib.hid (I1.out.keep hb); have I2 := Lib.hid (I2.out.keep hb); have I3 := Lib.hid hn3; have J3 := Lib.hid hi3; clear hb hn3 hi3 hf3 a0 a1 a2 b0 b1 b2 c0 c1 c2 c3 rf0 rf1 rf2 rf3 q0 q1 q2; have a0 := cell_of_blk HE.out.h1 0 (.string ⟨#[]⟩) rfl; have a1 := cell_of_blk HE.out.h1 1 (.int .i64 1) rfl; have a2 := cell_of_blk HE.out.h1 2 (.int .i64 1) rfl; have b0 := cell_of_blk HE.out.h2 0 (.string ⟨#[]⟩) rfl; have b1 := cell_of_blk HE.out.h2 1 (.int .i64 2) rfl; have b2 := cell_of_blk HE.out.h2 2 (.int .i64 1) rfl; have c0 := cell_of_blk HE.out.h0 0 (.string ⟨#[]⟩) rfl; have c1 := cell_of_blk HE.out.h0 1 (.int .i64 0) rfl; have c2 := cell_of_blk HE.out.h0 2 (.int .i64 0) rfl; have c3 := cell_of_blk HE.out.h0 3 (.slice none 0 0) rfl; have rf0 := frozen_of_blk HE.out.h0 0; have rf1 := frozen_of_blk HE.out.h0 1; have rf2 := frozen_of_blk HE.out.h0 2; have rf3 := frozen_of_blk HE.out.h0 3; have q0 := HE.out.lt0; have q1 := HE.out.lt1; have q2 := HE.out.lt) | (go_at_call 63; (with_reducible refine (C3.out _ (HE.out.keep (bnewE _ _))).mono ?_); rintro e w3 ⟨s3, rfl, hi3, hf3, hn3, hb⟩; have HD := Lib.hid ((DtE.new HE.out).keep hb); have F3 := Lib.hid (hf3.mono ((HE.out.keep (bnewE _ _))).lt0); replace HE := Lib.hid ((HE.out.keep (bnewE _ _)).keep hb); have I1 := Lib.hid ((I1.out.keep (bnewE _ _)).keep hb); have I2 := Lib.hid ((I2.out.keep (bnewE _ _)).keep hb); have I3 := Lib.hid hn3; have J3 := Lib.hid hi3; clear hb hn3 hi3 hf3 a0 a1 a2 b0 b1 b2 c0 c1 c2 c3 rf0 rf1 rf2 rf3 q0 q1 q2; have a0 := cell_of_blk HE.out.h1 0 (.string ⟨#[]⟩) rfl; have a1 := cell_of_blk HE.out.h1 1 (.int .i64 1) rfl; have a2 := cell_of_blk HE.out.h1 2 (.int .i64 1) rfl; have b0 := cell_of_blk HE.out.h2 0 (.string ⟨#[]⟩) rfl; have b1 := cell_of_blk HE.out.h2 1 (.int .i64 2) rfl; have b2 := cell_of_blk HE.out.h2 2 (.int .i64 1) rfl; have c0 := cell_of_blk HE.out.h0 0 (.string ⟨#[]⟩) rfl; have c1 := cell_of_blk HE.out.h0 1 (.int .i64 0) rfl; have c2 := cell_of_blk HE.out.h0 2 (.int .i64 0) rfl; have c3 := cell_of_blk HE.out.h0 3 (.slice none 0 0) rfl; have rf0 := frozen_of_blk HE.out.h0 0; have rf1 := frozen_of_blk HE.out.h0 1; have rf2 := frozen_of_blk HE.out.h0 2; have rf3 := frozen_of_blk HE.out.h0 3; have q0 := HE.out.lt0; have q1 := HE.out.lt1; have q2 := HE.out.lt))
  all_goals clear C1 C2 C3 HW HN HEP HDP HR a0 a1 a2 b0 b1 b2 c0 c1 c2 c3 rf0 rf1 rf2 rf3 q0 q1 q2
  all_goals go_wp2
  · (have X := ex_i HE.out I1.out I2.out I3.out F1.out F2.out F3.out; unfold setE fourE rowE at X; have x0 := cell_of_blk X.h 0 (.string ⟨#[46]⟩) rfl; have x1 := cell_of_blk X.h 1 (.int .i64 6) rfl; have x2 := cell_of_blk X.h 2 (.int .i64 0) rfl; have x3 := cell_of_blk X.h 3 (.slice (some ⟨w3.heap.size + 1, 0, none⟩) 1 1) rfl; refine bodyPost_ret (v := .tuple #[.slice (some ⟨w3.heap.size, 0, none⟩) 3 3, .agg #[.string ⟨#[46]⟩, .int .i64 6, .int .i64 0, .slice (some ⟨w3.heap.size + 1, 0, none⟩) 1 1]]) (by simp [results, Tryd.f29, go_sem, x0, x1, x2, x3]) rfl ⟨_, s1, s2, s3, _, rfl, ⟨J1.out, J2.out, J3.out⟩, X.k, X.d, X.bel⟩)
  · (have X := ex_ii HE.out I1.out I2.out I3.out F1.out F2.out F3.out; unfold setE fourE rowE at X; have x0 := cell_of_blk X.h 0 (.string ⟨#[46]⟩) rfl; have x1 := cell_of_blk X.h 1 (.int .i64 6) rfl; have x2 := cell_of_blk X.h 2 (.int .i64 0) rfl; have x3 := cell_of_blk X.h 3 (.slice (some ⟨w3.heap.size, 0, none⟩) 1 1) rfl; refine bodyPost_ret (v := .tuple #[.slice (some ⟨w3.heap.size + 1, 0, none⟩) 3 3, .agg #[.string ⟨#[46]⟩, .int .i64 6, .int .i64 0, .slice (some ⟨w3.heap.size, 0, none⟩) 1 1]]) (by simp [results, Tryd.f29, go_sem, x0, x1, x2, x3]) rfl ⟨_, s1, s2, s3, _, rfl, ⟨J1.out, J2.out, J3.out⟩, X.k, X.d, X.bel⟩)
  · (have X := ex_iii HE.out HD.out I1.out I2.out I3.out F1.out F2.out F3.out; unfold setE fourE rowE at X; have x0 := cell_of_blk X.h 0 (.string ⟨#[46]⟩) rfl; have x1 := cell_of_blk X.h 1 (.int .i64 6) rfl; have x2 := cell_of_blk X.h 2 (.int .i64 0) rfl; have x3 := cell_of_blk X.h 3 (.slice (some ⟨w2.heap.size, 0, none⟩) 1 1) rfl; refine bodyPost_ret (v := .tuple #[.slice (some ⟨w3.heap.size, 0, none⟩) 3 3, .agg #[.string ⟨#[46]⟩, .int .i64 6, .int .i64 0, .slice (some ⟨w2.heap.size, 0, none⟩) 1 1]]) (by simp [results, Tryd.f29, go_sem, x0, x1, x2, x3]) rfl ⟨_, s1, s2, s3, _, rfl, ⟨J1.out, J2.out, J3.out⟩, X.k, X.d, X.bel⟩)
  · (have X := ex_iii HE.out HD.out I1.out I2.out I3.out F1.out F2.out F3.out; unfold setE fourE rowE at X; have x0 := cell_of_blk X.h 0 (.string ⟨#[46]⟩) rfl; have x1 := cell_of_blk X.h 1 (.int .i64 6) rfl; have x2 := cell_of_blk X.h 2 (.int .i64 0) rfl; have x3 := cell_of_blk X.h 3 (.slice (some ⟨w1.heap.size, 0, none⟩) 1 1) rfl; refine bodyPost_ret (v := .tuple #[.slice (some ⟨w3.heap.size, 0, none⟩) 3 3, .agg #[.string ⟨#[46]⟩, .int .i64 6, .int .i64 0, .slice (some ⟨w1.heap.size, 0, none⟩) 1 1]]) (by simp [results, Tryd.f29, go_sem, x0, x1, x2, x3]) rfl ⟨_, s1, s2, s3, _, rfl, ⟨J1.out, J2.out, J3.out⟩, X.k, X.d, X.bel⟩)
  · (have X := ex_iii HE.out HD.out I1.out I2.out I3.out F1.out F2.out F3.out; unfold setE fourE rowE at X; have x0 := cell_of_blk X.h 0 (.string ⟨#[46]⟩) rfl; have x1 := cell_of_blk X.h 1 (.int .i64 6) rfl; have x2 := cell_of_blk X.h 2 (.int .i64 0) rfl; have x3 := cell_of_blk X.h 3 (.slice (some ⟨W.heap.size, 0, none⟩) 1 1) rfl; refine bodyPost_ret (v := .tuple #[.slice (some ⟨w3.heap.size, 0, none⟩) 3 3, .agg #[.string ⟨#[46]⟩, .int .i64 6, .int .i64 0, .slice (some ⟨W.heap.size, 0, none⟩) 1 1]]) (by simp [results, Tryd.f29, go_sem, x0, x1, x2, x3]) rfl ⟨_, s1, s2, s3, _, rfl, ⟨J1.out, J2.out, J3.out⟩, X.k, X.d, X.bel⟩)
end Go.Proofs.YtkhckgknldiheaaDoor
