/- unite of package record at two sets of one datum each; no condition beyond those that each theorem names. -/
import Derived.Test.YtmnbcjchfbfngaaDoorM6
import Derived.Deep.CutRange
namespace Go.Proofs.YtmnbcjchfbfngaaDoor
set_option linter.unusedSimpArgs false
set_option linter.unusedVariables false
open Go.RowKit Go.Shelf
open NmP

/-- The boxes of unite. -/
structure UW (x : ByteArray) (t f : Int) (v : Value) (pre : List Dt) (w W : World) : Prop where
  bel : Below w.heap.size w W
  res : W.heap[w.heap.size]? = some (Obj.cells #[.string ⟨#[]⟩, .int .i64 0, .int .i64 0, .slice none 0 0] 24 (0, 0))
  box : W.heap[w.heap.size + 1]? = some (Obj.cells #[.string x, .int .i64 t, .int .i64 f, v] 24 (0, 0))
  own : W.ownsRow (w.heap.size + 2) 48 3 v pre.length (rowD pre)
theorem UW.lt {x : ByteArray} {t f : Int} {v : Value} {pre : List Dt} {w W : World} (h : UW x t f v pre w W) : w.heap.size + 1 < W.heap.size := (Array.getElem?_eq_some_iff.1 h.box).1
theorem uw0 (x : ByteArray) (t f : Int) (w : World) : UW x t f (.slice none 0 0) [] w ((w.alloc (.cells #[.string ⟨#[]⟩, .int .i64 0, .int .i64 0, .slice none 0 0] 24)).alloc (.cells #[.string x, .int .i64 t, .int .i64 f, .slice none 0 0] 24)) := by
  refine ⟨((Below.refl _ w).alloc (Nat.le_refl _) _).alloc (by simp) _, ?_, ?_, World.ownsRow_nil _ _ _ _⟩
  · rw [heap_alloc_old _ _ (by simp)]
    exact heap_alloc_new w _
  · have := heap_alloc_new (w.alloc (.cells #[.string ⟨#[]⟩, .int .i64 0, .int .i64 0, .slice none 0 0] 24)) (.cells #[.string x, .int .i64 t, .int .i64 f, .slice none 0 0] 24)
    rw [show (w.alloc (.cells #[.string ⟨#[]⟩, .int .i64 0, .int .i64 0, .slice none 0 0] 24)).heap.size = w.heap.size + 1 by simp] at this
    exact this
theorem UW.drew {x : ByteArray} {t f : Int} {v : Value} {pre : List Dt} {w W : World} (h : UW x t f v pre w W) : UW x t f v pre w W.drew := by
  obtain ⟨h1, h2, h3, h4⟩ := h
  exact ⟨below_drewD h1 1, h2, h3, h4⟩
theorem UW.drewN {x : ByteArray} {t f : Int} {v : Value} {pre : List Dt} {w W : World} (h : UW x t f v pre w W) (n : Nat) : UW x t f v pre w (W.drewN n) := by
  obtain ⟨h1, h2, h3, h4⟩ := h
  exact ⟨below_drewD h1 n, h2, h3, h4⟩
/-- Another lifetime, and one block more. -/
theorem UW.life {x : ByteArray} {t f : Int} {v : Value} {pre : List Dt} {w W : World} (h : UW x t f v pre w W) (o : Obj) (f' : Int) : UW x t f' v pre w ((W.setCell ⟨w.heap.size + 1, 2, none⟩ (.int .i64 f')).alloc o) := by
  have hl := h.lt
  have hs : (W.setCell ⟨w.heap.size + 1, 2, none⟩ (.int .i64 f')).heap.size = W.heap.size := by simp
  have e0 : (W.setCell ⟨w.heap.size + 1, 2, none⟩ (.int .i64 f')).heap[w.heap.size]? = _ := (heap_setCell_other W ⟨w.heap.size + 1, 2, none⟩ w.heap.size (.int .i64 f') (by simp)).trans h.res
  have e1 := heap_setCell_same W (w.heap.size + 1) 2 _ _ (.int .i64 f') h.box
  have bl := h.bel.setCell (p := ⟨w.heap.size + 1, 2, none⟩) (by simp) (.int .i64 f')
  exact ⟨bl.alloc bl.size o, (heap_alloc_old _ o (by omega)).trans e0, (heap_alloc_old _ o (by omega)).trans e1, (own1 h.own (by omega) _).alloc o⟩
theorem UW.grown {x : ByteArray} {t f : Int} {v : Value} {pre : List Dt} {w W w6 : World} (h : UW x t f v pre w W) (hg : W.grownBy w6 v.ownBlock) :
    w6.heap[w.heap.size + 1]? = some (Obj.cells #[.string x, .int .i64 t, .int .i64 f, v] 24 (0, 0)) := by
  have hl := h.lt
  refine (hg.block _ (by omega) (fun e => ?_)).trans h.box
  have := (h.own.lt _ e.symm).1
  omega
/-- One datum more. -/
theorem UW.push {x : ByteArray} {t f : Int} {v v' : Value} {pre : List Dt} {w W w6 : World} (d : Dt) (h : UW x t f v pre w W) (hown : w6.ownsRow (w.heap.size + 2) 48 3 v' (pre.length + 1) (rowD pre ++ valsD d)) (hg : W.grownBy w6 v.ownBlock) :
    UW x t f v' (pre ++ [d]) w (w6.setCell ⟨w.heap.size + 1, 3, none⟩ v') := by
  have hl := h.lt
  have hne : ∀ k, k < w.heap.size + 2 → some k ≠ v.ownBlock := fun k hk e => by
    have := (h.own.lt k e.symm).1
    omega
  have hB : ∀ k, k < w.heap.size + 2 → w6.heap[k]? = W.heap[k]? := fun k hk => hg.block k (by omega) (hne k hk)
  have b6 := (hB (w.heap.size + 1) (by omega)).trans h.box
  refine ⟨?_, (heap_setCell_other w6 ⟨w.heap.size + 1, 3, none⟩ _ _ (by simp)).trans ((hB _ (by omega)).trans h.res), heap_setCell_same w6 (w.heap.size + 1) 3 _ _ v' b6, ?_⟩
  · have b1 : Below w.heap.size w w6 := ⟨hg.os.trans h.bel.os, hg.tape.trans h.bel.tape, hg.output.trans h.bel.output, Nat.le_trans h.bel.size hg.size, fun k hk => (hB k (by omega)).trans (h.bel.block k hk)⟩
    exact b1.setCell (p := ⟨w.heap.size + 1, 3, none⟩) (by simp) _
  · rw [rowD_append, List.length_append]
    have hr : rowD [d] = valsD d := by simp [rowD]
    rw [hr]
    exact own1 hown (by omega) _
def UL (x : ByteArray) (t f1 f2 : Int) (d1 d2 : Dt) (w : World) (i : Nat) (vs : Value) (W : World) : Prop :=
  (i = 0 ∧ Hid (UW x t f1 vs [] w W)) ∨ (i = 1 ∧ Hid (UW x t f1 vs [d1] w W)) ∨ (i = 2 ∧ Hid (UW x t f2 vs [d1, d2] w W))
/-- What the sort of two data leaves. -/
def SortP (d1 d2 : Dt) (g : Nat) (w : World) (_ : Ending) (w' : World) : Prop := ∃ a b, srt2 d1 d2 = [a, b] ∧ ¬ a = b ∧ Row2 w' g a b ∧ w.grownBy w' (some g)
theorem sortP_of {d1 d2 : Dt} {g : Nat} {w w' : World} {e : Ending} (hne : ¬ d1 = d2) (h : (if lessI d2 d1 < 0 then SrtTo g d2 d1 w else SrtTo g d1 d2 w) e w') : e = .returned (.tuple #[]) ∧ SortP d1 d2 g w e w' := by
  by_cases q : lessI d2 d1 < 0
  · rw [if_pos q] at h
    exact ⟨h.1, d2, d1, if_pos q, fun k => hne k.symm, h.2.1, h.2.2⟩
  · rw [if_neg q] at h
    exact ⟨h.1, d1, d2, if_neg q, hne, h.2.1, h.2.2⟩
theorem sld1 {W : World} {q g c n j : Nat} {l : List Dt} (h : SlD (.slice (some ⟨g, 0, none⟩) n c) l W) (hne : q ≠ g) (a : Value) : SlD (.slice (some ⟨g, 0, none⟩) n c) l (W.setCell ⟨q, j, none⟩ a) := by
  rcases h with ⟨h1, p, c', h2⟩ | ⟨b', off, c', h1, h2, h3⟩
  · exact .inl ⟨h1, p, c', h2⟩
  · cases h1
    have k := heap_setCell_other W ⟨q, j, none⟩ g a (fun e => hne e.symm)
    exact .inr ⟨g, 0, c, rfl, by simpa using h2, fun m u hm => by rw [World.cell?_of_block k]; exact h3 m u hm⟩
theorem sld4 {W : World} {q g c n : Nat} {l : List Dt} (h : SlD (.slice (some ⟨g, 0, none⟩) n c) l W) (hne : q ≠ g) (a b d e : Value) : SlD (.slice (some ⟨g, 0, none⟩) n c) l ((((W.setCell ⟨q, 0, none⟩ a).setCell ⟨q, 1, none⟩ b).setCell ⟨q, 2, none⟩ d).setCell ⟨q, 3, none⟩ e) :=
  sld1 (sld1 (sld1 (sld1 h hne a) hne b) hne d) hne e
/-- What unite returns. -/
def UniTo (x : ByteArray) (t f : Int) (d1 d2 : Dt) (w : World) (e : Ending) (w' : World) : Prop :=
  (((ruleOf t.toNat).one = true ∧ e = .returned (.tuple #[.agg #[.string ⟨#[]⟩, .int .i64 0, .int .i64 0, .slice none 0 0], .int .i64 35])) ∨
   ((ruleOf t.toNat).one = false ∧ ∃ g cap, e = .returned (.tuple #[.agg #[.string x, .int .i64 t, .int .i64 f, .slice (some ⟨g, 0, none⟩) 2 cap], .int .i64 0]) ∧ SlD (.slice (some ⟨g, 0, none⟩) 2 cap) (srt2 d1 d2) w')) ∧ Below w.heap.size w w'

set_option maxHeartbeats 4000000 in
set_option maxRecDepth 100000 in
theorem unite2 (x : ByteArray) (t f1 f2 : Int) (p1 p2 : Option Addr) (c1 c2 : Nat) (d1 d2 : Dt) (g0 cap : Nat) (w : World) (hg : g0 < w.heap.size) (hR : RT g0 0 [⟨x, t, f1, p1, 1, c1⟩, ⟨x, t, f2, p2, 1, c2⟩] w)
    (h1 : SlD (.slice p1 1 c1) [d1] w) (h2 : SlD (.slice p2 1 c2) [d2] w) (hne : ¬ d1 = d2) (ht1 : 1 ≤ t) (ht8 : t ≤ 8) (hle : f2 ≤ f1) (hr : RulesAt w) :
    Calls Tryd.prog 27 #[.slice (some ⟨g0, 0, none⟩) 2 cap] w (UniTo x t f2 d1 d2 w) := by
  obtain ⟨a0, a1, a2, a3⟩ := hR.at_ (i := 0) rfl
  have HR := Lib.hid hR
  have H1 := Lib.hid h1
  have H2 := Lib.hid h2
  have HRU := Lib.hid hr
  have HNE := Lib.hid hne
  have HU0 := Lib.hid (uw0 x t f1 w).drew
  simp only [Nat.zero_mul, Nat.one_mul, Nat.zero_add, Nat.add_zero, Nat.reduceAdd] at a0 a1 a2 a3
  have e0 := cell_kept a0 (World.grownBy_alloc w (.cells #[.string ⟨#[]⟩, .int .i64 0, .int .i64 0, .slice none 0 0] 24) none) (fun r e => by cases e)
  have e1 := cell_kept a1 (World.grownBy_alloc w (.cells #[.string ⟨#[]⟩, .int .i64 0, .int .i64 0, .slice none 0 0] 24) none) (fun r e => by cases e)
  have e2 := cell_kept a2 (World.grownBy_alloc w (.cells #[.string ⟨#[]⟩, .int .i64 0, .int .i64 0, .slice none 0 0] 24) none) (fun r e => by cases e)
  clear hR h1 h2 hr hne a3
  go_enter Tryd.func27, Tryd.ntmps27
  go_wp2
  go_region
  clear a0 a1 a2 e0 e1 e2
  obtain ⟨i0, hi, hz0, hz1, hz2⟩ := info_parts infoDD
  have HI := Lib.hid hi
  have HZ0 := Lib.hid hz0
  have HZ1 := Lib.hid hz1
  have HZ2 := Lib.hid hz2
  clear hi hz0 hz1 hz2
  generalize World.drew _ = W1 at *
  go_wp2
  go_loopw [6, 22] (fun s6 s22 wr => ∃ (i : Nat) (vs : Value), s22 = .int .i64 i ∧ UL x t f1 f2 d1 d2 w i vs wr) (fun _ s22 _ => 2 - (intOf s22).toNat)
  case atStart => exact ⟨0, _, rfl, .inl ⟨rfl, HU0⟩⟩
  case round =>
    obtain ⟨i, vs, rfl, hul⟩ := hrel
    rcases hul with ⟨rfl, HU⟩ | ⟨rfl, HU⟩ | ⟨rfl, HU⟩
    · have hR2 := (HR.out.keep hg HU.out.bel).at_ (i := 0) rfl
      obtain ⟨y0, y1, y2, y3⟩ := hR2
      simp only [Nat.zero_mul, Nat.one_mul, Nat.zero_add, Nat.add_zero, Nat.reduceAdd] at y0 y1 y2 y3
      have hD := H1.out.keep HU.out.bel
      obtain ⟨bb, bo, hp, hbb, hRD⟩ := hD.at_ (by simp)
      have hbw : bb < w.heap.size := by
        obtain ⟨bb2, bo2, hp2, hbb2, _⟩ := H1.out.at_ (by simp)
        rw [hp] at hp2
        cases hp2
        exact hbb2
      subst hp
      clear hD
      have HRD := Lib.hid hRD
      clear hRD
      have b0 := cell_of_blk HU.out.box 0 (.string x) rfl
      have b1 := cell_of_blk HU.out.box 1 (.int .i64 t) rfl
      have b2 := cell_of_blk HU.out.box 2 (.int .i64 f1) rfl
      have b3 := cell_of_blk HU.out.box 3 vs rfl
      have bf2 := frz HU.out.box 2
      have bf3 := frz HU.out.box 3
      have z1 := HU.out.lt
      have HU2 := Lib.hid (HU.out.life (.cells #[.string x, .int .i64 t, .int .i64 f1, .slice (some ⟨bb, bo, none⟩) 1 c1] 24) f1)
      have HN : Hid (∀ (j : Nat) (u : Value), (valsD d1)[j]? = some u → ((wr.setCell ⟨w.heap.size + 1, 2, none⟩ (.int .i64 f1)).alloc (.cells #[.string x, .int .i64 t, .int .i64 f1, .slice (some ⟨bb, bo, none⟩) 1 c1] 24)).cell? ((⟨bb, bo, none⟩ : Addr).add j) = some u) := Lib.hid (fun j u hj => by
        rw [Go.WideShapes.add_plain]
        have k1 : wr.cell? ⟨bb, bo + j, none⟩ = some u := HRD.out j u (by simpa [rowD] using hj)
        refine cell_kept (row := none) ?_ (World.grownBy_alloc _ _ _) (fun r e => by cases e)
        rw [World.cell?_of_block (heap_setCell_other wr ⟨w.heap.size + 1, 2, none⟩ bb _ (by show bb ≠ w.heap.size + 1; omega))]
        exact k1)
      go_wp2_with (at_builtin; refine wpList_append_own _ rfl (.tmp 33) (.tmp 35) 22 rfl (w.heap.size + 2) 48 i0 zDD 3 32 Tryd.underlying22 HI.out HZ0.out HZ1.out HZ2.out rfl (by decide) vs 0 (rowD []) rfl HU2.out.own ⟨bb, bo, none⟩ 1 c1 (valsD d1) rfl rfl HN.out (one_d _) (by decide) (by decide) (by simp; omega) ?_; intro v' w6 hown hgrow hiff; clear hiff; have hbx6 := HU2.out.grown hgrow; have b3 := cell_of_blk hbx6 3 vs rfl; have bf3 := frz hbx6 3; clear hbx6; have hw6 := HU2.out.push d1 hown hgrow; obtain ⟨g2, cap2, cur2, rfl, _, _, _, _⟩ := own_data hown (by omega); clear hown hgrow; have HW6 := Lib.hid hw6; clear hw6)
      go_roundw
      case rel => exact ⟨1, _, rfl, .inr (.inl ⟨rfl, HW6⟩)⟩
      case measure => simp [intOf]
    · have hmn : min f1 f2 = f2 := by omega
      have hR2 := (HR.out.keep hg HU.out.bel).at_ (i := 1) rfl
      obtain ⟨y0, y1, y2, y3⟩ := hR2
      simp only [Nat.zero_mul, Nat.one_mul, Nat.zero_add, Nat.add_zero, Nat.reduceAdd] at y0 y1 y2 y3
      have hD := H2.out.keep HU.out.bel
      obtain ⟨bb, bo, hp, hbb, hRD⟩ := hD.at_ (by simp)
      have hbw : bb < w.heap.size := by
        obtain ⟨bb2, bo2, hp2, hbb2, _⟩ := H2.out.at_ (by simp)
        rw [hp] at hp2
        cases hp2
        exact hbb2
      subst hp
      clear hD
      have HRD := Lib.hid hRD
      clear hRD
      have b0 := cell_of_blk HU.out.box 0 (.string x) rfl
      have b1 := cell_of_blk HU.out.box 1 (.int .i64 t) rfl
      have b2 := cell_of_blk HU.out.box 2 (.int .i64 f1) rfl
      have b3 := cell_of_blk HU.out.box 3 vs rfl
      have bf2 := frz HU.out.box 2
      have bf3 := frz HU.out.box 3
      have z1 := HU.out.lt
      have HU2 := Lib.hid (HU.out.life (.cells #[.string x, .int .i64 t, .int .i64 f2, .slice (some ⟨bb, bo, none⟩) 1 c2] 24) f2)
      have HN : Hid (∀ (j : Nat) (u : Value), (valsD d2)[j]? = some u → ((wr.setCell ⟨w.heap.size + 1, 2, none⟩ (.int .i64 f2)).alloc (.cells #[.string x, .int .i64 t, .int .i64 f2, .slice (some ⟨bb, bo, none⟩) 1 c2] 24)).cell? ((⟨bb, bo, none⟩ : Addr).add j) = some u) := Lib.hid (fun j u hj => by
        rw [Go.WideShapes.add_plain]
        have k1 : wr.cell? ⟨bb, bo + j, none⟩ = some u := HRD.out j u (by simpa [rowD] using hj)
        refine cell_kept (row := none) ?_ (World.grownBy_alloc _ _ _) (fun r e => by cases e)
        rw [World.cell?_of_block (heap_setCell_other wr ⟨w.heap.size + 1, 2, none⟩ bb _ (by show bb ≠ w.heap.size + 1; omega))]
        exact k1)
      go_wp2_with (at_builtin; refine wpList_append_own _ rfl (.tmp 33) (.tmp 35) 22 rfl (w.heap.size + 2) 48 i0 zDD 3 32 Tryd.underlying22 HI.out HZ0.out HZ1.out HZ2.out rfl (by decide) vs 1 (rowD [d1]) rfl HU2.out.own ⟨bb, bo, none⟩ 1 c2 (valsD d2) rfl rfl HN.out (one_d _) (by decide) (by decide) (by simp; omega) ?_; intro v' w6 hown hgrow hiff; clear hiff; have hbx6 := HU2.out.grown hgrow; have b3 := cell_of_blk hbx6 3 vs rfl; have bf3 := frz hbx6 3; clear hbx6; have hw6 := HU2.out.push d2 hown hgrow; obtain ⟨g2, cap2, cur2, rfl, _, _, _, _⟩ := own_data hown (by omega); clear hown hgrow; have HW6 := Lib.hid hw6; clear hw6)
      go_roundw
      case rel => exact ⟨2, _, rfl, .inr (.inr ⟨rfl, HW6⟩)⟩
      case measure => simp [intOf]
    · obtain ⟨g2, cap2, cur2, rfl, hg2, hc2, hh2, ht2⟩ := own_data HU.out.own (by simp)
      have hRow := Row2.of_own (B := 0) (cap := cap2) hh2 ht2
      have HS : Hid (Calls Tryd.prog 57 #[.slice (some ⟨g2, 0, none⟩) 2 cap2, .func (.func 34) #[] #[]] wr (fun e w' => e = .returned (.tuple #[]) ∧ SortP d1 d2 g2 wr e w')) := Lib.hid (sortF2 _ g2 cap2 wr ((insD_any d1 d2 g2 cap2 wr hRow).mono fun e w' hh => sortP_of HNE.out hh))
      have hgl := hRow.lt
      have b0 := cell_of_blk HU.out.box 0 (.string x) rfl
      have b1 := cell_of_blk HU.out.box 1 (.int .i64 t) rfl
      have b2 := cell_of_blk HU.out.box 2 (.int .i64 f2) rfl
      have b3 := cell_of_blk HU.out.box 3 (.slice (some ⟨g2, 0, none⟩) 2 cap2) rfl
      have z1 := HU.out.lt
      obtain ⟨T, hT⟩ := Int.eq_ofNat_of_zero_le (show 0 ≤ t by omega)
      subst hT
      clear hh2 ht2 hRow
      go_upto_region 9 with (go_at_call 57; (with_reducible refine (HS.out).mono ?_); rintro e w5 ⟨rfl, hP⟩; have HP := Lib.hid hP; clear hP)
      obtain ⟨a, b, hab, hne2, hrow, hgr⟩ := HP.out
      have hne : ∀ k, k < w.heap.size + 2 → some k ≠ some g2 := fun k hk e => by cases e; omega
      have q5 : ∀ k, k < w.heap.size + 2 → w5.heap[k]? = wr.heap[k]? := fun k hk => hgr.block k (by omega) (hne k hk)
      have B5 : Hid (Below w.heap.size w w5) := Lib.hid ⟨hgr.os.trans HU.out.bel.os, hgr.tape.trans HU.out.bel.tape, hgr.output.trans HU.out.bel.output, Nat.le_trans HU.out.bel.size hgr.size, fun k hk => (q5 k (by omega)).trans (HU.out.bel.block k hk)⟩
      have R5 := Lib.hid ((q5 _ (by omega)).trans HU.out.res)
      have X5 := Lib.hid ((q5 _ (by omega)).trans HU.out.box)
      have HC := Lib.hid (compact2 a b g2 cap2 w5 hrow hne2)
      have HROW := Lib.hid hrow
      have HAB := Lib.hid hab
      have hgl5 := hrow.lt
      clear b0 b1 b2 b3 hrow hab hgr q5 HP hne HS
      have b3 := cell_of_blk X5.out 3 (.slice (some ⟨g2, 0, none⟩) 2 cap2) rfl
      have bf3 := frz X5.out 3
      have z5 := (Array.getElem?_eq_some_iff.1 X5.out).1
      go_upto_region 10 with (go_at_call 58; (with_reducible refine (HC.out).mono ?_); rintro e w6 ⟨rfl, q, rfl⟩)
      have B7 := Lib.hid ((below_drewD B5.out q).setCell (p := ⟨w.heap.size + 1, 3, none⟩) (by simp) (.slice (some ⟨g2, 0, none⟩) 2 cap2))
      have R7 := Lib.hid ((heap_setCell_other (w5.drewN q) ⟨w.heap.size + 1, 3, none⟩ w.heap.size (.slice (some ⟨g2, 0, none⟩) 2 cap2) (by simp)).trans R5.out)
      have X7 := Lib.hid (heap_setCell_same (w5.drewN q) (w.heap.size + 1) 3 _ _ (.slice (some ⟨g2, 0, none⟩) 2 cap2) X5.out)
      have D7 : Hid (SlD (.slice (some ⟨g2, 0, none⟩) 2 cap2) (srt2 d1 d2) ((w5.drewN q).setCell ⟨w.heap.size + 1, 3, none⟩ (.slice (some ⟨g2, 0, none⟩) 2 cap2))) := Lib.hid (by
        rw [HAB.out]
        obtain ⟨cur, hcur, hcr⟩ := HROW.out.at_
        have h8 : ((w5.drewN q).setCell ⟨w.heap.size + 1, 3, none⟩ (.slice (some ⟨g2, 0, none⟩) 2 cap2)).heap[g2]? = some (Obj.cells cur 48 (0, 0)) := (heap_setCell_other (w5.drewN q) ⟨w.heap.size + 1, 3, none⟩ g2 _ (by show g2 ≠ w.heap.size + 1; omega)).trans hcur
        have h9 : Row2 ((w5.drewN q).setCell ⟨w.heap.size + 1, 3, none⟩ (.slice (some ⟨g2, 0, none⟩) 2 cap2)) g2 a b := ⟨cur, h8, hcr⟩
        exact .inr ⟨g2, 0, cap2, rfl, h9.lt, h9.rd⟩)
      clear b3 bf3 z5 B5 R5 X5 HC HROW HAB HU
      generalize World.setCell (w5.drewN q) _ _ = W7 at *
      have b0 := cell_of_blk X7.out 0 (.string x) rfl
      have b1 := cell_of_blk X7.out 1 (.int .i64 T) rfl
      have b2 := cell_of_blk X7.out 2 (.int .i64 f2) rfl
      have b3 := cell_of_blk X7.out 3 (.slice (some ⟨g2, 0, none⟩) 2 cap2) rfl
      have r0 := cell_of_blk R7.out 0 (.string ⟨#[]⟩) rfl
      have r1 := cell_of_blk R7.out 1 (.int .i64 0) rfl
      have r2 := cell_of_blk R7.out 2 (.int .i64 0) rfl
      have r3 := cell_of_blk R7.out 3 (.slice none 0 0) rfl
      have rf0 := frz R7.out 0
      have rf1 := frz R7.out 1
      have rf2 := frz R7.out 2
      have rf3 := frz R7.out 3
      have hru := ((HRU.out.keep B7.out) T (by omega) (by omega)).2.2.2.2.2.1
      obtain ⟨one, hone⟩ : ∃ one, (ruleOf T).one = one := ⟨_, rfl⟩
      rw [hone] at hru
      have HON := Lib.hid hone
      have ht0 : (0 : Int) ≤ (T : Int) := by omega
      have ht9 : (T : Int) < 9 := by omega
      have ht9' : T < 9 := by omega
      clear hone
      cases one
      · go_wp2
        have hx := set4 (.string x) (.int .i64 T) (.int .i64 f2) (.slice (some ⟨g2, 0, none⟩) 2 cap2) R7.out
        have hbx := below4 B7.out (q := w.heap.size) (Nat.le_refl _) (.string x) (.int .i64 T) (.int .i64 f2) (.slice (some ⟨g2, 0, none⟩) 2 cap2)
        have D8 := Lib.hid (sld4 D7.out (show w.heap.size ≠ g2 by omega) (.string x) (.int .i64 T) (.int .i64 f2) (.slice (some ⟨g2, 0, none⟩) 2 cap2))
        clear D7
        generalize ((((World.setCell W7 _ _).setCell _ _).setCell _ _).setCell _ _) = W' at *
        have x0 := cell_of_blk hx 0 (.string x) rfl
        have x1 := cell_of_blk hx 1 (.int .i64 T) rfl
        have x2 := cell_of_blk hx 2 (.int .i64 f2) rfl
        have x3 := cell_of_blk hx 3 (.slice (some ⟨g2, 0, none⟩) 2 cap2) rfl
        refine bodyPost_ret (v := .tuple #[.agg #[.string x, .int .i64 T, .int .i64 f2, .slice (some ⟨g2, 0, none⟩) 2 cap2], .int .i64 0]) (by simp [results, Tryd.f27, go_sem, x0, x1, x2, x3]) rfl ⟨.inr ⟨by rw [Int.toNat_natCast]; exact HON.out, g2, cap2, rfl, D8.out⟩, hbx⟩
      · go_wp2
        have hx := set4 (.string ⟨#[]⟩) (.int .i64 0) (.int .i64 0) (.slice none 0 0) R7.out
        have hbx := below4 B7.out (q := w.heap.size) (Nat.le_refl _) (.string ⟨#[]⟩) (.int .i64 0) (.int .i64 0) (.slice none 0 0)
        generalize ((((World.setCell W7 _ _).setCell _ _).setCell _ _).setCell _ _) = W' at *
        have x0 := cell_of_blk hx 0 (.string ⟨#[]⟩) rfl
        have x1 := cell_of_blk hx 1 (.int .i64 0) rfl
        have x2 := cell_of_blk hx 2 (.int .i64 0) rfl
        have x3 := cell_of_blk hx 3 (.slice none 0 0) rfl
        refine bodyPost_ret (v := .tuple #[.agg #[.string ⟨#[]⟩, .int .i64 0, .int .i64 0, .slice none 0 0], .int .i64 35]) (by simp [results, Tryd.f27, go_sem, x0, x1, x2, x3]) rfl ⟨.inl ⟨by rw [Int.toNat_natCast]; exact HON.out, rfl⟩, hbx⟩
end Go.Proofs.YtmnbcjchfbfngaaDoor
