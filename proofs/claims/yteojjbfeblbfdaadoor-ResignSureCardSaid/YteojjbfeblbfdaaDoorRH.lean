/- The contract of head of the laws of layer 25; no condition beyond those that each theorem names. -/
import Derived.Test.YteojjbfeblbfdaaDoorRA
namespace Go.Proofs.YteojjbfeblbfdaaDoor
set_option linter.unusedSimpArgs false
set_option linter.unusedVariables false
open Go.RowKit Go.Shelf
open SpP

/-- What head's walk knows of the world: the rule, the datum, the signature and the signed set. -/
structure HW (n0 : Nat) (w W : World) : Prop where
  r : RuleAt W
  d : DatAt n0 W
  s : SigAt (n0 + 1) W
  g : SgAt (n0 + 1 + 1) n0 (.slice (some ⟨n0 + 1, 0, none⟩) 1 1) W
  b : RowKit.Below w.heap.size w W
theorem HW.step {n0 : Nat} {w W W' : World} (h : HW n0 w W) (hb : RowKit.Below W.heap.size W W') : HW n0 w W' :=
  ⟨h.r.keep hb, h.d.keep hb, h.s.keep hb, h.g.keep hb, h.b.trans (hb.mono h.b.size)⟩
theorem HW.start (w : World) (hr : RuleAt w) : HW w.heap.size w (((w.alloc datO).alloc (.cells #[.string ⟨#[120]⟩, .int .i64 1, .int .i64 1, .int .i64 10, .int .i64 90, .int .u64 0] 31)).alloc (sgO w.heap.size (.slice (some ⟨w.heap.size + 1, 0, none⟩) 1 1))) := by
  have hb := below3 w datO (.cells #[.string ⟨#[120]⟩, .int .i64 1, .int .i64 1, .int .i64 10, .int .i64 90, .int .u64 0] 31) (sgO w.heap.size (.slice (some ⟨w.heap.size + 1, 0, none⟩) 1 1))
  unfold sgO datO at *
  refine ⟨hr.keep hb, ⟨?_, ?_, ?_⟩, ⟨?_, ?_, ?_, ?_, ?_, ?_⟩, ⟨?_, ?_, ?_, ?_, ?_⟩, hb⟩
  · rw [World.cell?_alloc_old _ _ _ (by simp; omega), World.cell?_alloc_old _ _ _ (by simp), World.cell?_alloc_at _ _ _ _ rfl]; rfl
  · rw [World.cell?_alloc_old _ _ _ (by simp; omega), World.cell?_alloc_old _ _ _ (by simp), World.cell?_alloc_at _ _ _ _ rfl]; rfl
  · rw [World.cell?_alloc_old _ _ _ (by simp; omega), World.cell?_alloc_old _ _ _ (by simp), World.cell?_alloc_at _ _ _ _ rfl]; rfl
  · rw [World.cell?_alloc_old _ _ _ (by simp), World.cell?_alloc_at _ _ _ _ (by simp)]; rfl
  · rw [World.cell?_alloc_old _ _ _ (by simp), World.cell?_alloc_at _ _ _ _ (by simp)]; rfl
  · rw [World.cell?_alloc_old _ _ _ (by simp), World.cell?_alloc_at _ _ _ _ (by simp)]; rfl
  · rw [World.cell?_alloc_old _ _ _ (by simp), World.cell?_alloc_at _ _ _ _ (by simp)]; rfl
  · rw [World.cell?_alloc_old _ _ _ (by simp), World.cell?_alloc_at _ _ _ _ (by simp)]; rfl
  · rw [World.cell?_alloc_old _ _ _ (by simp), World.cell?_alloc_at _ _ _ _ (by simp)]; rfl
  · rw [World.cell?_alloc_at _ _ _ _ (by simp)]; rfl
  · rw [World.cell?_alloc_at _ _ _ _ (by simp)]; rfl
  · rw [World.cell?_alloc_at _ _ _ _ (by simp)]; rfl
  · rw [World.cell?_alloc_at _ _ _ _ (by simp)]; rfl
  · rw [World.cell?_alloc_at _ _ _ _ (by simp)]; rfl
theorem tr1 : TR 5 200 100 5 20 = ([5, 72, 139], 0) := by decide
theorem tr2 : (TR 5 200 36 5 20).2 = 0 := by decide
theorem tr3 : TR 5 200 33 5 20 = ([], 32) := by decide
theorem tr4 : TR 4 200 100 5 20 = ([], 1) := by decide

theorem SlI.block {W : World} {B c : Nat} {T : TypeId} {l : List Int} (h : W.heap[B]? = some (.cells (rowI l).toArray T)) : SlI (.slice (some ⟨B, 0, none⟩) l.length c) l W := by
  refine .inr ⟨B, 0, c, rfl, (Array.getElem?_eq_some_iff.1 h).1, fun m u hm => ?_⟩
  have : (rowI l)[m]? = some (.int .i64 u) := by unfold rowI; rw [List.getElem?_map, hm]; rfl
  simpa [World.cell?, h] using this

set_option maxHeartbeats 2000000 in
set_option maxRecDepth 100000 in
theorem head_any (w : World) (hr : RuleAt w) : Calls Tryd.prog 10 #[] w fun e w' => e = .returned (.bool true) ∧ RowKit.Below w.heap.size w w' := by
  have hs := HW.start w hr
  have T1 := Lib.hid (fun W => times_any 5 200 100 5 20 W)
  have T2 := Lib.hid (fun W => times_any 5 200 36 5 20 W)
  have T3 := Lib.hid (fun W => times_any 5 200 33 5 20 W)
  have T4 := Lib.hid (fun W => times_any 4 200 100 5 20 W)
  rw [tr1] at T1
  rw [tr3] at T3
  rw [tr4] at T4
  obtain ⟨R2, hR2⟩ : ∃ r, TR 5 200 36 5 20 = r := ⟨_, rfl⟩
  have hr2 : R2.2 = 0 := by rw [← hR2]; exact tr2
  rw [hR2] at T2
  obtain ⟨l2, k2⟩ := R2
  simp only at hr2
  subst hr2
  clear hR2
  unfold sgO datO at hs
  go_enter Tryd.func10, Tryd.ntmps10
  go_wp2_with fail
  generalize ((w.alloc _).alloc _).alloc _ = W1 at *
  have H1 := Lib.hid hs
  obtain ⟨g0, g1, g2, g3, g4⟩ := hs.g
  clear hs
  go_wp2_with fail
  refine (Sure_a H1.out.r H1.out.d H1.out.s).mono ?_
  rintro e w2 ⟨sa, rfl, hsa, hb⟩
  obtain ⟨pa, ca, rfl⟩ := hsa.form
  have H2 := Lib.hid (H1.out.step hb)
  have SA := Lib.hid hsa
  obtain ⟨g0, g1, g2, g3, g4⟩ := H2.out.g
  clear hsa hb
  go_wp2_with fail
  refine (Sure_b H2.out.r H2.out.d H2.out.s).mono ?_
  rintro e w3 ⟨sb, rfl, hsb, hb⟩
  obtain ⟨pb, cb, rfl⟩ := hsb.form
  have H3 := Lib.hid (H2.out.step hb)
  have SA3 := Lib.hid (SA.out.keep hb)
  obtain ⟨g0, g1, g2, g3, g4⟩ := H3.out.g
  clear hsb hb SA
  go_wp2_with fail
  refine (Sure_c H3.out.r H3.out.d).mono ?_
  rintro e w4 ⟨sc, rfl, hsc, hb⟩
  obtain ⟨pc, cc, rfl⟩ := hsc.form
  have HB4 := Lib.hid (H3.out.step hb).b
  have SA4 := Lib.hid (SA3.out.keep hb)
  have SC4 := Lib.hid hsc
  clear hsc hb SA3 H3 H2 H1 g0 g1 g2 g3 g4
  go_wp2_with fail
  refine (T1.out _).mono ?_
  rintro e w5 ⟨s5, rfl, h5, hb⟩
  obtain ⟨p5, c5, rfl⟩ := h5.form
  have HB5 := Lib.hid (HB4.out.trans (hb.mono HB4.out.size))
  have SA5 := Lib.hid (SA4.out.keep hb)
  have SC5 := Lib.hid (SC4.out.keep hb)
  have SI5 := Lib.hid h5
  clear h5 hb HB4 SA4 SC4
  go_wp2_with fail
  refine (T2.out _).mono ?_
  rintro e w6 ⟨s6, rfl, h6, hb⟩
  obtain ⟨p6, c6, rfl⟩ := h6.form
  have HB6 := Lib.hid (HB5.out.trans (hb.mono HB5.out.size))
  have SA6 := Lib.hid (SA5.out.keep hb)
  have SC6 := Lib.hid (SC5.out.keep hb)
  have SI6 := Lib.hid (SI5.out.keep hb)
  clear h6 hb HB5 SA5 SC5 SI5
  go_wp2_with fail
  refine (T3.out _).mono ?_
  rintro e w7 ⟨s7, rfl, h7, hb⟩
  obtain ⟨p7, c7, rfl⟩ := h7.form
  have HB7 := Lib.hid (HB6.out.trans (hb.mono HB6.out.size))
  have SA7 := Lib.hid (SA6.out.keep hb)
  have SC7 := Lib.hid (SC6.out.keep hb)
  have SI7 := Lib.hid (SI6.out.keep hb)
  clear h7 hb HB6 SA6 SC6 SI6
  go_wp2_with fail
  refine (T4.out _).mono ?_
  rintro e w8 ⟨s8, rfl, h8, hb⟩
  obtain ⟨p8, c8, rfl⟩ := h8.form
  have HB8 := Lib.hid (HB7.out.trans (hb.mono HB7.out.size))
  have SA8 := Lib.hid (SA7.out.keep hb)
  have SC8 := Lib.hid (SC7.out.keep hb)
  have SI8 := Lib.hid (SI7.out.keep hb)
  clear h8 hb HB7 SA7 SC7 SI7
  go_wp2_with fail
  have hA9 : RowKit.Below w8.heap.size w8 (w8.alloc (.cells #[.int .i64 15, .int .i64 86] 80)) := (RowKit.Below.refl _ _).alloc (Nat.le_refl _) _
  have hN := same_any (SA8.out.keep hA9) (SlS.two (x := (15, 86)) (c := 1) (World.alloc_heap_new w8 _)) (by decide)
  rw [decide_eq_true rfl] at hN
  refine hN.mono ?_
  clear hN
  rintro e w9 ⟨rfl, hb⟩
  have HB9 := Lib.hid ((HB8.out.alloc HB8.out.size (.cells #[.int .i64 15, .int .i64 86] 80)).trans (hb.mono (HB8.out.alloc HB8.out.size (.cells #[.int .i64 15, .int .i64 86] 80)).size))
  have SC9 := Lib.hid ((SC8.out.keep hA9).keep hb)
  have SI9 := Lib.hid ((SI8.out.keep hA9).keep hb)
  clear hb hA9 HB8
  go_wp2_with fail
  have hA10 : RowKit.Below w9.heap.size w9 (w9.alloc (.cells #[.int .i64 0, .int .i64 70] 80)) := (RowKit.Below.refl _ _).alloc (Nat.le_refl _) _
  have hN := same_any (SC9.out.keep hA10) (SlS.two (x := (0, 70)) (c := 1) (World.alloc_heap_new w9 _)) (by decide)
  rw [decide_eq_true rfl] at hN
  refine hN.mono ?_
  clear hN
  rintro e w10 ⟨rfl, hb⟩
  have HB10 := Lib.hid ((HB9.out.alloc HB9.out.size (.cells #[.int .i64 0, .int .i64 70] 80)).trans (hb.mono (HB9.out.alloc HB9.out.size (.cells #[.int .i64 0, .int .i64 70] 80)).size))
  have SI10 := Lib.hid ((SI9.out.keep hA10).keep hb)
  clear hb hA10 HB9
  go_wp2_with fail
  have hA11 : RowKit.Below w10.heap.size w10 (w10.alloc (.cells #[.int .i64 5, .int .i64 72, .int .i64 139] 3)) := (RowKit.Below.refl _ _).alloc (Nat.le_refl _) _
  have hN := samei_any (SI10.out.keep hA11) (SlI.block (l := [5, 72, 139]) (c := 3) (World.alloc_heap_new w10 _)) (by decide)
  rw [decide_eq_true rfl] at hN
  refine hN.mono ?_
  clear hN
  rintro e w11 ⟨rfl, hb⟩
  have HB11 := Lib.hid ((HB10.out.alloc HB10.out.size (.cells #[.int .i64 5, .int .i64 72, .int .i64 139] 3)).trans (hb.mono (HB10.out.alloc HB10.out.size (.cells #[.int .i64 5, .int .i64 72, .int .i64 139] 3)).size))
  clear hb hA11 HB10
  go_wp2
  go_ret
  exact ⟨rfl, HB11.out⟩
end Go.Proofs.YteojjbfeblbfdaaDoor
