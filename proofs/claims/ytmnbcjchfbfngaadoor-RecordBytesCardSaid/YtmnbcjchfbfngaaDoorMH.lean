/- The head of layer 2's laws is true; no condition beyond those that each theorem names. -/
import Derived.Test.YtmnbcjchfbfngaaDoorMA
import Derived.Deep.CutRange
import Derived.Deep.RegionWith
import Derived.Deep.RegionHeld3
namespace Go.Proofs.YtmnbcjchfbfngaaDoor
set_option linter.unusedSimpArgs false
set_option linter.unusedVariables false
open Go.RowKit
open NmP

theorem adr1s (life n : Int) (W : World) (o : Obj) : Calls Tryd.prog 22 #[.int .i64 life, .slice (some ⟨W.heap.size + 1, 0, none⟩) 1 1] ((W.alloc o).alloc (.cells #[.int .i64 n] 3)) (AdrTo life 1 [ad1 n] (W.alloc o)) := by
  have h := adr1 life n (W.alloc o)
  rw [World.size_alloc] at h
  exact h
theorem merBs (W : World) (o : Obj) (hr : RulesAt W) :
    Calls Tryd.prog 11 #[.slice (some ⟨W.heap.size + 1 + 1 + 1, 0, none⟩) 2 2] ((((W.alloc o).alloc (.cells #[.string ⟨#[97]⟩, .int .i64 0, .int .i64 0] 48)).alloc (.cells #[.string ⟨#[98]⟩, .int .i64 0, .int .i64 0] 48)).alloc
      (.cells #[.string ⟨#[120]⟩, .int .i64 3, .int .i64 0, .slice (some ⟨W.heap.size + 1, 0, none⟩) 1 1, .string ⟨#[120]⟩, .int .i64 3, .int .i64 0, .slice (some ⟨W.heap.size + 1 + 1, 0, none⟩) 1 1] 24))
      fun e w' => e = .returned (.tuple #[.slice none 0 0, .int .i64 35]) ∧ Below W.heap.size W w' := by
  have b1 := bnew W o
  have b2 := b1.alloc b1.size (.cells #[.string ⟨#[97]⟩, .int .i64 0, .int .i64 0] 48)
  have b3 := b2.alloc b2.size (.cells #[.string ⟨#[98]⟩, .int .i64 0, .int .i64 0] 48)
  have h1 := (sld_new (al 97) (W.alloc o)).keep (bnew _ (.cells #[.string ⟨#[98]⟩, .int .i64 0, .int .i64 0] 48))
  have h2 := sld_new (al 98) ((W.alloc o).alloc (.cells #[.string ⟨#[97]⟩, .int .i64 0, .int .i64 0] 48))
  have h := merB _ _ 1 1 _ h1 h2 (hr.keep b3)
  simp only [World.size_alloc] at h
  exact h.mono fun e w' ⟨q1, q2⟩ => ⟨q1, b3.trans (q2.mono (by omega))⟩
theorem cmpAs (p1 : Option Addr) (c1 : Nat) (W : World) (h1 : SlD (.slice p1 1 c1) [ad1 7] W) (hr : RulesAt W) :
    Calls Tryd.prog 9 #[.agg #[.string sX, .int .i64 1, .int .i64 5, .slice p1 1 c1], .agg #[.string ⟨#[120]⟩, .int .i64 5, .int .i64 0, .slice (some ⟨W.heap.size, 0, none⟩) 1 1]] (W.alloc (.cells #[.string ⟨#[97, 32, 98]⟩, .int .i64 0, .int .i64 0] 48))
      fun e w' => e = .returned (.tuple #[.int .i64 (-1), .int .i64 0]) ∧ Below W.heap.size W w' := by
  have b1 := bnew W (.cells #[.string ⟨#[97, 32, 98]⟩, .int .i64 0, .int .i64 0] 48)
  exact (cmpA p1 _ c1 1 _ (h1.keep b1) (sld_new txA W) (hr.keep b1)).mono fun e w' ⟨q1, q2⟩ => ⟨q1, b1.trans (q2.mono b1.size)⟩
theorem samA (p1 p2 : Option Addr) (c1 c2 : Nat) (w : World) (h1 : SlD (.slice p1 1 c1) [ad1 7] w) (h2 : SlD (.slice p2 1 c2) [ad1 7] w) :
    Calls Tryd.prog 21 #[.agg #[.string sX, .int .i64 1, .int .i64 5, .slice p1 1 c1], .agg #[.string sX, .int .i64 1, .int .i64 5, .slice p2 1 c2]] w fun e w' => e = .returned (.bool true) ∧ Below w.heap.size w w' := by
  have k := rsame_any ⟨sX, 1, 5, .slice p1 1 c1, [ad1 7]⟩ ⟨sX, 1, 5, .slice p2 1 c2, [ad1 7]⟩ w ⟨(show 1 ≤ maxLen by decide), small1 7, h1⟩ ⟨(show 1 ≤ maxLen by decide), small1 7, h2⟩ (show 1 ≤ maxLen by decide)
  rw [show sameB ⟨sX, 1, 5, .slice p1 1 c1, [ad1 7]⟩ ⟨sX, 1, 5, .slice p2 1 c2, [ad1 7]⟩ = true by simp [sameB]] at k
  exact k
theorem rt_one (a : Ss) (W : World) (t : TypeId) : RT W.heap.size 0 [a] (W.alloc (.cells #[.string a.x, .int .i64 a.t, .int .i64 a.f, .slice a.p a.n a.c] t)) := by
  intro m u hm
  have hm' : (#[Value.string a.x, .int .i64 a.t, .int .i64 a.f, .slice a.p a.n a.c] : Array Value)[m]? = some u := by
    rw [← Array.getElem?_toList]
    exact hm
  rw [Nat.zero_add]
  exact cell_of_blk (heap_alloc_new W _) m u hm'
theorem ssA {g cap g2 cap2 : Nat} (p : Option Addr) (c : Nat) (W : World) (h3 : F3 g cap g2 cap2 W) (h : SlD (.slice p 2 c) [ad1 3, ad1 7] W) :
    Calls Tryd.prog 15 #[.slice (some ⟨g, 0, none⟩) 1 cap, .slice (some ⟨W.heap.size, 0, none⟩) 1 1] (W.alloc (.cells #[.string sX, .int .i64 1, .int .i64 4, .slice p 2 c] 24)) fun e w' => e = .returned (.bool true) ∧ Below W.heap.size W w' := by
  have b1 := bnew W (.cells #[.string sX, .int .i64 1, .int .i64 4, .slice p 2 c] 24)
  have k3 := h3.keep b1
  exact (rsets1 sX 1 4 (some ⟨g2, 0, none⟩) p 2 2 cap2 c [ad1 3, ad1 7] g W.heap.size cap 1 _ k3.lt (by simp) k3.rt (rt_one ⟨sX, 1, 4, p, 2, c⟩ W _) k3.d (h.keep b1) (show 1 ≤ maxLen by decide) (fun d hd => by simp at hd; rcases hd with rfl | rfl <;> exact Nat.zero_le _) (show 2 ≤ maxLen by decide)).mono fun e w' ⟨q1, q2⟩ => ⟨q1, b1.trans (q2.mono b1.size)⟩
theorem F1.cells {g off c : Nat} {w W : World} (h : F1 g off c w W) : W.cell? ⟨g, off, none⟩ = some (.int .u8 1) ∧ W.cell? ⟨g, off + 1, none⟩ = some (.int .u8 120) := by
  rcases h.b with ⟨q, _⟩ | ⟨g', off', c', q1, q2, q3, q4⟩
  · exact absurd q (by decide)
  · cases q1
    exact ⟨q4 0 1 rfl, q4 1 120 rfl⟩
theorem below_zero {W : World} (o : Obj) {w' : World} (h : Below (W.alloc o).heap.size (W.alloc o) w') : Below W.heap.size W w' := (bnew W o).trans (h.mono (by simp))

set_option maxHeartbeats 4000000 in
set_option maxRecDepth 100000 in
theorem head_any (w : World) (hr : RulesAt w) : Calls Tryd.prog 7 #[] w fun e w' => e = .returned (.bool true) ∧ Below w.heap.size w w' := by
  have HR := Lib.hid hr
  clear hr
  have A1 := Lib.hid adr1
  have A2 := Lib.hid adr2
  have A0 := Lib.hid adr0
  have BA := Lib.hid bytA
  have RA := Lib.hid reaA
  have R0 := Lib.hid rea0
  have MA := Lib.hid merA
  have MB := Lib.hid merB
  have CA := Lib.hid cmpA
  go_enter Tryd.func7, Tryd.ntmps7
  go_wp2_with (go_at_call 22; fail)
  refine (A1.out 5 7 w).mono ?_
  rintro e w1 ⟨p1, c1, rfl, hs, hb⟩
  have HS := Lib.hid hs
  have HX := Lib.hid hb
  clear hs hb
  go_wp2_with (go_at_call 16; fail)
  refine (BA.out p1 c1 w1 HS.out (HR.out.keep HX.out)).mono ?_
  rintro e w2 ⟨g, off, c2, rfl, hs2, hb⟩
  have H1 : Hid (F1 g off c2 w w2) := Lib.hid ⟨HX.out.trans (hb.mono HX.out.size), hs2⟩
  clear HS HX hs2 hb
  go_wp2_with (go_at_call 18; fail)
  refine (RA.out _ w2 H1.out.b (HR.out.keep H1.out.bel)).mono ?_
  rintro e w3 ⟨p3, c3, rfl, hs3, hb⟩
  replace H1 := Lib.hid (H1.out.keep hb)
  have HS := Lib.hid hs3
  clear hs3 hb
  go_wp2_with (go_at_call 22; fail)
  have H2 := Lib.hid (F2.new HS.out)
  replace H1 := Lib.hid (H1.out.keep (bnew w3 (.cells #[.string sX, .int .i64 1, .int .i64 5, .slice p3 1 c3] 24)))
  clear HS
  refine (adr1s 5 7 w3 _).mono ?_
  generalize w3.heap.size = q3 at *
  generalize w3.alloc (.cells #[.string sX, .int .i64 1, .int .i64 5, .slice p3 1 c3] 24) = w3' at *
  rintro e w4 ⟨p4, c4, rfl, hs, hb⟩
  replace H1 := Lib.hid (H1.out.keep hb)
  replace H2 := Lib.hid (H2.out.keep hb)
  have HS := Lib.hid hs
  clear hs hb
  go_wp2_with (go_at_call 22; fail)
  refine (A1.out 4 3 w4).mono ?_
  rintro e w5 ⟨p5, c5, rfl, hs, hb⟩
  replace H1 := Lib.hid (H1.out.keep hb)
  replace H2 := Lib.hid (H2.out.keep hb)
  replace HS := Lib.hid (HS.out.keep hb)
  have HT := Lib.hid hs
  clear hs hb
  go_wp2_with (go_at_call 11; fail)
  refine (MA.out p4 p5 c4 c5 w5 HS.out HT.out (HR.out.keep H1.out.bel)).mono ?_
  rintro e w6 ⟨g6, cap6, g7, cap7, rfl, hl6, hr6, hd6, hb⟩
  replace H1 := Lib.hid (H1.out.keep hb)
  replace H2 := Lib.hid (H2.out.keep hb)
  have H3 : Hid (F3 g6 cap6 g7 cap7 w6) := Lib.hid ⟨hl6, hr6, hd6⟩
  clear HS HT hl6 hr6 hd6 hb
  go_wp2_with (go_at_call 18; fail)
  refine (R0.out w6 (HR.out.keep H1.out.bel)).mono ?_
  rintro e w7 ⟨rfl, hb⟩
  replace H1 := Lib.hid (H1.out.keep hb)
  replace H2 := Lib.hid (H2.out.keep hb)
  replace H3 := Lib.hid (H3.out.keep hb)
  clear hb
  go_wp2_with (go_at_call 11; fail)
  refine (merBs w7 _ (HR.out.keep H1.out.bel)).mono ?_
  rintro e w8 ⟨rfl, hb⟩
  replace H1 := Lib.hid (H1.out.keep hb)
  replace H2 := Lib.hid (H2.out.keep hb)
  replace H3 := Lib.hid (H3.out.keep hb)
  clear hb
  generalize w7.heap.size = q7 at *
  go_wp2_with (go_at_call 22; fail)
  refine (A1.out 5 7 w8).mono ?_
  rintro e w9 ⟨p9, c9, rfl, hs, hb⟩
  replace H1 := Lib.hid (H1.out.keep hb)
  replace H2 := Lib.hid (H2.out.keep hb)
  replace H3 := Lib.hid (H3.out.keep hb)
  have HS := Lib.hid hs
  clear hs hb
  go_wp2_with (go_at_call 9; fail)
  refine (cmpAs p9 c9 w9 HS.out (HR.out.keep H1.out.bel)).mono ?_
  rintro e w10 ⟨rfl, hb⟩
  replace H1 := Lib.hid (H1.out.keep hb)
  replace H2 := Lib.hid (H2.out.keep hb)
  replace H3 := Lib.hid (H3.out.keep hb)
  clear hb HS
  go_wp2
  go_cut [13] from 84 to 115 (fun s13 wx => s13 = .bool true ∧ Hid (Below w.heap.size w wx))
  case first =>
    obtain ⟨b0, b1⟩ := H1.out.cells
    have k0 := cell_of_blk H2.out.s 0 _ rfl
    have k1 := cell_of_blk H2.out.s 1 _ rfl
    have k2 := cell_of_blk H2.out.s 2 _ rfl
    have k3 := cell_of_blk H2.out.s 3 _ rfl
    have D1 := Lib.hid (H1.out.keep (below_drewD (Below.refl _ w10) 1))
    have D2 := Lib.hid (H2.out.keep (below_drewD (Below.refl _ w10) 1))
    have D3 := Lib.hid (H3.out.keep (below_drewD (Below.refl _ w10) 1))
    have SA := Lib.hid samA
    have AD1 := Lib.hid (show Calls Tryd.prog 22 #[.int .i64 5, .slice (some ⟨w10.heap.size, 0, none⟩) 1 1] ((w10.alloc (.cells #[.int .i64 7] 3)).drew) (AdrTo 5 1 [ad1 7] w10.drew) from adr1 5 7 w10.drew)
    have SS := Lib.hid (fun p c W h3 h => ssA (g := g6) (cap := cap6) (g2 := g7) (cap2 := cap7) p c W h3 h)
    clear H1 H2 H3 BA RA R0 MA MB CA
    go_region_held3 (fun w' => w'.cell? ⟨g, off, none⟩ = some (.int .u8 1) ∧ w'.cell? ⟨g, off + 1, none⟩ = some (.int .u8 120) ∧ w'.cell? ⟨q3, 0, none⟩ = some (.string sX) ∧ w'.cell? ⟨q3, 1, none⟩ = some (.int .i64 1) ∧ w'.cell? ⟨q3, 2, none⟩ = some (.int .i64 5) ∧ w'.cell? ⟨q3, 3, none⟩ = some (.slice p3 1 c3)) (go_keep)
      (first | (go_at_call 22; (with_reducible refine (AD1.out).mono ?_); rintro e w11 ⟨p11, c11, rfl, hs, hb⟩; have G1 := Lib.hid (D1.out.keep hb); have G2 := Lib.hid (D2.out.keep hb); have G3 := Lib.hid (D3.out.keep hb); have HS11 := Lib.hid hs; clear hs hb b0 b1 k0 k1 k2 k3; obtain ⟨b0, b1⟩ := G1.out.cells; have k0 := cell_of_blk G2.out.s 0 _ rfl; have k1 := cell_of_blk G2.out.s 1 _ rfl; have k2 := cell_of_blk G2.out.s 2 _ rfl; have k3 := cell_of_blk G2.out.s 3 _ rfl) | (go_at_call 21; (with_reducible refine (SA.out _ _ _ _ _ G2.out.d HS11.out).mono ?_); rintro e w12 ⟨rfl, hb⟩; replace G1 := Lib.hid (G1.out.keep hb); replace G2 := Lib.hid (G2.out.keep hb); replace G3 := Lib.hid (G3.out.keep hb); clear hb b0 b1 k0 k1 k2 k3; obtain ⟨b0, b1⟩ := G1.out.cells; have k0 := cell_of_blk G2.out.s 0 _ rfl; have k1 := cell_of_blk G2.out.s 1 _ rfl; have k2 := cell_of_blk G2.out.s 2 _ rfl; have k3 := cell_of_blk G2.out.s 3 _ rfl) | (go_at_call 22; (with_reducible refine (A2.out 4 3 7 _).mono ?_); rintro e w13 ⟨p13, c13, rfl, hs, hb⟩; replace G1 := Lib.hid (G1.out.keep hb); replace G2 := Lib.hid (G2.out.keep hb); replace G3 := Lib.hid (G3.out.keep hb); have HS13 := Lib.hid hs; clear hs hb b0 b1 k0 k1 k2 k3; obtain ⟨b0, b1⟩ := G1.out.cells; have k0 := cell_of_blk G2.out.s 0 _ rfl; have k1 := cell_of_blk G2.out.s 1 _ rfl; have k2 := cell_of_blk G2.out.s 2 _ rfl; have k3 := cell_of_blk G2.out.s 3 _ rfl) | (go_at_call 15; (with_reducible refine (SS.out _ _ _ G3.out HS13.out).mono ?_); rintro e w14 ⟨rfl, hb⟩; replace G1 := Lib.hid (G1.out.keep hb); replace G2 := Lib.hid (G2.out.keep hb); clear hb G3 b0 b1 k0 k1 k2 k3; obtain ⟨b0, b1⟩ := G1.out.cells; have k0 := cell_of_blk G2.out.s 0 _ rfl; have k1 := cell_of_blk G2.out.s 1 _ rfl; have k2 := cell_of_blk G2.out.s 2 _ rfl; have k3 := cell_of_blk G2.out.s 3 _ rfl))
    all_goals (go_wp2_with fail; go_meet)
    all_goals exact ⟨rfl, Lib.hid G1.out.bel⟩
  case rest =>
    obtain ⟨rfl, HB⟩ := hcut
    go_wp2_with (go_at_call 22; fail)
    refine (adr1 0 1 wc).mono ?_
    rintro e v1 ⟨p, c, rfl, hs, hb⟩
    replace HB := Lib.hid (HB.out.trans (hb.mono HB.out.size))
    have HS := Lib.hid hs
    clear hs hb
    go_wp2_with (go_at_call 13; fail)
    refine (valA 0 1 [ad1 1] _ vo1 (small1 1) p c v1 HS.out (HR.out.keep HB.out)).mono ?_
    rintro e u1 ⟨rfl, hb⟩
    replace HB := Lib.hid (HB.out.trans (hb.mono HB.out.size))
    clear hb HS
    go_wp2_with (go_at_call 22; fail)
    refine (adr0 5 u1).mono ?_
    rintro e v2 ⟨p, c, rfl, hs, hb⟩
    replace HB := Lib.hid (HB.out.trans (hb.mono HB.out.size))
    have HS := Lib.hid hs
    clear hs hb
    go_wp2_with (go_at_call 13; fail)
    refine (valA 5 0 [] _ vo2 (fun d hd => absurd hd List.not_mem_nil) p c v2 HS.out (HR.out.keep HB.out)).mono ?_
    rintro e u2 ⟨rfl, hb⟩
    replace HB := Lib.hid (HB.out.trans (hb.mono HB.out.size))
    clear hb HS
    go_wp2_with (go_at_call 22; fail)
    refine (adr2 5 7 3 u2).mono ?_
    rintro e v3 ⟨p, c, rfl, hs, hb⟩
    replace HB := Lib.hid (HB.out.trans (hb.mono HB.out.size))
    have HS := Lib.hid hs
    clear hs hb
    go_wp2_with (go_at_call 13; fail)
    refine (valA 5 2 [ad1 7, ad1 3] _ vo3 (fun d hd => by simp at hd; rcases hd with rfl | rfl <;> exact Nat.zero_le _) p c v3 HS.out (HR.out.keep HB.out)).mono ?_
    rintro e u3 ⟨rfl, hb⟩
    replace HB := Lib.hid (HB.out.trans (hb.mono HB.out.size))
    clear hb HS
    go_wp2_with (go_at_call 22; fail)
    refine (adr1 100001 7 u3).mono ?_
    rintro e v4 ⟨p, c, rfl, hs, hb⟩
    replace HB := Lib.hid (HB.out.trans (hb.mono HB.out.size))
    have HS := Lib.hid hs
    clear hs hb
    go_wp2_with (go_at_call 13; fail)
    refine (valA 100001 1 [ad1 7] _ vo4 (small1 7) p c v4 HS.out (HR.out.keep HB.out)).mono ?_
    rintro e u4 ⟨rfl, hb⟩
    replace HB := Lib.hid (HB.out.trans (hb.mono HB.out.size))
    clear hb HS
    go_wp2_with (go_at_call 22; fail)
    refine (adr1 5 1000001 u4).mono ?_
    rintro e v5 ⟨p, c, rfl, hs, hb⟩
    replace HB := Lib.hid (HB.out.trans (hb.mono HB.out.size))
    have HS := Lib.hid hs
    clear hs hb
    go_wp2_with (go_at_call 13; fail)
    refine (valA 5 1 [ad1 1000001] _ vo5 (small1 1000001) p c v5 HS.out (HR.out.keep HB.out)).mono ?_
    rintro e u5 ⟨rfl, hb⟩
    replace HB := Lib.hid (HB.out.trans (hb.mono HB.out.size))
    clear hb HS
    go_wp2
    go_ret
    exact ⟨rfl, HB.out⟩
end Go.Proofs.YtmnbcjchfbfngaaDoor
