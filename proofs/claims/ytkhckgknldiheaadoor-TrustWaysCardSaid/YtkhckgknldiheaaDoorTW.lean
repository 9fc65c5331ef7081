/- The contract of way of package trust; no condition beyond those that each theorem names. -/
import Derived.Test.YtkhckgknldiheaaDoorT9
import Derived.BigRegion
import Derived.Deep.CutRange
namespace Go.Proofs.YtkhckgknldiheaaDoor
set_option linter.unusedSimpArgs false
set_option linter.unusedVariables false
open Go.RowKit
open NmP SpP

/-- What way returns. -/
def WayTo (known : List Sd) (R : WR) (w : World) (e : Ending) (w' : World) : Prop := (match R with
  | .good l => ∃ v, e = .returned (.tuple #[v, .agg #[.string ⟨#[]⟩, .int .i64 0], .int .i64 0]) ∧ OwnT w.heap.size v (l ++ [(dotB, zSd)]) w' ∧ (l.length ≤ 61 ∧ ∀ p ∈ l, p.2 ∈ known)
  | .miss z => e = .returned (.tuple #[.slice none 0 0, .agg #[.string z, .int .i64 6], .int .i64 4])
  | .bad => e = .returned (.tuple #[.slice none 0 0, .agg #[.string ⟨#[]⟩, .int .i64 0], .int .i64 31])) ∧ Below w.heap.size w w'
theorem set2Q {W : World} {q : Nat} {o0 o1 : Value} {t : TypeId} (a b : Value) (h : W.heap[q]? = some (Obj.cells #[o0, o1] t (0, 0))) :
    ((W.setCell ⟨q, 0, none⟩ a).setCell ⟨q, 1, none⟩ b).heap[q]? = some (Obj.cells #[a, b] t (0, 0)) := heap_setCell_same _ q 1 _ _ b (heap_setCell_same W q 0 _ _ a h)
theorem below2Q {n : Nat} {w W : World} {q : Nat} (h : Below n w W) (hq : n ≤ q) (a b : Value) : Below n w ((W.setCell ⟨q, 0, none⟩ a).setCell ⟨q, 1, none⟩ b) := (h.setCell (p := ⟨q, 0, none⟩) hq a).setCell (p := ⟨q, 1, none⟩) hq b

/-- What the loop of way keeps. -/
structure WayI (known : List Sd) (R : WR) (w W0 wr : World) (z : ByteArray) (acc : List Stp) (k : Nat) (v : Value) : Prop where
  sz : z.size ≤ 60
  fuel : mz z < k
  res : (wayR known k z).pre acc = R
  len : acc.length + mz z ≤ 61
  mem : ∀ p ∈ acc, p.2 ∈ known
  own : OwnT W0.heap.size v acc wr
  bel : Below W0.heap.size W0 wr

set_option maxHeartbeats 8000000 in
set_option maxRecDepth 100000 in
theorem way_any (v : Value) (known : List Sd) (z0 : ByteArray) (w : World) (hv : SlK v known w) (hn : known.length ≤ maxLen) (hz : validB z0.toList = true) (k0 : Nat) (hk : mz z0 < k0) :
    Calls Tryd.prog 35 #[v, .string z0] w (WayTo known (wayR known k0 z0) w) := by
  have hsz : z0.size ≤ 60 := by rw [← tl_len]; exact (valid_small hz).2
  have hmz : mz z0 ≤ 61 := by unfold mz; split <;> omega
  have hb0 := (Below.refl _ w).alloc (Nat.le_refl _) (.cells #[.string ⟨#[]⟩, .int .i64 0] 30)
  have hx0 : (w.alloc (.cells #[.string ⟨#[]⟩, .int .i64 0] 30)).heap[w.heap.size]? = some (Obj.cells #[.string ⟨#[]⟩, .int .i64 0] 30 (0, 0)) := heap_alloc_new w _
  obtain ⟨pk, ck, rfl⟩ := hv.form
  obtain ⟨R, hR⟩ : ∃ R, wayR known k0 z0 = R := ⟨_, rfl⟩
  rw [hR]
  have I0 : Hid (WayI known R w (w.alloc (.cells #[.string ⟨#[]⟩, .int .i64 0] 30)) (w.alloc (.cells #[.string ⟨#[]⟩, .int .i64 0] 30)) z0 [] k0 (.slice none 0 0)) := Lib.hid ⟨hsz, hk, by rw [hR]; cases R <;> rfl, by simpa using hmz, fun p h => absurd h List.not_mem_nil, ownT_nil _ _, Below.refl _ _⟩
  have HV := Lib.hid (hv.keep hb0)
  have CFI := Lib.hid (fun W z (hb : Below w.heap.size w W) => find_any (.slice pk known.length ck) known z 6 W (hv.keep hb) hn)
  have HIN := Lib.hid (fun s (hs : s ∈ known) W (hb : Below w.heap.size w W) => (hv.2 s hs).keep hb)
  have HB0 := Lib.hid hb0
  have HX0 := Lib.hid hx0
  have hdot : Hid (dotB.toList = [46]) := Lib.hid dot_list
  obtain ⟨i0, hi0, hz0, hz1, hz2⟩ := info_parts infoT
  have HI := Lib.hid hi0
  have HZ0 := Lib.hid hz0
  have HZ1 := Lib.hid hz1
  have HZ2 := Lib.hid hz2
  clear hi0 hz0 hz1 hz2 hb0 hx0 hv hn hz hsz hmz hR hk
  generalize known.length = nk at *
  go_enter Tryd.func35, Tryd.ntmps35
  go_wp2
  generalize w.alloc _ = W0 at *
  go_loopw [1, 7] (fun s1 s7 wr => ∃ (z : ByteArray) (acc : List Stp) (k : Nat), s1 = .string z ∧ Hid (WayI known R w W0 wr z acc k s7)) (fun s1 _ _ => match s1 with | .string z => mz z | _ => 0)
  case atStart => exact ⟨z0, [], k0, rfl, I0⟩
  case round =>
    obtain ⟨z, acc, k, rfl, HI1⟩ := hrel
    have hxw := (Array.getElem?_eq_some_iff.1 HX0.out).1
    have hx := (HI1.out.bel.block _ hxw).trans HX0.out
    have h46 : (ByteArray.mk #[46]).toList = [46] := by rw [tl]
    have HOL := Lib.hid (fun j hj => OwnT.lt HI1.out.own j hj)
    by_cases hzd : z = dotB
    · have f0 : (z.toList == [46]) = true := by rw [hzd, hdot.out]; rfl
      have hres : WR.good acc = R := by
        have h := HI1.out.res
        rw [hzd, wayR_dot known k (by have := HI1.out.fuel; omega)] at h
        simpa [WR.pre] using h
      subst hres
      clear hzd
      have hzA : wr.heap.size + 1 = (wr.alloc (.cells #[.string ⟨#[46]⟩, .string ⟨#[]⟩, .int .i64 0, .int .i64 0, .slice none 0 0, .slice none 0 0] 110)).heap.size := by simp
      have hlen := HI1.out.len
      have hW0 := HI1.out.bel.size
      go_wp2_with (at_builtin; refine wpList_append_own _ rfl (.tmp 62) (.tmp 64) 73 rfl W0.heap.size 110 i0 zStp 6 96 Tryd.underlying73 HI.out HZ0.out HZ1.out HZ2.out rfl (by decide) u7 acc.length (rowT acc) rfl (World.ownsRow.alloc HI1.out.own _) ⟨wr.heap.size, 0, none⟩ 1 1 [.string ⟨#[46]⟩, .string ⟨#[]⟩, .int .i64 0, .int .i64 0, .slice none 0 0, .slice none 0 0] rfl rfl (World.news_of_block (cs := #[.string ⟨#[46]⟩, .string ⟨#[]⟩, .int .i64 0, .int .i64 0, .slice none 0 0, .slice none 0 0]) (t := 110) (fr := (0, 0)) (heap_alloc_new wr _)) (by simp [Value.oneCell']) (by unfold maxLen; omega) (by omega) (by simp; omega) ?_; intro v' w5 hown hgrow hiff; clear hiff; have HO := Lib.hid hown; have HG := Lib.hid hgrow; clear hown hgrow; have h5 := (HG.out.block w.heap.size (by simp; omega) (fun e => by have := (HOL.out _ e.symm).1; omega)).trans ((heap_alloc_old wr _ (by omega)).trans hx); have H5 := Lib.hid h5; clear h5; have r0 := cell_of_blk H5.out 0 (.string ⟨#[]⟩) rfl; have r1 := cell_of_blk H5.out 1 (.int .i64 0) rfl; have rf0 := frozen_of_blk H5.out 0; have rf1 := frozen_of_blk H5.out 1)
      have hbw : Below w.heap.size w w5 := HB0.out.trans (((HI1.out.bel.alloc HI1.out.bel.size _).grown HG.out (by simp; omega) (fun j hj => (HOL.out j hj).1)).mono HB0.out.size)
      have hro0 : w5.ownsRow W0.heap.size 110 6 v' (acc ++ [(dotB, zSd)]).length (rowT (acc ++ [(dotB, zSd)])) := by
        rw [List.length_append, rowT_append]
        exact HO.out
      have hmem := HI1.out.mem
      have hy := set2Q (.string ⟨#[]⟩) (.int .i64 0) H5.out
      have hby := below2Q (q := w.heap.size) hbw (Nat.le_refl _) (.string ⟨#[]⟩) (.int .i64 0)
      have hro2 : OwnT w.heap.size v' (acc ++ [(dotB, zSd)]) ((w5.setCell ⟨w.heap.size, 0, none⟩ (.string ⟨#[]⟩)).setCell ⟨w.heap.size, 1, none⟩ (.int .i64 0)) := OwnT.mono (B := W0.heap.size) (ownsRow_setCell_below (ownsRow_setCell_below (hro0 : w5.ownsRow W0.heap.size 110 6 v' (acc ++ [(dotB, zSd)]).length (rowT (acc ++ [(dotB, zSd)]))) (a := ⟨w.heap.size, 0, none⟩) hxw _) (a := ⟨w.heap.size, 1, none⟩) hxw _) HB0.out.size
      generalize (World.setCell _ _ _).setCell _ _ = W' at *
      have y0 := cell_of_blk hy 0 (.string ⟨#[]⟩) rfl
      have y1 := cell_of_blk hy 1 (.int .i64 0) rfl
      refine bodyPost_ret (v := .tuple #[v', .agg #[.string ⟨#[]⟩, .int .i64 0], .int .i64 0]) (by simp [results, Tryd.f35, go_sem, y0, y1]) rfl ⟨⟨_, rfl, hro2, by omega, hmem⟩, hby⟩
    · have f0 : (z.toList == [46]) = false := by
        rw [beq_eq_false_iff_ne]
        intro h
        exact hzd (ba_eqT (h.trans hdot.out.symm))
      have hb1 : Below wr.heap.size wr (wr.alloc (.cells #[.string z, .int .i64 6] 30)) := (Below.refl _ wr).alloc (Nat.le_refl _) _
      have hq1 : (wr.alloc (.cells #[.string z, .int .i64 6] 30)).heap[wr.heap.size]? = some (Obj.cells #[.string z, .int .i64 6] 30 (0, 0)) := heap_alloc_new wr _
      have hbw : Below w.heap.size w wr := HB0.out.trans (HI1.out.bel.mono HB0.out.size)
      have CF0 := CFI.out _ z (hbw.trans (hb1.mono hbw.size))
      have hres := HI1.out.res
      have hfu := HI1.out.fuel
      obtain ⟨k1, rfl⟩ : ∃ j, k = j + 1 := ⟨k - 1, by omega⟩
      unfold wayR at hres
      rw [if_neg hzd] at hres
      unfold FstS at CF0
      obtain ⟨F, hF⟩ : ∃ F, findK known z 6 = F := ⟨_, rfl⟩
      rw [hF] at CF0 hres
      have HHX := Lib.hid hx
      have HBW := Lib.hid hbw
      have hwr : w.heap.size < wr.heap.size := (Array.getElem?_eq_some_iff.1 hx).1
      clear hx hbw
      cases F with
      | none =>
        have hr2 : R = WR.miss z := by rw [← hres]; rfl
        have CF := Lib.hid CF0
        unfold fstV at CF
        simp only at CF
        subst hr2
        clear CF0 hres hF hfu
        go_upto_region 6 with (go_at_call 72; (with_reducible refine (CF.out).mono ?_); rintro e w2 ⟨rfl, hb⟩; have HB2 := Lib.hid (hb1.trans (hb.mono hb1.size)); have hq2 := (hb.block wr.heap.size (by simp)).trans hq1; clear hb)
        have HB3 := Lib.hid (HB2.out.alloc HB2.out.size (.cells #[.string ⟨#[]⟩, .int .i64 0, .int .i64 0, .slice none 0 0, .slice none 0 0] 37))
        have hx3 : (w2.alloc (.cells #[.string ⟨#[]⟩, .int .i64 0, .int .i64 0, .slice none 0 0, .slice none 0 0] 37)).heap[w.heap.size]? = some (Obj.cells #[.string ⟨#[]⟩, .int .i64 0] 30 (0, 0)) := (HB3.out.block _ hwr).trans HHX.out
        have hw2 := (Array.getElem?_eq_some_iff.1 hq2).1
        have hq3 := (heap_alloc_old w2 (.cells #[.string ⟨#[]⟩, .int .i64 0, .int .i64 0, .slice none 0 0, .slice none 0 0] 37) hw2).trans hq2
        have HX3 := Lib.hid hx3
        have BW3 := Lib.hid (HBW.out.trans (HB3.out.mono HBW.out.size))
        clear hx3 hq2 hq1 hb1 hw2
        generalize w2.alloc _ = W3 at *
        have q0 := cell_of_blk hq3 0 (.string z) rfl
        have q1 := cell_of_blk hq3 1 (.int .i64 6) rfl
        have r0 := cell_of_blk HX3.out 0 (.string ⟨#[]⟩) rfl
        have r1 := cell_of_blk HX3.out 1 (.int .i64 0) rfl
        have rf0 := frozen_of_blk HX3.out 0
        have rf1 := frozen_of_blk HX3.out 1
        clear hq3
        go_region
        go_wp2
        have hy : (((W3.setCell ⟨w.heap.size, 0, none⟩ (.string z)).setCell ⟨w.heap.size, 1, none⟩ (.int .i64 6)).drew).heap[w.heap.size]? = some (Obj.cells #[.string z, .int .i64 6] 30 (0, 0)) := set2Q (.string z) (.int .i64 6) HX3.out
        have hby : Below w.heap.size w (((W3.setCell ⟨w.heap.size, 0, none⟩ (.string z)).setCell ⟨w.heap.size, 1, none⟩ (.int .i64 6)).drew) := below_drewN (below2Q (q := w.heap.size) (BW3.out) (Nat.le_refl _) (.string z) (.int .i64 6)) 1
        generalize ((World.setCell _ _ _).setCell _ _).drew = W' at *
        have y0 := cell_of_blk hy 0 (.string z) rfl
        have y1 := cell_of_blk hy 1 (.int .i64 6) rfl
        refine bodyPost_ret (v := .tuple #[.slice none 0 0, .agg #[.string z, .int .i64 6], .int .i64 4]) (by simp [results, Tryd.f35, go_sem, y0, y1]) rfl ⟨rfl, hby⟩
      | some s =>
        have hmem := List.mem_of_find?_eq_some hF
        have hsin := HIN.out s hmem
        have hsl := (hsin w (Below.refl _ _)).len
        have hsz := (hsin w (Below.refl _ _)).hz
        have CF := Lib.hid CF0
        unfold fstV at CF
        clear CF0 hF hsin
        obtain ⟨x, ty, lf, p, n, c, q, m, d, dl, sg⟩ := s
        simp only at CF hres hsl hsz
        obtain ⟨hsl1, hsl2⟩ := hsl
        have HSL := Lib.hid hsl2
        have HSZ := Lib.hid hsz
        have HRES := Lib.hid hres
        clear hsl1 hsl2 hsz hres
        go_upto_region 7 with (go_at_call 72; (with_reducible refine (CF.out).mono ?_); rintro e w2 ⟨rfl, hb⟩; have HB2 := Lib.hid (hb1.trans (hb.mono hb1.size)); clear hb)
        have HB3 := Lib.hid (HB2.out.alloc HB2.out.size (.cells #[.string x, .int .i64 ty, .int .i64 lf, .slice p n c, .slice q m d] 37))
        have BW3 := Lib.hid (HBW.out.trans (HB3.out.mono HBW.out.size))
        have BW3' : Hid (Below W0.heap.size W0 (w2.alloc (.cells #[.string x, .int .i64 ty, .int .i64 lf, .slice p n c, .slice q m d] 37))) := Lib.hid (HI1.out.bel.trans (HB3.out.mono HI1.out.bel.size))
        have HX3 : Hid ((w2.alloc (.cells #[.string x, .int .i64 ty, .int .i64 lf, .slice p n c, .slice q m d] 37)).heap[w.heap.size]? = some (Obj.cells #[.string ⟨#[]⟩, .int .i64 0] 30 (0, 0))) := Lib.hid ((HB3.out.block _ hwr).trans HHX.out)
        have HS3 : Hid ((w2.alloc (.cells #[.string x, .int .i64 ty, .int .i64 lf, .slice p n c, .slice q m d] 37)).heap[w2.heap.size]? = some (Obj.cells #[.string x, .int .i64 ty, .int .i64 lf, .slice p n c, .slice q m d] 37 (0, 0))) := Lib.hid (heap_alloc_new w2 _)
        have HO3 := Lib.hid (OwnT.keep HI1.out.own HB3.out)
        have hB9 : wr.heap.size ≤ w2.heap.size := HB2.out.size
        have hB9' : w2.heap.size < (w2.alloc (.cells #[.string x, .int .i64 ty, .int .i64 lf, .slice p n c, .slice q m d] 37)).heap.size := by simp
        clear hq1 hb1
        obtain ⟨B9, hB⟩ : ∃ b, w2.heap.size = b := ⟨_, rfl⟩
        rw [hB] at HS3 hB9 hB9' ⊢
        clear hB
        generalize w2.alloc _ = W3 at *
        have s0 := cell_of_blk HS3.out 0 (.string x) rfl
        have s1 := cell_of_blk HS3.out 1 (.int .i64 ty) rfl
        have s2 := cell_of_blk HS3.out 2 (.int .i64 lf) rfl
        have s3 := cell_of_blk HS3.out 3 (.slice p n c) rfl
        have s4 := cell_of_blk HS3.out 4 (.slice q m d) rfl
        have r0 := cell_of_blk HX3.out 0 (.string ⟨#[]⟩) rfl
        have r1 := cell_of_blk HX3.out 1 (.int .i64 0) rfl
        have rf0 := frozen_of_blk HX3.out 0
        have rf1 := frozen_of_blk HX3.out 1
        have hW0 := HI1.out.bel.size
        have hlen := HI1.out.len
        cases sg with
        | nil =>
          have hr2 : R = WR.bad := by rw [← HRES.out]; rfl
          subst hr2
          obtain rfl : m = 0 := HSL.out
          clear HRES
          go_wp2
          have hy := set2Q (.string ⟨#[]⟩) (.int .i64 0) HX3.out
          have hby := below2Q (q := w.heap.size) (BW3.out) (Nat.le_refl _) (.string ⟨#[]⟩) (.int .i64 0)
          generalize (World.setCell _ _ _).setCell _ _ = W' at *
          have y0 := cell_of_blk hy 0 (.string ⟨#[]⟩) rfl
          have y1 := cell_of_blk hy 1 (.int .i64 0) rfl
          refine bodyPost_ret (v := .tuple #[.slice none 0 0, .agg #[.string ⟨#[]⟩, .int .i64 0], .int .i64 31]) (by simp [results, Tryd.f35, go_sem, y0, y1]) rfl ⟨rfl, hby⟩
        | cons g gr =>
          obtain ⟨gz, gk, gal, gf, gu, gm⟩ := g
          have hm1 : 1 ≤ m := by have := HSL.out; simp at this; omega
          have m0 : ¬ ((m : Int) = 0) := by omega
          have m2 : ((m : Int) == 0) = false := by simpa using m0
          have m3 : (0 : Int) < (m : Int) := by omega
          have hgz : gz.size ≤ maxLen := HSZ.out _ List.mem_cons_self
          have hzz : z.size ≤ maxLen := by have := HI1.out.sz; unfold maxLen; omega
          have CU := Lib.hid (fun W => Under_all z gz W hzz hgz)
          have CP := Lib.hid (fun W => hasPrefix_any gz W hgz)
          clear hgz hzz
          go_upto_region 11 with (at_builtin; refine wpList_append_own _ rfl (.tmp 32) (.tmp 36) 73 rfl W0.heap.size 110 i0 zStp 6 96 Tryd.underlying73 HI.out HZ0.out HZ1.out HZ2.out rfl (by decide) u7 acc.length (rowT acc) rfl (World.ownsRow.alloc HO3.out _) ⟨W3.heap.size, 0, none⟩ 1 1 [.string z, .string x, .int .i64 ty, .int .i64 lf, .slice p n c, .slice q m d] rfl rfl (World.news_of_block (cs := #[.string z, .string x, .int .i64 ty, .int .i64 lf, .slice p n c, .slice q m d]) (t := 110) (fr := (0, 0)) (heap_alloc_new W3 _)) (by simp [Value.oneCell']) (by unfold maxLen; omega) (by omega) (by simp; omega) ?_; intro v' w5 hown hgrow hiff; clear hiff; have HO := Lib.hid hown; have HG := Lib.hid hgrow; clear hown hgrow; have H5 := Lib.hid ((HG.out.block w.heap.size (by simp; omega) (fun e => by have := (HOL.out _ e.symm).1; omega)).trans ((heap_alloc_old W3 _ (by omega)).trans HX3.out)); have S5 := Lib.hid ((HG.out.block B9 (by simp; omega) (fun e => by have := (HOL.out _ e.symm).2; omega)).trans ((heap_alloc_old W3 _ (by omega)).trans HS3.out)); have BE5 := Lib.hid ((BW3'.out.alloc BW3'.out.size _).grown HG.out (by simp; omega) (fun j hj => (HOL.out j hj).1)); have SG5 := Lib.hid (((HIN.out _ hmem _ (HB0.out.trans (BE5.out.mono HB0.out.size))).hg)); have GA : SlG (.slice q m d) (⟨gz, gk, gal, gf, gu, gm⟩ :: gr) w5 := SG5.out; obtain ⟨bg, og, rfl, hbg, hrg⟩ := GA.at_ (by simp); have ga0 : w5.cell? ⟨bg, og + 0 * 6, none⟩ = some (.string gz) := (hrg.at_ (i := 0) rfl).c0; rw [Nat.zero_mul, Nat.add_zero] at ga0; clear GA hrg s0 s1 s2 s3 s4 r0 r1 rf0 rf1; have s0 := cell_of_blk S5.out 0 (.string x) rfl; have s1 := cell_of_blk S5.out 1 (.int .i64 ty) rfl; have s2 := cell_of_blk S5.out 2 (.int .i64 lf) rfl; have s3 := cell_of_blk S5.out 3 (.slice p n c) rfl; have s4 := cell_of_blk S5.out 4 (.slice (some ⟨bg, og, none⟩) m d) rfl; have r0 := cell_of_blk H5.out 0 (.string ⟨#[]⟩) rfl; have r1 := cell_of_blk H5.out 1 (.int .i64 0) rfl; have rf0 := frozen_of_blk H5.out 0; have rf1 := frozen_of_blk H5.out 1)
          have hin : inB z.toList gz.toList = inB z.toList gz.toList := rfl
          have hst : stepB z gz = (inB z.toList gz.toList && !decide (gz = z) && !wildB gz.toList) := rfl
          have hmz := fun h => mz_lt (z := z) (a := gz) hzd h
          generalize inE z.toList gz.toList = ie at *
          obtain ⟨ib, hib⟩ : ∃ b, inB z.toList gz.toList = b := ⟨_, rfl⟩
          obtain ⟨wb, hwb⟩ : ∃ b, wildB gz.toList = b := ⟨_, rfl⟩
          rw [hib] at CU hst
          rw [hwb] at CP hst
          have HRES2 := HRES.out
          simp only at HRES2
          clear hin hib hwb HRES
          by_cases hgo : stepB z gz = true
          · rw [if_pos hgo, pre_push] at HRES2
            obtain ⟨hm1', hm2'⟩ := hmz hgo
            rw [hgo] at hst
            have h3 : ib = true ∧ ¬ gz = z ∧ wb = false := by
              have h := hst.symm
              simp only [Bool.and_eq_true, Bool.not_eq_true', decide_eq_false_iff_not] at h
              exact ⟨h.1.1, h.1.2, h.2⟩
            obtain ⟨rfl, hne, rfl⟩ := h3
            have f2 : (gz.toList == z.toList) = false := by
              rw [beq_eq_false_iff_ne]
              intro h
              exact hne (ba_eqT h)
            have HN := Lib.hid hne
            have HR2 := Lib.hid HRES2
            clear hst hmz hgo hne HRES2
            have I5 : Hid (WayI known R w W0 w5 gz (acc ++ [(z, ⟨x, ty, lf, p, n, c, some ⟨bg, og, none⟩, m, d, dl, ⟨gz, gk, gal, gf, gu, gm⟩ :: gr⟩)]) k1 v') := Lib.hid (by
              refine ⟨hm2', by omega, HR2.out, by rw [List.length_append]; simp; omega, ?_, ?_, BE5.out⟩
              · intro p hp
                rcases List.mem_append.1 hp with hp | hp
                · exact HI1.out.mem p hp
                · rw [List.mem_singleton.1 hp]; exact hmem
              · unfold OwnT
                rw [List.length_append, rowT_append]
                exact HO.out)
            go_wp2_with (first | (go_at_call 57; (with_reducible refine (CU.out _).mono ?_); rintro e w6 ⟨rfl, rfl⟩) | (go_at_call 33; (with_reducible refine (CP.out _).mono ?_); rintro e w7 ⟨rfl, rfl⟩))
            go_roundw
            case rel => exact ⟨gz, _, k1, rfl, I5⟩
            case measure => exact hm1'
          · rw [if_neg hgo] at HRES2
            have hr2 : R = WR.bad := by rw [← HRES2]; rfl
            subst hr2
            have hst2 : (ib && !decide (gz = z) && !wb) = false := by rw [← hst]; simpa using hgo
            clear hst hmz hgo HRES2
            cases ib
            · go_wp2_with (first | (go_at_call 57; (with_reducible refine (CU.out _).mono ?_); rintro e w6 ⟨rfl, rfl⟩) | (go_at_call 33; (with_reducible refine (CP.out _).mono ?_); rintro e w7 ⟨rfl, rfl⟩))
              have hy := set2Q (.string ⟨#[]⟩) (.int .i64 0) H5.out
              have hby := below2Q (q := w.heap.size) (HB0.out.trans (BE5.out.mono HB0.out.size)) (Nat.le_refl _) (.string ⟨#[]⟩) (.int .i64 0)
              generalize (World.setCell _ _ _).setCell _ _ = W' at *
              have y0 := cell_of_blk hy 0 (.string ⟨#[]⟩) rfl
              have y1 := cell_of_blk hy 1 (.int .i64 0) rfl
              refine bodyPost_ret (v := .tuple #[.slice none 0 0, .agg #[.string ⟨#[]⟩, .int .i64 0], .int .i64 31]) (by simp [results, Tryd.f35, go_sem, y0, y1]) rfl ⟨rfl, hby⟩
            · by_cases hne : gz = z
              · have f2 : (gz.toList == z.toList) = true := by rw [hne]; simp
                clear hne hst2
                go_wp2_with (first | (go_at_call 57; (with_reducible refine (CU.out _).mono ?_); rintro e w6 ⟨rfl, rfl⟩) | (go_at_call 33; (with_reducible refine (CP.out _).mono ?_); rintro e w7 ⟨rfl, rfl⟩))
                have hy := set2Q (.string ⟨#[]⟩) (.int .i64 0) H5.out
                have hby := below2Q (q := w.heap.size) (HB0.out.trans (BE5.out.mono HB0.out.size)) (Nat.le_refl _) (.string ⟨#[]⟩) (.int .i64 0)
                generalize (World.setCell _ _ _).setCell _ _ = W' at *
                have y0 := cell_of_blk hy 0 (.string ⟨#[]⟩) rfl
                have y1 := cell_of_blk hy 1 (.int .i64 0) rfl
                refine bodyPost_ret (v := .tuple #[.slice none 0 0, .agg #[.string ⟨#[]⟩, .int .i64 0], .int .i64 31]) (by simp [results, Tryd.f35, go_sem, y0, y1]) rfl ⟨rfl, hby⟩
              · have f2 : (gz.toList == z.toList) = false := by
                  rw [beq_eq_false_iff_ne]
                  intro h
                  exact hne (ba_eqT h)
                obtain rfl : wb = true := by simpa [hne] using hst2
                clear hne hst2
                go_wp2_with (first | (go_at_call 57; (with_reducible refine (CU.out _).mono ?_); rintro e w6 ⟨rfl, rfl⟩) | (go_at_call 33; (with_reducible refine (CP.out _).mono ?_); rintro e w7 ⟨rfl, rfl⟩))
                have hy := set2Q (.string ⟨#[]⟩) (.int .i64 0) H5.out
                have hby := below2Q (q := w.heap.size) (HB0.out.trans (BE5.out.mono HB0.out.size)) (Nat.le_refl _) (.string ⟨#[]⟩) (.int .i64 0)
                generalize (World.setCell _ _ _).setCell _ _ = W' at *
                have y0 := cell_of_blk hy 0 (.string ⟨#[]⟩) rfl
                have y1 := cell_of_blk hy 1 (.int .i64 0) rfl
                refine bodyPost_ret (v := .tuple #[.slice none 0 0, .agg #[.string ⟨#[]⟩, .int .i64 0], .int .i64 31]) (by simp [results, Tryd.f35, go_sem, y0, y1]) rfl ⟨rfl, hby⟩
end Go.Proofs.YtkhckgknldiheaaDoor

