/- The head of layer 10's laws; no condition beyond those that each theorem names. -/
import Derived.Test.YtkhckgknldiheaaDoorTH
import Derived.Deep.CutRange
import Derived.Deep.RegionWith
import Derived.Deep.RegionHeld3
namespace Go.Proofs.YtkhckgknldiheaaDoor
set_option linter.unusedSimpArgs false
set_option linter.unusedVariables false
open Go.RowKit
open NmP SpP

theorem slsE_new (W : World) (x : Sp) (t : TypeId) : SlS (.slice (some ⟨W.heap.size, 0, none⟩) 1 1) [x] (W.alloc (.cells #[.int .i64 x.1, .int .i64 x.2] t)) := by
  refine .inr ⟨W.heap.size, 0, 1, rfl, by simp, fun m u hm => ?_⟩
  rw [Nat.zero_add, World.cell?_alloc_at _ _ _ _ rfl]
  simpa [rowS, valsS] using hm
theorem HX.k1 {w W : World} {q b g : Nat} {s1 s2 s3 : Sd} (h : HX w q b g s1 s2 s3 W) : KAt W b 0 s1 := by
  obtain ⟨b', off, hp, hl, hR⟩ := h.k.at_ (by simp)
  rcases h.k.1 with ⟨h1, -⟩ | ⟨b2, off2, c2, h2, h3, h4⟩
  · cases h1
  · cases h2
    exact h4.at_ (i := 0) rfl
theorem HX.k2 {w W : World} {q b g : Nat} {s1 s2 s3 : Sd} (h : HX w q b g s1 s2 s3 W) : KAt W b 5 s2 := by
  rcases h.k.1 with ⟨h1, -⟩ | ⟨b2, off2, c2, h2, h3, h4⟩
  · cases h1
  · cases h2
    exact h4.at_ (i := 1) rfl
/-- The questions that the head asks. -/
def QsAt (q : Nat) (W : World) : Prop := W.heap[q + 1]? = some (Obj.cells #[.string ⟨#[120]⟩, .int .i64 6, .string ⟨#[46]⟩, .int .i64 7, .string ⟨#[120]⟩, .int .i64 7] 30 (0, 0))
theorem QsAt.keep {q : Nat} {W W' : World} (h : QsAt q W) (hb : Below W.heap.size W W') : QsAt q W' :=
  (hb.block (q + 1) (Array.getElem?_eq_some_iff.1 h).1).trans h
theorem hx_new {w W : World} {b g : Nat} {s1 s2 s3 : Sd} (hs : ExS s1 s2 s3) (hk : SlK (.slice (some ⟨b, 0, none⟩) 3 3) [s1, s2, s3] W) (hd : SlD (.slice (some ⟨g, 0, none⟩) 1 1) [dE 1] W) (hb : Below w.heap.size w W) :
    HX w W.heap.size b g s1 s2 s3 ((W.alloc (.cells #[.string ⟨#[46]⟩, .int .i64 6, .int .i64 0, .slice (some ⟨g, 0, none⟩) 1 1] 25)).alloc (.cells #[.string ⟨#[120]⟩, .int .i64 6, .string ⟨#[46]⟩, .int .i64 7, .string ⟨#[120]⟩, .int .i64 7] 30)) ∧
    QsAt W.heap.size ((W.alloc (.cells #[.string ⟨#[46]⟩, .int .i64 6, .int .i64 0, .slice (some ⟨g, 0, none⟩) 1 1] 25)).alloc (.cells #[.string ⟨#[120]⟩, .int .i64 6, .string ⟨#[46]⟩, .int .i64 7, .string ⟨#[120]⟩, .int .i64 7] 30)) := by
  have b1 := (bnewE W (.cells #[.string ⟨#[46]⟩, .int .i64 6, .int .i64 0, .slice (some ⟨g, 0, none⟩) 1 1] 25))
  have b2 := bnewE (W.alloc (.cells #[.string ⟨#[46]⟩, .int .i64 6, .int .i64 0, .slice (some ⟨g, 0, none⟩) 1 1] 25)) (.cells #[.string ⟨#[120]⟩, .int .i64 6, .string ⟨#[46]⟩, .int .i64 7, .string ⟨#[120]⟩, .int .i64 7] 30)
  have b12 := b1.trans (b2.mono b1.size)
  refine ⟨⟨hb.trans (b12.mono hb.size), hb.size, ?_, hk.keep b12, hd.keep b12, hs⟩, ?_⟩
  · exact (heap_alloc_old _ _ (by simp)).trans (heap_alloc_new W _)
  · have h := heap_alloc_new (W.alloc (.cells #[.string ⟨#[46]⟩, .int .i64 6, .int .i64 0, .slice (some ⟨g, 0, none⟩) 1 1] 25)) (.cells #[.string ⟨#[120]⟩, .int .i64 6, .string ⟨#[46]⟩, .int .i64 7, .string ⟨#[120]⟩, .int .i64 7] 30)
    unfold QsAt
    simpa using h

theorem set2I {W : World} {q : Nat} {o0 o1 : Value} {t : TypeId} (a b : Value) (h : W.heap[q]? = some (Obj.cells #[o0, o1] t (0, 0))) : ((W.setCell ⟨q, 0, none⟩ a).setCell ⟨q, 1, none⟩ b).heap[q]? = some (Obj.cells #[a, b] t (0, 0)) := by
  have h1 := heap_setCell_same W q 0 _ _ a h
  exact heap_setCell_same _ q 1 _ _ b h1
/-- What a round keeps. -/
structure RY (w : World) (q b g : Nat) (s1 s2 s3 : Sd) (z : ByteArray) (n : Int) (e : Nat) (W : World) : Prop where
  h : HX w q b g s1 s2 s3 W
  qs : QsAt q W
  c : W.heap[e]? = some (Obj.cells #[.string z, .int .i64 n] 30 (0, 0))
theorem RY.keep {w W W' : World} {q b g : Nat} {s1 s2 s3 : Sd} {z : ByteArray} {n : Int} {e : Nat} (h : RY w q b g s1 s2 s3 z n e W) (hb : Below W.heap.size W W') : RY w q b g s1 s2 s3 z n e W' :=
  ⟨h.h.keep hb, h.qs.keep hb, (hb.block e (Array.getElem?_eq_some_iff.1 h.c).1).trans h.c⟩
theorem RY.lt {w W : World} {q b g : Nat} {s1 s2 s3 : Sd} {z : ByteArray} {n : Int} {e : Nat} (h : RY w q b g s1 s2 s3 z n e W) : q < W.heap.size := (Array.getElem?_eq_some_iff.1 h.h.st).1
theorem ry_new {w W : World} {q b g : Nat} {s1 s2 s3 : Sd} (h : HX w q b g s1 s2 s3 W) (hq : QsAt q W) (z : ByteArray) (n : Int) : RY w q b g s1 s2 s3 z n W.heap.size (W.alloc (.cells #[.string z, .int .i64 n] 30)) :=
  ⟨h.keep (bnewE W _), hq.keep (bnewE W _), heap_alloc_new W _⟩
set_option maxHeartbeats 4000000 in
set_option maxRecDepth 100000 in
theorem head_any (w : World) (hr : RulesAt w) : Calls Tryd.prog 9 #[] w (fun e w' => e = .returned (.bool true) ∧ Below w.heap.size w w') := by
  have CE := Lib.hid (example_any w hr)
  have HR := Lib.hid hr
  go_enter Tryd.func9, Tryd.ntmps9
  go_wp2_with (go_at_call 29; (with_reducible refine (CE.out).mono ?_); rintro e w1 ⟨b, s1, s2, s3, g, rfl, hs, hk, hd, hb⟩; have HN := Lib.hid (hx_new hs hk hd hb); clear hs hk hd hb)
  obtain ⟨HX0, HQ0⟩ := HN.out
  generalize (w1.alloc _).alloc _ = V0 at *
  generalize w1.heap.size = q at *
  clear CE
  replace HX0 := Lib.hid HX0
  replace HQ0 := Lib.hid HQ0
  clear HN
  refine wp_loop_rounds 4 ?_
  rw [rounds_succ]
  have k0 := cell_of_blk HQ0.out 0 (.string ⟨#[120]⟩) rfl
  have k1 := cell_of_blk HQ0.out 1 (.int .i64 6) rfl
  have k2 := cell_of_blk HQ0.out 2 (.string ⟨#[46]⟩) rfl
  have k3 := cell_of_blk HQ0.out 3 (.int .i64 7) rfl
  have k4 := cell_of_blk HQ0.out 4 (.string ⟨#[120]⟩) rfl
  have k5 := cell_of_blk HQ0.out 5 (.int .i64 7) rfl
  have HY0 := Lib.hid (ry_new HX0.out HQ0.out ⟨#[120]⟩ 6)
  go_upto_region 5 with fail
  generalize V0.heap.size = e4a at *
  generalize V0.alloc _ = V4a at *
  clear HX0 HQ0 k0 k1 k2 k3 k4 k5
  have HY : Hid (RY w q b g s1 s2 s3 ⟨#[120]⟩ 6 e4a V4a.drew) := Lib.hid (HY0.out.keep (below_drewD (Below.refl _ V4a) 1))
  have HYP : Hid (RY w q b g s1 s2 s3 ⟨#[120]⟩ 6 e4a (V4a.alloc (.cells #[.string ⟨#[]⟩, .int .i64 0] 30)).drew) := Lib.hid ((HY0.out.keep (bnewE V4a _)).keep (below_drewD (Below.refl _ _) 1))
  have HZP : Hid ((V4a.alloc (.cells #[.string ⟨#[]⟩, .int .i64 0] 30)).drew.heap[V4a.heap.size]? = some (Obj.cells #[.string ⟨#[]⟩, .int .i64 0] 30 (0, 0))) := Lib.hid (heap_alloc_new V4a _)
  have HBP : Hid (Below V4a.heap.size V4a (V4a.alloc (.cells #[.string ⟨#[]⟩, .int .i64 0] 30)).drew) := Lib.hid (below_drewD (bnewE V4a _) 1)
  have CP := Lib.hid (fun W (h : RY w q b g s1 s2 s3 ⟨#[120]⟩ 6 e4a W) => cp0 h.h (HR.out.keep h.h.bel))
  have a0 := cell_of_blk HY0.out.h.st 0 (.string ⟨#[46]⟩) rfl
  have a1 := cell_of_blk HY0.out.h.st 1 (.int .i64 6) rfl
  have a2 := cell_of_blk HY0.out.h.st 2 (.int .i64 0) rfl
  have a3 := cell_of_blk HY0.out.h.st 3 (.slice (some ⟨g, 0, none⟩) 1 1) rfl
  have lt0 := HY0.out.lt
  have nq : q ≠ V4a.heap.size := Nat.ne_of_lt HY0.out.lt
  have nq' : V4a.heap.size ≠ q := fun h => nq h.symm
  have nq2 : (q = V4a.heap.size) = False := eq_false nq
  go_cut [5, 6, 7] from 36 to 44 (fun s5 s6 s7 wx => s5 = .slice none 0 0 ∧ s7 = .int .i64 4 ∧ ∃ q6, s6 = .pointer (some ⟨q6, 0, none⟩) ∧ Hid (RY w q b g s1 s2 s3 ⟨#[120]⟩ 6 e4a wx ∧ wx.heap[q6]? = some (Obj.cells #[.string ⟨#[120]⟩, .int .i64 6] 30 (0, 0))))
  case first =>
    go_region_held3 (fun w' => w'.cell? ⟨q, 0, none⟩ = some (.string ⟨#[46]⟩) ∧ w'.cell? ⟨q, 1, none⟩ = some (.int .i64 6) ∧ w'.cell? ⟨q, 2, none⟩ = some (.int .i64 0) ∧ w'.cell? ⟨q, 3, none⟩ = some (.slice (some ⟨g, 0, none⟩) 1 1)) (go_keep)
      (first | (go_at_call 11; (with_reducible refine (CP.out _ HY.out).mono ?_); rintro e w5 ⟨rfl, hb⟩; replace HY := Lib.hid (HY.out.keep hb); clear hb a0 a1 a2 a3 lt0; have a0 := cell_of_blk HY.out.h.st 0 (.string ⟨#[46]⟩) rfl; have a1 := cell_of_blk HY.out.h.st 1 (.int .i64 6) rfl; have a2 := cell_of_blk HY.out.h.st 2 (.int .i64 0) rfl; have a3 := cell_of_blk HY.out.h.st 3 (.slice (some ⟨g, 0, none⟩) 1 1) rfl; have lt0 := HY.out.lt) | (go_at_call 11; (with_reducible refine (CP.out _ HYP.out).mono ?_); rintro e w5 ⟨rfl, hb⟩; have HB5 := Lib.hid (HBP.out.trans (hb.mono HBP.out.size)); have HZ := Lib.hid ((hb.block V4a.heap.size (by simp)).trans HZP.out); replace HY := Lib.hid (HYP.out.keep hb); clear hb a0 a1 a2 a3 lt0; have a0 := cell_of_blk HY.out.h.st 0 (.string ⟨#[46]⟩) rfl; have a1 := cell_of_blk HY.out.h.st 1 (.int .i64 6) rfl; have a2 := cell_of_blk HY.out.h.st 2 (.int .i64 0) rfl; have a3 := cell_of_blk HY.out.h.st 3 (.slice (some ⟨g, 0, none⟩) 1 1) rfl; have lt0 := HY.out.lt; have z0 := cell_of_blk HZ.out 0 (.string ⟨#[]⟩) rfl; have z1 := cell_of_blk HZ.out 1 (.int .i64 0) rfl; have zf0 := frozen_of_blk HZ.out 0; have zf1 := frozen_of_blk HZ.out 1))
    · go_wp2_with fail
      go_meet
      exact ⟨rfl, rfl, _, rfl, Lib.hid ⟨HY.out.keep (bnewE _ _), heap_alloc_new _ _⟩⟩
    · go_wp2_with fail
      go_meet
      exact ⟨rfl, rfl, _, rfl, Lib.hid ⟨HY0.out.keep (below2Q HB5.out (Nat.le_refl _) _ _), set2I _ _ HZ.out⟩⟩
  case rest =>
    obtain ⟨rfl, rfl, q6a, rfl, HZ⟩ := hcut
    have c0 := cell_of_blk HZ.out.1.c 0 (.string ⟨#[120]⟩) rfl
    have c1 := cell_of_blk HZ.out.1.c 1 (.int .i64 6) rfl
    have d0 := cell_of_blk HZ.out.2 0 (.string ⟨#[120]⟩) rfl
    have d1 := cell_of_blk HZ.out.2 1 (.int .i64 6) rfl
    have HX0 := Lib.hid HZ.out.1.h
    have HQ0 := Lib.hid HZ.out.1.qs
    clear CP HBP HZP HYP HY HY0 a0 a1 a2 a3 lt0 nq nq' nq2 HZ
    obtain ⟨Va, hVa⟩ : ∃ V, V = wc := ⟨_, rfl⟩
    subst hVa
    go_wp2_with fail
    clear c0 c1 d0 d1
    rw [rounds_succ]
    have k0 := cell_of_blk HQ0.out 0 (.string ⟨#[120]⟩) rfl
    have k1 := cell_of_blk HQ0.out 1 (.int .i64 6) rfl
    have k2 := cell_of_blk HQ0.out 2 (.string ⟨#[46]⟩) rfl
    have k3 := cell_of_blk HQ0.out 3 (.int .i64 7) rfl
    have k4 := cell_of_blk HQ0.out 4 (.string ⟨#[120]⟩) rfl
    have k5 := cell_of_blk HQ0.out 5 (.int .i64 7) rfl
    have HY0 := Lib.hid (ry_new HX0.out HQ0.out ⟨#[46]⟩ 7)
    go_upto_region 5 with fail
    generalize Va.heap.size = e4b at *
    generalize Va.alloc _ = V4b at *
    clear HX0 HQ0 k0 k1 k2 k3 k4 k5
    have HY : Hid (RY w q b g s1 s2 s3 ⟨#[46]⟩ 7 e4b V4b.drew) := Lib.hid (HY0.out.keep (below_drewD (Below.refl _ V4b) 1))
    have HYP : Hid (RY w q b g s1 s2 s3 ⟨#[46]⟩ 7 e4b (V4b.alloc (.cells #[.string ⟨#[]⟩, .int .i64 0] 30)).drew) := Lib.hid ((HY0.out.keep (bnewE V4b _)).keep (below_drewD (Below.refl _ _) 1))
    have HZP : Hid ((V4b.alloc (.cells #[.string ⟨#[]⟩, .int .i64 0] 30)).drew.heap[V4b.heap.size]? = some (Obj.cells #[.string ⟨#[]⟩, .int .i64 0] 30 (0, 0))) := Lib.hid (heap_alloc_new V4b _)
    have HBP : Hid (Below V4b.heap.size V4b (V4b.alloc (.cells #[.string ⟨#[]⟩, .int .i64 0] 30)).drew) := Lib.hid (below_drewD (bnewE V4b _) 1)
    have CP := Lib.hid (fun W (h : RY w q b g s1 s2 s3 ⟨#[46]⟩ 7 e4b W) => cp1 h.h (HR.out.keep h.h.bel))
    have a0 := cell_of_blk HY0.out.h.st 0 (.string ⟨#[46]⟩) rfl
    have a1 := cell_of_blk HY0.out.h.st 1 (.int .i64 6) rfl
    have a2 := cell_of_blk HY0.out.h.st 2 (.int .i64 0) rfl
    have a3 := cell_of_blk HY0.out.h.st 3 (.slice (some ⟨g, 0, none⟩) 1 1) rfl
    have lt0 := HY0.out.lt
    have nq : q ≠ V4b.heap.size := Nat.ne_of_lt HY0.out.lt
    have nq' : V4b.heap.size ≠ q := fun h => nq h.symm
    have nq2 : (q = V4b.heap.size) = False := eq_false nq
    go_cut [5, 6, 7] from 36 to 44 (fun s5 s6 s7 wx => s5 = .slice none 0 0 ∧ s7 = .int .i64 4 ∧ ∃ q6, s6 = .pointer (some ⟨q6, 0, none⟩) ∧ Hid (RY w q b g s1 s2 s3 ⟨#[46]⟩ 7 e4b wx ∧ wx.heap[q6]? = some (Obj.cells #[.string ⟨#[46]⟩, .int .i64 7] 30 (0, 0))))
    case first =>
      go_region_held3 (fun w' => w'.cell? ⟨q, 0, none⟩ = some (.string ⟨#[46]⟩) ∧ w'.cell? ⟨q, 1, none⟩ = some (.int .i64 6) ∧ w'.cell? ⟨q, 2, none⟩ = some (.int .i64 0) ∧ w'.cell? ⟨q, 3, none⟩ = some (.slice (some ⟨g, 0, none⟩) 1 1)) (go_keep)
        (first | (go_at_call 11; (with_reducible refine (CP.out _ HY.out).mono ?_); rintro e w5 ⟨rfl, hb⟩; replace HY := Lib.hid (HY.out.keep hb); clear hb a0 a1 a2 a3 lt0; have a0 := cell_of_blk HY.out.h.st 0 (.string ⟨#[46]⟩) rfl; have a1 := cell_of_blk HY.out.h.st 1 (.int .i64 6) rfl; have a2 := cell_of_blk HY.out.h.st 2 (.int .i64 0) rfl; have a3 := cell_of_blk HY.out.h.st 3 (.slice (some ⟨g, 0, none⟩) 1 1) rfl; have lt0 := HY.out.lt) | (go_at_call 11; (with_reducible refine (CP.out _ HYP.out).mono ?_); rintro e w5 ⟨rfl, hb⟩; have HB5 := Lib.hid (HBP.out.trans (hb.mono HBP.out.size)); have HZ := Lib.hid ((hb.block V4b.heap.size (by simp)).trans HZP.out); replace HY := Lib.hid (HYP.out.keep hb); clear hb a0 a1 a2 a3 lt0; have a0 := cell_of_blk HY.out.h.st 0 (.string ⟨#[46]⟩) rfl; have a1 := cell_of_blk HY.out.h.st 1 (.int .i64 6) rfl; have a2 := cell_of_blk HY.out.h.st 2 (.int .i64 0) rfl; have a3 := cell_of_blk HY.out.h.st 3 (.slice (some ⟨g, 0, none⟩) 1 1) rfl; have lt0 := HY.out.lt; have z0 := cell_of_blk HZ.out 0 (.string ⟨#[]⟩) rfl; have z1 := cell_of_blk HZ.out 1 (.int .i64 0) rfl; have zf0 := frozen_of_blk HZ.out 0; have zf1 := frozen_of_blk HZ.out 1))
      · go_wp2_with fail
        go_meet
        exact ⟨rfl, rfl, _, rfl, Lib.hid ⟨HY.out.keep (bnewE _ _), heap_alloc_new _ _⟩⟩
      · go_wp2_with fail
        go_meet
        exact ⟨rfl, rfl, _, rfl, Lib.hid ⟨HY0.out.keep (below2Q HB5.out (Nat.le_refl _) _ _), set2I _ _ HZ.out⟩⟩
    case rest =>
      obtain ⟨rfl, rfl, q6b, rfl, HZ⟩ := hcut
      have c0 := cell_of_blk HZ.out.1.c 0 (.string ⟨#[46]⟩) rfl
      have c1 := cell_of_blk HZ.out.1.c 1 (.int .i64 7) rfl
      have d0 := cell_of_blk HZ.out.2 0 (.string ⟨#[46]⟩) rfl
      have d1 := cell_of_blk HZ.out.2 1 (.int .i64 7) rfl
      have HX0 := Lib.hid HZ.out.1.h
      have HQ0 := Lib.hid HZ.out.1.qs
      clear CP HBP HZP HYP HY HY0 a0 a1 a2 a3 lt0 nq nq' nq2 HZ
      obtain ⟨Vb, hVb⟩ : ∃ V, V = wc := ⟨_, rfl⟩
      subst hVb
      go_wp2_with fail
      clear c0 c1 d0 d1
      rw [rounds_succ]
      have k0 := cell_of_blk HQ0.out 0 (.string ⟨#[120]⟩) rfl
      have k1 := cell_of_blk HQ0.out 1 (.int .i64 6) rfl
      have k2 := cell_of_blk HQ0.out 2 (.string ⟨#[46]⟩) rfl
      have k3 := cell_of_blk HQ0.out 3 (.int .i64 7) rfl
      have k4 := cell_of_blk HQ0.out 4 (.string ⟨#[120]⟩) rfl
      have k5 := cell_of_blk HQ0.out 5 (.int .i64 7) rfl
      have HY0 := Lib.hid (ry_new HX0.out HQ0.out ⟨#[120]⟩ 7)
      go_upto_region 5 with fail
      generalize Vb.heap.size = e4c at *
      generalize Vb.alloc _ = V4c at *
      clear HX0 HQ0 k0 k1 k2 k3 k4 k5
      have HY : Hid (RY w q b g s1 s2 s3 ⟨#[120]⟩ 7 e4c V4c.drew) := Lib.hid (HY0.out.keep (below_drewD (Below.refl _ V4c) 1))
      have HYP : Hid (RY w q b g s1 s2 s3 ⟨#[120]⟩ 7 e4c (V4c.alloc (.cells #[.string ⟨#[]⟩, .int .i64 0] 30)).drew) := Lib.hid ((HY0.out.keep (bnewE V4c _)).keep (below_drewD (Below.refl _ _) 1))
      have HZP : Hid ((V4c.alloc (.cells #[.string ⟨#[]⟩, .int .i64 0] 30)).drew.heap[V4c.heap.size]? = some (Obj.cells #[.string ⟨#[]⟩, .int .i64 0] 30 (0, 0))) := Lib.hid (heap_alloc_new V4c _)
      have HBP : Hid (Below V4c.heap.size V4c (V4c.alloc (.cells #[.string ⟨#[]⟩, .int .i64 0] 30)).drew) := Lib.hid (below_drewD (bnewE V4c _) 1)
      have CP := Lib.hid (fun W (h : RY w q b g s1 s2 s3 ⟨#[120]⟩ 7 e4c W) => cp2 h.h (HR.out.keep h.h.bel))
      have a0 := cell_of_blk HY0.out.h.st 0 (.string ⟨#[46]⟩) rfl
      have a1 := cell_of_blk HY0.out.h.st 1 (.int .i64 6) rfl
      have a2 := cell_of_blk HY0.out.h.st 2 (.int .i64 0) rfl
      have a3 := cell_of_blk HY0.out.h.st 3 (.slice (some ⟨g, 0, none⟩) 1 1) rfl
      have lt0 := HY0.out.lt
      have nq : q ≠ V4c.heap.size := Nat.ne_of_lt HY0.out.lt
      have nq' : V4c.heap.size ≠ q := fun h => nq h.symm
      have nq2 : (q = V4c.heap.size) = False := eq_false nq
      go_cut [5, 6, 7] from 36 to 44 (fun s5 s6 s7 wx => s5 = .slice none 0 0 ∧ s7 = .int .i64 4 ∧ ∃ q6, s6 = .pointer (some ⟨q6, 0, none⟩) ∧ Hid (RY w q b g s1 s2 s3 ⟨#[120]⟩ 7 e4c wx ∧ wx.heap[q6]? = some (Obj.cells #[.string ⟨#[120]⟩, .int .i64 7] 30 (0, 0))))
      case first =>
        go_region_held3 (fun w' => w'.cell? ⟨q, 0, none⟩ = some (.string ⟨#[46]⟩) ∧ w'.cell? ⟨q, 1, none⟩ = some (.int .i64 6) ∧ w'.cell? ⟨q, 2, none⟩ = some (.int .i64 0) ∧ w'.cell? ⟨q, 3, none⟩ = some (.slice (some ⟨g, 0, none⟩) 1 1)) (go_keep)
          (first | (go_at_call 11; (with_reducible refine (CP.out _ HY.out).mono ?_); rintro e w5 ⟨rfl, hb⟩; replace HY := Lib.hid (HY.out.keep hb); clear hb a0 a1 a2 a3 lt0; have a0 := cell_of_blk HY.out.h.st 0 (.string ⟨#[46]⟩) rfl; have a1 := cell_of_blk HY.out.h.st 1 (.int .i64 6) rfl; have a2 := cell_of_blk HY.out.h.st 2 (.int .i64 0) rfl; have a3 := cell_of_blk HY.out.h.st 3 (.slice (some ⟨g, 0, none⟩) 1 1) rfl; have lt0 := HY.out.lt) | (go_at_call 11; (with_reducible refine (CP.out _ HYP.out).mono ?_); rintro e w5 ⟨rfl, hb⟩; have HB5 := Lib.hid (HBP.out.trans (hb.mono HBP.out.size)); have HZ := Lib.hid ((hb.block V4c.heap.size (by simp)).trans HZP.out); replace HY := Lib.hid (HYP.out.keep hb); clear hb a0 a1 a2 a3 lt0; have a0 := cell_of_blk HY.out.h.st 0 (.string ⟨#[46]⟩) rfl; have a1 := cell_of_blk HY.out.h.st 1 (.int .i64 6) rfl; have a2 := cell_of_blk HY.out.h.st 2 (.int .i64 0) rfl; have a3 := cell_of_blk HY.out.h.st 3 (.slice (some ⟨g, 0, none⟩) 1 1) rfl; have lt0 := HY.out.lt; have z0 := cell_of_blk HZ.out 0 (.string ⟨#[]⟩) rfl; have z1 := cell_of_blk HZ.out 1 (.int .i64 0) rfl; have zf0 := frozen_of_blk HZ.out 0; have zf1 := frozen_of_blk HZ.out 1))
        · go_wp2_with fail
          go_meet
          exact ⟨rfl, rfl, _, rfl, Lib.hid ⟨HY.out.keep (bnewE _ _), heap_alloc_new _ _⟩⟩
        · go_wp2_with fail
          go_meet
          exact ⟨rfl, rfl, _, rfl, Lib.hid ⟨HY0.out.keep (below2Q HB5.out (Nat.le_refl _) _ _), set2I _ _ HZ.out⟩⟩
      case rest =>
        obtain ⟨rfl, rfl, q6c, rfl, HZ⟩ := hcut
        have c0 := cell_of_blk HZ.out.1.c 0 (.string ⟨#[120]⟩) rfl
        have c1 := cell_of_blk HZ.out.1.c 1 (.int .i64 7) rfl
        have d0 := cell_of_blk HZ.out.2 0 (.string ⟨#[120]⟩) rfl
        have d1 := cell_of_blk HZ.out.2 1 (.int .i64 7) rfl
        have HX0 := Lib.hid HZ.out.1.h
        have HQ0 := Lib.hid HZ.out.1.qs
        clear CP HBP HZP HYP HY HY0 a0 a1 a2 a3 lt0 nq nq' nq2 HZ
        obtain ⟨Vc, hVc⟩ : ∃ V, V = wc := ⟨_, rfl⟩
        subst hVc
        go_wp2_with fail
        clear c0 c1 d0 d1
        rw [rounds_succ]
        have a0 := cell_of_blk HX0.out.st 0 (.string ⟨#[46]⟩) rfl
        have a1 := cell_of_blk HX0.out.st 1 (.int .i64 6) rfl
        have a2 := cell_of_blk HX0.out.st 2 (.int .i64 0) rfl
        have a3 := cell_of_blk HX0.out.st 3 (.slice (some ⟨g, 0, none⟩) 1 1) rfl
        have CP := Lib.hid (fun W (h : HX w q b g s1 s2 s3 W) => cp3 h (HR.out.keep h.bel))
        go_upto_region 10 with (go_at_call 11; (with_reducible refine (CP.out _ HX0.out).mono ?_); rintro e w6 ⟨⟨pk, ck, rfl, hks, -⟩, hb⟩; replace HX0 := Lib.hid (HX0.out.keep hb); have HKS := Lib.hid hks; clear hb hks a0 a1 a2 a3)
        have HT := Lib.hid (heap_alloc_new w6 (.cells #[.string ⟨#[]⟩, .int .i64 0] 30))
        replace HX0 := Lib.hid (HX0.out.keep (bnewE w6 (.cells #[.string ⟨#[]⟩, .int .i64 0] 30)))
        replace HKS := Lib.hid (HKS.out.keep (bnewE w6 (.cells #[.string ⟨#[]⟩, .int .i64 0] 30)))
        generalize w6.heap.size = q9 at *
        generalize w6.alloc _ = V6 at *
        clear CP
        have a0 := cell_of_blk HX0.out.st 0 (.string ⟨#[46]⟩) rfl
        have a1 := cell_of_blk HX0.out.st 1 (.int .i64 6) rfl
        have a2 := cell_of_blk HX0.out.st 2 (.int .i64 0) rfl
        have a3 := cell_of_blk HX0.out.st 3 (.slice (some ⟨g, 0, none⟩) 1 1) rfl
        have CP := Lib.hid (fun W (h : HX w q b g s1 s2 s3 W) => cp4 h (HR.out.keep h.bel))
        go_upto_region 11 with (go_at_call 11; (with_reducible refine (CP.out _ HX0.out).mono ?_); rintro e w7 ⟨rfl, hb⟩; replace HX0 := Lib.hid (HX0.out.keep hb); replace HKS := Lib.hid (HKS.out.keep hb); replace HT := Lib.hid ((hb.block q9 (Array.getElem?_eq_some_iff.1 HT.out).1).trans HT.out); clear hb a0 a1 a2 a3)
        replace HX0 := Lib.hid (HX0.out.keep (bnewE w7 (.cells #[.string ⟨#[]⟩, .int .i64 0] 30)))
        replace HKS := Lib.hid (HKS.out.keep (bnewE w7 (.cells #[.string ⟨#[]⟩, .int .i64 0] 30)))
        replace HT := Lib.hid (((bnewE w7 (.cells #[.string ⟨#[]⟩, .int .i64 0] 30)).block q9 (Array.getElem?_eq_some_iff.1 HT.out).1).trans HT.out)
        generalize w7.heap.size = q12 at *
        generalize w7.alloc _ = V7 at *
        clear CP
        have a0 := cell_of_blk HX0.out.st 0 (.string ⟨#[46]⟩) rfl
        have a1 := cell_of_blk HX0.out.st 1 (.int .i64 6) rfl
        have a2 := cell_of_blk HX0.out.st 2 (.int .i64 0) rfl
        have a3 := cell_of_blk HX0.out.st 3 (.slice (some ⟨g, 0, none⟩) 1 1) rfl
        have CP := Lib.hid (fun W (h : HX w q b g s1 s2 s3 W) => cp5 h (HR.out.keep h.bel))
        go_upto_region 12 with (go_at_call 11; (with_reducible refine (CP.out _ HX0.out).mono ?_); rintro e w8 ⟨rfl, hb⟩; replace HX0 := Lib.hid (HX0.out.keep hb); replace HKS := Lib.hid (HKS.out.keep hb); replace HT := Lib.hid ((hb.block q9 (Array.getElem?_eq_some_iff.1 HT.out).1).trans HT.out); clear hb a0 a1 a2 a3)
        replace HX0 := Lib.hid (HX0.out.keep (bnewE w8 (.cells #[.string ⟨#[]⟩, .int .i64 0] 30)))
        replace HKS := Lib.hid (HKS.out.keep (bnewE w8 (.cells #[.string ⟨#[]⟩, .int .i64 0] 30)))
        replace HT := Lib.hid (((bnewE w8 (.cells #[.string ⟨#[]⟩, .int .i64 0] 30)).block q9 (Array.getElem?_eq_some_iff.1 HT.out).1).trans HT.out)
        generalize w8.heap.size = q15 at *
        generalize w8.alloc _ = V8 at *
        clear CP
        have t0 := cell_of_blk HT.out 0 (.string ⟨#[]⟩) rfl
        have t1 := cell_of_blk HT.out 1 (.int .i64 0) rfl
        have CSM := Lib.hid (same_any (HKS.out.keep (bnewE V8 (.cells #[.int .i64 2, .int .i64 1] 44))) (slsE_new V8 (2, 1) 44) (by simp [maxLen]))
        go_upto_region 13 with (go_at_call 13; (with_reducible refine (CSM.out).mono ?_); rintro e w9 ⟨rfl, hb⟩; rw [decide_eq_true (rfl : ([(2, 1)] : List Sp) = [(2, 1)])]; replace HX0 := Lib.hid ((HX0.out.keep (bnewE V8 _)).keep hb); clear hb)
        clear t0 t1 CSM HT HKS
        have CK := Lib.hid (fun W (h : HX w q b g s1 s2 s3 W) => ck2 h (HR.out.keep h.bel))
        obtain ⟨m0, m1, m2, m3, m4⟩ := HX0.out.k2
        go_upto_region 14 with (go_at_call 14; (with_reducible refine (CK.out _ HX0.out).mono ?_); rintro e w10 ⟨⟨kv, rfl, hown⟩, hb⟩; replace HX0 := Lib.hid (HX0.out.keep hb); have HKV := Lib.hid hown.sl; clear hb hown m0 m1 m2 m3 m4)
        clear CK
        have CK := Lib.hid (fun W (h : HX w q b g s1 s2 s3 W) => ck1 h (HR.out.keep h.bel))
        obtain ⟨n0, n1, n2, n3, n4⟩ := HX0.out.k1
        go_upto_region 15 with (go_at_call 14; (with_reducible refine (CK.out _ HX0.out).mono ?_); rintro e w11 ⟨rfl, hb⟩; replace HX0 := Lib.hid (HX0.out.keep hb); replace HKV := Lib.hid (HKV.out.keep hb); clear hb n0 n1 n2 n3 n4)
        clear CK
        have HXD : Hid (HX w q b g s1 s2 s3 (w11.alloc (.cells #[.int .i64 1, .int .i64 1] 44)).drew) := Lib.hid ((HX0.out.keep (bnewE w11 _)).keep (below_drewD (Below.refl _ _) 1))
        have HKD : Hid (SlS kv [(1, 1)] (w11.alloc (.cells #[.int .i64 1, .int .i64 1] 44)).drew) := Lib.hid ((HKV.out.keep (bnewE w11 _)).keep (below_drewD (Below.refl _ _) 1))
        have hsl : SlS (.slice (some ⟨w11.heap.size, 0, none⟩) 1 1) [(1, 1)] (w11.alloc (.cells #[.int .i64 1, .int .i64 1] 44)).drew := (slsE_new w11 (1, 1) 44).keep (below_drewD (Below.refl _ _) 1)
        have CSM : Hid (Calls Tryd.prog 13 #[kv, .slice (some ⟨w11.heap.size, 0, none⟩) 1 1] (w11.alloc (.cells #[.int .i64 1, .int .i64 1] 44)).drew (fun e w' => e = .returned (.bool true) ∧ Below (w11.alloc (.cells #[.int .i64 1, .int .i64 1] 44)).drew.heap.size (w11.alloc (.cells #[.int .i64 1, .int .i64 1] 44)).drew w')) := Lib.hid (Calls.mono (same_any HKD.out hsl (by simp [maxLen])) (fun e w' k => ⟨by rw [k.1, decide_eq_true rfl], k.2⟩))
        clear hsl
        have CM1 := Lib.hid (fun W (h : HX w q b g s1 s2 s3 W) => cm1 h (HR.out.keep h.bel))
        have CM2 := Lib.hid (fun W (h : HX w q b g s1 s2 s3 W) => cm2 h (HR.out.keep h.bel))
        have CS1 := Lib.hid (fun W (h : HX w q b g s1 s2 s3 W) (hk : SlS kv [(1, 1)] W) => cs1 h (HR.out.keep h.bel) hk)
        have CS2 := Lib.hid (fun W (h : HX w q b g s1 s2 s3 W) (hk : SlS kv [(1, 1)] W) => cs2 h (HR.out.keep h.bel) hk)
        obtain ⟨n0, n1, n2, n3, n4⟩ := HX0.out.k1
        obtain ⟨m0, m1, m2, m3, m4⟩ := HX0.out.k2
        have a0 := cell_of_blk HX0.out.st 0 (.string ⟨#[46]⟩) rfl
        have a1 := cell_of_blk HX0.out.st 1 (.int .i64 6) rfl
        have a2 := cell_of_blk HX0.out.st 2 (.int .i64 0) rfl
        have a3 := cell_of_blk HX0.out.st 3 (.slice (some ⟨g, 0, none⟩) 1 1) rfl
        go_region_held3 (fun w' => w'.cell? ⟨q, 0, none⟩ = some (.string ⟨#[46]⟩) ∧ w'.cell? ⟨q, 1, none⟩ = some (.int .i64 6) ∧ w'.cell? ⟨q, 2, none⟩ = some (.int .i64 0) ∧ w'.cell? ⟨q, 3, none⟩ = some (.slice (some ⟨g, 0, none⟩) 1 1) ∧ w'.cell? ⟨b, 0, none⟩ = some (.string s1.x) ∧ w'.cell? ⟨b, 1, none⟩ = some (.int .i64 s1.t) ∧ w'.cell? ⟨b, 2, none⟩ = some (.int .i64 s1.f) ∧ w'.cell? ⟨b, 3, none⟩ = some (.slice s1.p s1.n s1.c) ∧ w'.cell? ⟨b, 4, none⟩ = some (.slice s1.q s1.m s1.d) ∧ w'.cell? ⟨b, 5, none⟩ = some (.string s2.x) ∧ w'.cell? ⟨b, 6, none⟩ = some (.int .i64 s2.t) ∧ w'.cell? ⟨b, 7, none⟩ = some (.int .i64 s2.f) ∧ w'.cell? ⟨b, 8, none⟩ = some (.slice s2.p s2.n s2.c) ∧ w'.cell? ⟨b, 9, none⟩ = some (.slice s2.q s2.m s2.d)) (go_keep)
          (first | (go_at_call 13; (with_reducible refine (CSM.out).mono ?_); rintro e u ⟨rfl, hb⟩; have HX1 := Lib.hid (HXD.out.keep hb); have HK1 := Lib.hid (HKD.out.keep hb); clear hb n0 n1 n2 n3 n4 m0 m1 m2 m3 m4 a0 a1 a2 a3; obtain ⟨n0, n1, n2, n3, n4⟩ := HX1.out.k1; obtain ⟨m0, m1, m2, m3, m4⟩ := HX1.out.k2; have a0 := cell_of_blk HX1.out.st 0 (.string ⟨#[46]⟩) rfl; have a1 := cell_of_blk HX1.out.st 1 (.int .i64 6) rfl; have a2 := cell_of_blk HX1.out.st 2 (.int .i64 0) rfl; have a3 := cell_of_blk HX1.out.st 3 (.slice (some ⟨g, 0, none⟩) 1 1) rfl) | (go_at_call 16; (with_reducible refine (CM1.out _ HX1.out).mono ?_); rintro e u ⟨rfl, hb⟩; replace HX1 := Lib.hid (HX1.out.keep hb); replace HK1 := Lib.hid (HK1.out.keep hb); clear hb n0 n1 n2 n3 n4 m0 m1 m2 m3 m4 a0 a1 a2 a3; obtain ⟨n0, n1, n2, n3, n4⟩ := HX1.out.k1; obtain ⟨m0, m1, m2, m3, m4⟩ := HX1.out.k2; have a0 := cell_of_blk HX1.out.st 0 (.string ⟨#[46]⟩) rfl; have a1 := cell_of_blk HX1.out.st 1 (.int .i64 6) rfl; have a2 := cell_of_blk HX1.out.st 2 (.int .i64 0) rfl; have a3 := cell_of_blk HX1.out.st 3 (.slice (some ⟨g, 0, none⟩) 1 1) rfl) | (go_at_call 16; (with_reducible refine (CM2.out _ HX1.out).mono ?_); rintro e u ⟨rfl, hb⟩; replace HX1 := Lib.hid (HX1.out.keep hb); replace HK1 := Lib.hid (HK1.out.keep hb); clear hb n0 n1 n2 n3 n4 m0 m1 m2 m3 m4 a0 a1 a2 a3; obtain ⟨n0, n1, n2, n3, n4⟩ := HX1.out.k1; obtain ⟨m0, m1, m2, m3, m4⟩ := HX1.out.k2; have a0 := cell_of_blk HX1.out.st 0 (.string ⟨#[46]⟩) rfl; have a1 := cell_of_blk HX1.out.st 1 (.int .i64 6) rfl; have a2 := cell_of_blk HX1.out.st 2 (.int .i64 0) rfl; have a3 := cell_of_blk HX1.out.st 3 (.slice (some ⟨g, 0, none⟩) 1 1) rfl) | (go_at_call 18; (with_reducible refine (CS1.out _ HX1.out HK1.out).mono ?_); rintro e u ⟨rfl, hb⟩; replace HX1 := Lib.hid (HX1.out.keep hb); replace HK1 := Lib.hid (HK1.out.keep hb); clear hb n0 n1 n2 n3 n4 m0 m1 m2 m3 m4 a0 a1 a2 a3; obtain ⟨n0, n1, n2, n3, n4⟩ := HX1.out.k1; obtain ⟨m0, m1, m2, m3, m4⟩ := HX1.out.k2; have a0 := cell_of_blk HX1.out.st 0 (.string ⟨#[46]⟩) rfl; have a1 := cell_of_blk HX1.out.st 1 (.int .i64 6) rfl; have a2 := cell_of_blk HX1.out.st 2 (.int .i64 0) rfl; have a3 := cell_of_blk HX1.out.st 3 (.slice (some ⟨g, 0, none⟩) 1 1) rfl) | (go_at_call 18; (with_reducible refine (CS2.out _ HX1.out HK1.out).mono ?_); rintro e u ⟨rfl, hb⟩; replace HX1 := Lib.hid (HX1.out.keep hb); replace HK1 := Lib.hid (HK1.out.keep hb); clear hb n0 n1 n2 n3 n4 m0 m1 m2 m3 m4 a0 a1 a2 a3; obtain ⟨n0, n1, n2, n3, n4⟩ := HX1.out.k1; obtain ⟨m0, m1, m2, m3, m4⟩ := HX1.out.k2; have a0 := cell_of_blk HX1.out.st 0 (.string ⟨#[46]⟩) rfl; have a1 := cell_of_blk HX1.out.st 1 (.int .i64 6) rfl; have a2 := cell_of_blk HX1.out.st 2 (.int .i64 0) rfl; have a3 := cell_of_blk HX1.out.st 3 (.slice (some ⟨g, 0, none⟩) 1 1) rfl))
        all_goals go_wp2
        all_goals go_ret
        all_goals exact ⟨rfl, HX1.out.bel⟩
end Go.Proofs.YtkhckgknldiheaaDoor
