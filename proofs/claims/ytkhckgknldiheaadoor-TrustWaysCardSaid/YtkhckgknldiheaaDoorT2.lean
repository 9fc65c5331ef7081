/- The contract of first of package trust at keys, and of the closures of Matches; no condition beyond those that each theorem names. -/
import Derived.Test.YtkhckgknldiheaaDoorT1
namespace Go.Proofs.YtkhckgknldiheaaDoor
set_option linter.unusedSimpArgs false
set_option linter.unusedVariables false
open Go.RowKit
open NmP SpP

def FstK (r : Option Sp) (w : World) (e : Ending) (w' : World) : Prop := e = .returned (match r with | some k => .tuple #[.agg #[.int .i64 k.1, .int .i64 k.2], .bool true] | none => .tuple #[.agg #[.int .i64 0, .int .i64 0], .bool false]) ∧ Below w.heap.size w w'

theorem set2_ {W : World} {q : Nat} {o0 o1 : Value} {t : TypeId} (a0 a1 : Value) (h : W.heap[q]? = some (Obj.cells #[o0, o1] t (0, 0))) :
    ((W.setCell ⟨q, 0, none⟩ a0).setCell ⟨q, 1, none⟩ a1).heap[q]? = some (Obj.cells #[a0, a1] t (0, 0)) := by
  have h1 := heap_setCell_same _ q 0 _ _ a0 h
  exact heap_setCell_same _ q 1 _ _ a1 h1
theorem below2_ {n : Nat} {w W : World} {q : Nat} (h : Below n w W) (hq : n ≤ q) (a0 a1 : Value) : Below n w ((W.setCell ⟨q, 0, none⟩ a0).setCell ⟨q, 1, none⟩ a1) :=
  ((h.setCell (p := ⟨q, 0, none⟩) hq a0).setCell (p := ⟨q, 1, none⟩) hq a1)

set_option maxHeartbeats 4000000 in
set_option maxRecDepth 100000 in
theorem firstK_any (B : Nat) (v : Value) (l : List Sp) (P : Sp → Bool) (w : World) (hv : SlS v l w) (hn : l.length ≤ maxLen)
    (hc : ∀ g ∈ l, ∀ W, Below w.heap.size w W → Calls Tryd.prog 44 #[.agg #[.int .i64 g.1, .int .i64 g.2], .pointer (some ⟨B, 0, none⟩)] W fun e w' => e = .returned (.bool (P g)) ∧ Below W.heap.size W w') :
    Calls Tryd.prog 43 #[v, .func (.func 44) #[] #[.pointer (some ⟨B, 0, none⟩)]] w (FstK (l.find? P) w) := by
  obtain ⟨p, c, rfl⟩ := hv.form
  obtain ⟨n, hm⟩ : ∃ m, l.length = m := ⟨_, rfl⟩
  rw [hm] at hv hn ⊢
  unfold maxLen at hn
  have HL := Lib.hid hm
  have hb0 := (Below.refl _ w).alloc (Nat.le_refl _) (.cells #[.int .i64 0, .int .i64 0] 44)
  have hr0 : (w.alloc (.cells #[.int .i64 0, .int .i64 0] 44)).heap[w.heap.size]? = some (Obj.cells #[.int .i64 0, .int .i64 0] 44 (0, 0)) := heap_alloc_new w _
  have HV := Lib.hid (hv.keep hb0)
  have HC := Lib.hid hc
  have HB0 := Lib.hid hb0
  have HR0 := Lib.hid hr0
  obtain ⟨R, hR⟩ : ∃ R, l.find? P = R := ⟨_, rfl⟩
  rw [hR]
  have HR := Lib.hid hR
  clear hb0 hr0 hv hm hR hc
  generalize hW0 : w.alloc (.cells #[.int .i64 0, .int .i64 0] 44) = W0 at *
  have HW0 := Lib.hid hW0
  clear hW0
  go_enter Tryd.func43, Tryd.ntmps43
  go_wp2
  rw [HW0.out]
  go_loopw [11] (fun s11 wr => ∃ i : Nat, i ≤ n ∧ s11 = .int .i64 i ∧ Hid ((l.drop i).find? P = R) ∧ Hid (Below W0.heap.size W0 wr)) (fun s11 _ => n - (intOf s11).toNat)
  case atStart => exact ⟨0, Nat.zero_le _, rfl, HR, Lib.hid (Below.refl _ _)⟩
  case round =>
    obtain ⟨i, hi, rfl, H1, HW⟩ := hrel
    by_cases hlt : i < n
    · have ia : i < l.length := by rw [HL.out]; exact hlt
      have ga : l[i]? = some l[i] := List.getElem?_eq_getElem ia
      have hv1 := HV.out.keep HW.out
      obtain ⟨b, off, rfl, hb, hR1⟩ := hv1.at_ (by omega)
      obtain ⟨a0, a1⟩ := hR1.at_ ga
      have hbw : Below w.heap.size w wr := HB0.out.trans (HW.out.mono HB0.out.size)
      have HC1 := HC.out l[i] (List.getElem_mem ia) _ (hbw.alloc hbw.size (.cells #[.int .i64 l[i].1, .int .i64 l[i].2] 44))
      have h1 := H1.out
      rw [List.drop_eq_getElem_cons ia, List.find?_cons] at h1
      have hq := (HW.out.block w.heap.size (by have := (Array.getElem?_eq_some_iff.1 HR0.out).1; omega)).trans HR0.out
      have hql := (Array.getElem?_eq_some_iff.1 hq).1
      have hbox : (wr.alloc (.cells #[.int .i64 l[i].1, .int .i64 l[i].2] 44)).heap[wr.heap.size]? = some (Obj.cells #[.int .i64 l[i].1, .int .i64 l[i].2] 44 (0, 0)) := heap_alloc_new wr _
      have HQ : Hid ((wr.alloc (.cells #[.int .i64 l[i].1, .int .i64 l[i].2] 44)).heap[w.heap.size]? = some (Obj.cells #[.int .i64 0, .int .i64 0] 44 (0, 0))) := Lib.hid ((heap_alloc_old wr _ hql).trans hq)
      have HWA := Lib.hid (HW.out.alloc HW.out.size (.cells #[.int .i64 l[i].1, .int .i64 l[i].2] 44))
      have HBx := Lib.hid hbox
      generalize l[i] = g at *
      obtain ⟨ga, gb⟩ := g
      simp only at a0 a1 HC1 HQ HWA HBx h1
      have HCC := Lib.hid HC1
      have H1' := Lib.hid h1
      have hi1 : (i : Int) < (n : Int) := by omega
      clear ga hR1 hv1 H1 HR HC1 h1 hq hbw hbox
      generalize P _ = b0 at *
      go_wp2_with (go_at_call 44; fail)
      (with_reducible refine (HCC.out).mono ?_)
      rintro e w1 ⟨rfl, hb2⟩
      have hq2 := (hb2.block w.heap.size (by (try simp); (try omega))).trans HQ.out
      have hx2 := (hb2.block wr.heap.size (by (try simp); (try omega))).trans HBx.out
      have HW1 := Lib.hid (HWA.out.trans (hb2.mono HWA.out.size))
      have u0 := cell_of_blk hx2 0 (.int .i64 ga) rfl
      have u1 := cell_of_blk hx2 1 (.int .i64 gb) rfl
      have r0 := cell_of_blk hq2 0 (.int .i64 0) rfl
      have r1 := cell_of_blk hq2 1 (.int .i64 0) rfl
      have rf0 := frozen_of_blk hq2 0
      have rf1 := frozen_of_blk hq2 1
      have HQ2 := Lib.hid hq2
      have h1 := H1'.out
      clear hb2 hq2 hx2 a0 a1
      cases b0
      · have h2 := Lib.hid (show (l.drop (i + 1)).find? P = R by rw [← h1])
        clear h1
        go_wp2
        go_roundw
        case rel => exact ⟨i + 1, hlt, by go_num, h2, HW1⟩
        case measure =>
          simp [intOf]
          omega
      · have h2 : some ⟨ga, gb⟩ = R := by rw [← h1]
        subst h2
        clear h1
        go_wp2
        have hx := set2_ (.int .i64 ga) (.int .i64 gb) HQ2.out
        have hbx := below2_ (HB0.out.trans (HW1.out.mono HB0.out.size)) (q := w.heap.size) (Nat.le_refl _) (.int .i64 ga) (.int .i64 gb)
        generalize (World.setCell _ _ _).setCell _ _ = W' at *
        have x0 := cell_of_blk hx 0 (.int .i64 ga) rfl
        have x1 := cell_of_blk hx 1 (.int .i64 gb) rfl
        refine bodyPost_ret (v := .tuple #[.agg #[.int .i64 ga, .int .i64 gb], .bool true]) (by simp [results, Tryd.f43, go_sem, x0, x1]) rfl ⟨rfl, hbx⟩
    · obtain rfl : i = n := by omega
      have h1 := H1.out
      rw [List.drop_eq_nil_of_le (by have := HL.out; omega)] at h1
      have h2 : none = R := h1
      subst h2
      have hq := (HW.out.block w.heap.size (by have := (Array.getElem?_eq_some_iff.1 HR0.out).1; omega)).trans HR0.out
      have hql := (Array.getElem?_eq_some_iff.1 hq).1
      have hbw : Below w.heap.size w wr := HB0.out.trans (HW.out.mono HB0.out.size)
      have HBA := Lib.hid hbw
      have HQ2 := Lib.hid hq
      have r0 := cell_of_blk hq 0 (.int .i64 0) rfl
      have r1 := cell_of_blk hq 1 (.int .i64 0) rfl
      have rf0 := frozen_of_blk hq 0
      have rf1 := frozen_of_blk hq 1
      clear hq hbw h1
      go_wp2
      have hx := set2_ (.int .i64 0) (.int .i64 0) HQ2.out
      have hbx := below2_ HBA.out (q := w.heap.size) (Nat.le_refl _) (.int .i64 0) (.int .i64 0)
      have hql2 := (Array.getElem?_eq_some_iff.1 hx).1
      replace hx := (heap_alloc_old _ (.cells #[.int .i64 0, .int .i64 0] 44) hql2).trans hx
      replace hbx := hbx.alloc hbx.size (.cells #[.int .i64 0, .int .i64 0] 44)
      clear hql2
      generalize ((World.setCell _ _ _).setCell _ _).alloc _ = W' at *
      have x0 := cell_of_blk hx 0 (.int .i64 0) rfl
      have x1 := cell_of_blk hx 1 (.int .i64 0) rfl
      refine bodyPost_ret (v := .tuple #[.agg #[.int .i64 0, .int .i64 0], .bool false]) (by simp [results, Tryd.f43, go_sem, x0, x1]) rfl ⟨rfl, hbx⟩


set_option maxHeartbeats 1000000 in
set_option maxRecDepth 100000 in
theorem eqK_any (q : Nat) (k g : Sp) (w : World) (h0 : w.cell? ⟨q, 0, none⟩ = some (.int .i64 k.1)) (h1 : w.cell? ⟨q, 1, none⟩ = some (.int .i64 k.2)) :
    Calls Tryd.prog 44 #[.agg #[.int .i64 g.1, .int .i64 g.2], .pointer (some ⟨q, 0, none⟩)] w fun e w' => e = .returned (.bool (decide (g = k))) ∧ Below w.heap.size w w' := by
  obtain ⟨kn, ka⟩ := k
  obtain ⟨gn, ga⟩ := g
  simp only at h0 h1 ⊢
  have HB := Lib.hid ((Below.refl _ w).alloc (Nat.le_refl _) (.cells #[.int .i64 gn, .int .i64 ga] 44))
  have hq : q < w.heap.size := World.block_lt_of_cell? w _ h0
  by_cases e1 : gn = kn
  · by_cases e2 : ga = ka
    · subst e1 e2
      go_enter Tryd.func44, Tryd.ntmps44
      go_wp2
      go_ret
      exact ⟨by simp, HB.out⟩
    · have d0 : decide (((gn, ga) : Sp) = (kn, ka)) = false := decide_eq_false (by simp [e2])
      have d2 : (ga == ka) = false := by simpa using e2
      rw [d0]
      subst e1
      go_enter Tryd.func44, Tryd.ntmps44
      go_wp2
      go_ret
      exact ⟨by simp [e2], HB.out⟩
  · have d0 : decide (((gn, ga) : Sp) = (kn, ka)) = false := decide_eq_false (by simp [e1])
    have d2 : (gn == kn) = false := by simpa using e1
    rw [d0]
    go_enter Tryd.func44, Tryd.ntmps44
    go_wp2
    go_ret
    exact ⟨by simp [e1], HB.out⟩

set_option maxHeartbeats 1000000 in
set_option maxRecDepth 100000 in
/-- The closure of Matches: it takes away the keys that are not among the anchors. -/
theorem away_any (q : Nat) (av : Value) (ks : List Sp) (k : Sp) (w : World) (h0 : w.cell? ⟨q, 0, none⟩ = some av) (ha : SlS av ks w) (hn : ks.length ≤ maxLen) :
    Calls Tryd.prog 42 #[.agg #[.int .i64 k.1, .int .i64 k.2], .pointer (some ⟨q, 0, none⟩)] w fun e w' => e = .returned (.bool (!ks.contains k)) ∧ Below w.heap.size w w' := by
  obtain ⟨kn, ka⟩ := k
  simp only
  have hb0 := (Below.refl _ w).alloc (Nat.le_refl _) (.cells #[.int .i64 kn, .int .i64 ka] 44)
  have hk0 : (w.alloc (.cells #[.int .i64 kn, .int .i64 ka] 44)).heap[w.heap.size]? = some (Obj.cells #[.int .i64 kn, .int .i64 ka] 44 (0, 0)) := heap_alloc_new w _
  have hq : q < w.heap.size := World.block_lt_of_cell? w _ h0
  have CF := Lib.hid (firstK_any w.heap.size av ks (fun g => decide (g = (kn, ka))) _ (ha.keep hb0) hn (fun g hg W hW => eqK_any w.heap.size (kn, ka) g W (by
    rw [World.cell?_of_block (hW.block _ (by simp))]; exact cell_of_blk hk0 0 _ rfl) (by
    rw [World.cell?_of_block (hW.block _ (by simp))]; exact cell_of_blk hk0 1 _ rfl)))
  have HB0 := Lib.hid hb0
  obtain ⟨p, c, rfl⟩ := ha.form
  have hfc : ks.contains (kn, ka) = (ks.find? (fun g => decide (g = (kn, ka)))).isSome := by
    rw [Bool.eq_iff_iff, List.find?_isSome]
    simp
  rw [hfc]
  generalize ks.find? (fun g => decide (g = (kn, ka))) = R at *
  unfold FstK at CF
  clear hb0 hk0 ha hfc
  cases R with
  | none =>
    go_enter Tryd.func42, Tryd.ntmps42
    go_wp2_with (go_at_call 43; (with_reducible refine (CF.out).mono ?_); rintro e w1 ⟨rfl, hb⟩; have HB1 := Lib.hid (HB0.out.trans (hb.mono HB0.out.size)); clear hb)
    go_ret
    exact ⟨rfl, HB1.out.alloc HB1.out.size _⟩
  | some k =>
    obtain ⟨k1, k2⟩ := k
    go_enter Tryd.func42, Tryd.ntmps42
    go_wp2_with (go_at_call 43; (with_reducible refine (CF.out).mono ?_); rintro e w1 ⟨rfl, hb⟩; have HB1 := Lib.hid (HB0.out.trans (hb.mono HB0.out.size)); clear hb)
    go_ret
    exact ⟨rfl, HB1.out.alloc HB1.out.size _⟩
end Go.Proofs.YtkhckgknldiheaaDoor
