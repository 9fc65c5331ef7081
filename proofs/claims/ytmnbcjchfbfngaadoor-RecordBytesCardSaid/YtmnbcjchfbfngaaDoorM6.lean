/- slices.SortFunc and Compact at two data; no condition beyond those that each theorem names. -/
import Derived.Test.YtmnbcjchfbfngaaDoorM5
import Derived.BigRegion
namespace Go.Proofs.YtmnbcjchfbfngaaDoor
set_option linter.unusedSimpArgs false
set_option linter.unusedVariables false
open Go.RowKit Go.Shelf
open NmP

/-- A row of two data that the call may write. -/
structure Row2 (W : World) (g : Nat) (a b : Dt) : Prop where
  at_ : ∃ cur, W.heap[g]? = some (Obj.cells cur 48 (0, 0)) ∧ cur[0]? = some (.string a.1) ∧ cur[1]? = some (.int .i64 a.2.1) ∧ cur[2]? = some (.int .i64 a.2.2) ∧ cur[3]? = some (.string b.1) ∧ cur[4]? = some (.int .i64 b.2.1) ∧ cur[5]? = some (.int .i64 b.2.2)
theorem Row2.lt {W : World} {g : Nat} {a b : Dt} (h : Row2 W g a b) : g < W.heap.size := by
  obtain ⟨cur, h1, _⟩ := h.at_
  exact (Array.getElem?_eq_some_iff.1 h1).1
theorem Row2.keep {W W' : World} {g n : Nat} {a b : Dt} (h : Row2 W g a b) (hg : g < n) (hb : Below n W W') : Row2 W' g a b := by
  obtain ⟨cur, h1, h2⟩ := h.at_
  exact ⟨cur, (hb.block g hg).trans h1, h2⟩
theorem Row2.rd {W : World} {g : Nat} {a b : Dt} (h : Row2 W g a b) : RD g 0 [a, b] W := by
  obtain ⟨cur, h1, c0, c1, c2, c3, c4, c5⟩ := h.at_
  intro m u hm
  rw [Nat.zero_add]
  refine cell_of_blk h1 m u ?_
  have hm' : ([Value.string a.1, .int .i64 a.2.1, .int .i64 a.2.2, .string b.1, .int .i64 b.2.1, .int .i64 b.2.2] : List Value)[m]? = some u := hm
  match m, hm' with
  | 0, hm' => simp at hm'; rw [c0, hm']
  | 1, hm' => simp at hm'; rw [c1, hm']
  | 2, hm' => simp at hm'; rw [c2, hm']
  | 3, hm' => simp at hm'; rw [c3, hm']
  | 4, hm' => simp at hm'; rw [c4, hm']
  | 5, hm' => simp at hm'; rw [c5, hm']
  | m + 6, hm' => simp at hm'
theorem Row2.of_own {W : World} {B g cap : Nat} {a b : Dt} {cur : Array Value} (h : W.heap[g]? = some (Obj.cells cur 48 (0, 0))) (ht : cur.toList.take (2 * 3) = rowD [a, b]) : Row2 W g a b := by
  refine ⟨cur, h, ?_⟩
  have k : ∀ j u, j < 6 → (rowD [a, b])[j]? = some u → cur[j]? = some u := fun j u hj hu => by
    rw [← ht, List.getElem?_take, if_pos (by omega)] at hu
    rw [← Array.getElem?_toList]
    exact hu
  exact ⟨k 0 _ (by omega) rfl, k 1 _ (by omega) rfl, k 2 _ (by omega) rfl, k 3 _ (by omega) rfl, k 4 _ (by omega) rfl, k 5 _ (by omega) rfl⟩
/-- The world with the row written anew. -/
theorem Row2.swap {W : World} {g : Nat} {a b : Dt} (h : Row2 W g a b) :
    Row2 ((((((W.setCell ⟨g, 3, none⟩ (.string a.1)).setCell ⟨g, 4, none⟩ (.int .i64 a.2.1)).setCell ⟨g, 5, none⟩ (.int .i64 a.2.2)).setCell ⟨g, 0, none⟩ (.string b.1)).setCell ⟨g, 1, none⟩ (.int .i64 b.2.1)).setCell ⟨g, 2, none⟩ (.int .i64 b.2.2)) g b a := by
  obtain ⟨cur, h1, c0, c1, c2, c3, c4, c5⟩ := h.at_
  have l5 := (Array.getElem?_eq_some_iff.1 c5).1
  have e1 := heap_setCell_same _ g 3 _ _ (.string a.1) h1
  have e2 := heap_setCell_same _ g 4 _ _ (.int .i64 a.2.1) e1
  have e3 := heap_setCell_same _ g 5 _ _ (.int .i64 a.2.2) e2
  have e4 := heap_setCell_same _ g 0 _ _ (.string b.1) e3
  have e5 := heap_setCell_same _ g 1 _ _ (.int .i64 b.2.1) e4
  have e6 := heap_setCell_same _ g 2 _ _ (.int .i64 b.2.2) e5
  refine ⟨_, e6, ?_⟩
  have l0 : 0 < cur.size := by omega
  have l1 : 1 < cur.size := by omega
  have l2 : 2 < cur.size := by omega
  have l3 : 3 < cur.size := by omega
  have l4 : 4 < cur.size := by omega
  refine ⟨?_, ?_, ?_, ?_, ?_, ?_⟩ <;> simp [Array.getElem?_setIfInBounds, l0, l1, l2, l3, l4, l5]
theorem row2_drew {W : World} {g : Nat} {a b : Dt} (h : Row2 W g a b) : Row2 W.drew g a b := by
  obtain ⟨cur, h1, h2⟩ := h.at_
  exact ⟨cur, h1, h2⟩
theorem row2_drewN {W : World} {g : Nat} {a b : Dt} (h : Row2 W g a b) (n : Nat) : Row2 (W.drewN n) g a b := by
  obtain ⟨cur, h1, h2⟩ := h.at_
  exact ⟨cur, h1, h2⟩
theorem gset2 {W W' : World} {g : Nat} (h : W.grownBy W' (some g)) (j : Nat) (v : Value) : W.grownBy (W'.setCell ⟨g, j, none⟩ v) (some g) :=
  ⟨h.os, h.tape, h.output, by simpa using h.size, fun k hk hne => (heap_setCell_other W' ⟨g, j, none⟩ k v (fun e => hne (by rw [e]))).trans (h.block k hk hne)⟩
theorem six_grown (W : World) (g : Nat) (a b c d e f : Value) : W.grownBy ((((((W.setCell ⟨g, 3, none⟩ a).setCell ⟨g, 4, none⟩ b).setCell ⟨g, 5, none⟩ c).setCell ⟨g, 0, none⟩ d).setCell ⟨g, 1, none⟩ e).setCell ⟨g, 2, none⟩ f).drew (some g) := by
  have h := gset2 (gset2 (gset2 (gset2 (gset2 (gset W g 3 a) 4 b) 5 c) 0 d) 1 e) 2 f
  have k : ∀ W', W.grownBy W' (some g) → W.grownBy W'.drew (some g) := fun W' h => ⟨h.os, h.tape, h.output, h.size, h.block⟩
  exact k _ h
/-- What a sort of a row does. -/
def SrtTo (g : Nat) (a b : Dt) (w : World) (e : Ending) (w' : World) : Prop := e = .returned (.tuple #[]) ∧ Row2 w' g a b ∧ w.grownBy w' (some g)

set_option maxHeartbeats 4000000 in
set_option maxRecDepth 100000 in
theorem insD_no (a b : Dt) (g cap : Nat) (w : World) (hR : Row2 w g a b) (hr : ¬ lessI b a < 0) :
    Calls Tryd.prog 84 #[.slice (some ⟨g, 0, none⟩) 2 cap, .int .i64 0, .int .i64 2, .func (.func 34) #[] #[]] w (SrtTo g a b w) := by
  have HC := Lib.hid (fun W => less_any b.1 a.1 b.2.1 b.2.2 a.2.1 a.2.2 W)
  have e1 : lessI (b.1, b.2.1, b.2.2) (a.1, a.2.1, a.2.2) = lessI b a := rfl
  rw [e1] at HC
  obtain ⟨a0, a1, a2⟩ := hR.rd.at_ (i := 0) (t := a) rfl
  obtain ⟨b0, b1, b2⟩ := hR.rd.at_ (i := 1) (t := b) rfl
  have HR := Lib.hid hR
  generalize lessI b a = r at *
  obtain ⟨ax, an, am⟩ := a
  obtain ⟨bx, bn, bm⟩ := b
  have hg := hR.lt
  simp only [Nat.zero_mul, Nat.one_mul, Nat.zero_add, Nat.add_zero, Nat.reduceAdd] at a0 a1 a2 b0 b1 b2 HC
  have hr0 : decide (r < 0) = false := decide_eq_false hr
  clear hr hR e1
  go_enter Tryd.func84, Tryd.ntmps84
  go_wp2
  refine wp_loop_rounds 2 ?_
  rw [rounds_succ]
  go_wp2
  refine wp_loop_rounds 1 ?_
  rw [rounds_succ]
  go_wp2
  have ha0 := fun d os => cell_regrown a0 d os
  have ha1 := fun d os => cell_regrown a1 d os
  have ha2 := fun d os => cell_regrown a2 d os
  have hb0 := fun d os => cell_regrown b0 d os
  have hb1 := fun d os => cell_regrown b1 d os
  have hb2 := fun d os => cell_regrown b2 d os
  refine wp_region_quiet_below (by kernel_rfl) (by kernel_rfl) ?_
  repeat (go_big_quiet_step ((go_at_call 34; (with_reducible exact Calls.regrown_of (HC.out _)))))
  refine wpQuiet_nil ?_
  intro _ hw'
  obtain ⟨⟨dq, osq⟩, hw''⟩ := hw'
  subst hw''
  go_wp2
  rw [rounds_succ]
  go_wp2
  go_end0
  have hb := below_regrown w dq osq
  exact ⟨rfl, HR.out.keep hg hb, ⟨hb.os, hb.tape, hb.output, hb.size, fun k hk _ => hb.block k hk⟩⟩

set_option maxHeartbeats 4000000 in
set_option maxRecDepth 100000 in
theorem insD_yes (a b : Dt) (g cap : Nat) (w : World) (hR : Row2 w g a b) (hr : lessI b a < 0) :
    Calls Tryd.prog 84 #[.slice (some ⟨g, 0, none⟩) 2 cap, .int .i64 0, .int .i64 2, .func (.func 34) #[] #[]] w (SrtTo g b a w) := by
  have HC := Lib.hid (fun W => less_any b.1 a.1 b.2.1 b.2.2 a.2.1 a.2.2 W)
  have e1 : lessI (b.1, b.2.1, b.2.2) (a.1, a.2.1, a.2.2) = lessI b a := rfl
  rw [e1] at HC
  obtain ⟨a0, a1, a2⟩ := hR.rd.at_ (i := 0) (t := a) rfl
  obtain ⟨b0, b1, b2⟩ := hR.rd.at_ (i := 1) (t := b) rfl
  have HR := Lib.hid hR
  generalize lessI b a = r at *
  obtain ⟨ax, an, am⟩ := a
  obtain ⟨bx, bn, bm⟩ := b
  have hg := hR.lt
  simp only [Nat.zero_mul, Nat.one_mul, Nat.zero_add, Nat.add_zero, Nat.reduceAdd] at a0 a1 a2 b0 b1 b2 HC
  have hr0 : decide (r < 0) = true := decide_eq_true hr
  clear hr hR e1
  go_enter Tryd.func84, Tryd.ntmps84
  go_wp2
  refine wp_loop_rounds 2 ?_
  rw [rounds_succ]
  go_wp2
  refine wp_loop_rounds 2 ?_
  rw [rounds_succ]
  go_wp2
  have ha0 := fun d os => cell_regrown a0 d os
  have ha1 := fun d os => cell_regrown a1 d os
  have ha2 := fun d os => cell_regrown a2 d os
  have hb0 := fun d os => cell_regrown b0 d os
  have hb1 := fun d os => cell_regrown b1 d os
  have hb2 := fun d os => cell_regrown b2 d os
  refine wp_region_quiet_below (by kernel_rfl) (by kernel_rfl) ?_
  repeat (go_big_quiet_step ((go_at_call 34; (with_reducible exact Calls.regrown_of (HC.out _)))))
  refine wpQuiet_nil ?_
  intro _ hw'
  obtain ⟨⟨dq, osq⟩, hw''⟩ := hw'
  subst hw''
  have HB := Lib.hid (below_regrown w dq osq)
  clear ha0 ha1 ha2 hb0 hb1 hb2 a0 a1 a2 b0 b1 b2
  generalize Sort.grow (redrawn w dq) osq = W1 at *
  have HR1 := Lib.hid (HR.out.keep hg HB.out)
  obtain ⟨a0, a1, a2⟩ := HR1.out.rd.at_ (i := 0) (t := (ax, an, am)) rfl
  obtain ⟨b0, b1, b2⟩ := HR1.out.rd.at_ (i := 1) (t := (bx, bn, bm)) rfl
  simp only [Nat.zero_mul, Nat.one_mul, Nat.zero_add, Nat.add_zero, Nat.reduceAdd] at a0 a1 a2 b0 b1 b2
  have hg1 := HR1.out.lt
  have f : ∀ j, W1.frozen? ⟨g, j, none⟩ = false := fun j => by
    obtain ⟨cur, h1, _⟩ := HR1.out.at_
    exact frz h1 j
  have f0 := f 0
  have f1 := f 1
  have f2 := f 2
  have f3 := f 3
  have f4 := f 4
  have f5 := f 5
  clear f
  go_wp2
  go_region
  have HS := Lib.hid (row2_drew HR1.out.swap)
  have HG := Lib.hid (six_grown W1 g (.string ax) (.int .i64 an) (.int .i64 am) (.string bx) (.int .i64 bn) (.int .i64 bm))
  clear a0 a1 a2 b0 b1 b2 f0 f1 f2 f3 f4 f5
  simp only at HS
  generalize World.drew _ = W2 at *
  go_wp2
  rw [rounds_succ]
  go_wp2
  go_quiet (fail)
  go_wp2
  rw [rounds_succ]
  go_wp2
  go_end0
  have hb := HB.out
  have hgr := HG.out
  exact ⟨rfl, row2_drewN HS.out _, ⟨hgr.os.trans hb.os, hgr.tape.trans hb.tape, hgr.output.trans hb.output, Nat.le_trans hb.size hgr.size, fun k hk hne => (hgr.block k (Nat.lt_of_lt_of_le hk hb.size) hne).trans (hb.block k hk)⟩⟩

/-- Two data, the lesser one first. -/
def srt2 (a b : Dt) : List Dt := if lessI b a < 0 then [b, a] else [a, b]
theorem insD_any (a b : Dt) (g cap : Nat) (w : World) (hR : Row2 w g a b) :
    Calls Tryd.prog 84 #[.slice (some ⟨g, 0, none⟩) 2 cap, .int .i64 0, .int .i64 2, .func (.func 34) #[] #[]] w (if lessI b a < 0 then SrtTo g b a w else SrtTo g a b w) := by
  by_cases h : lessI b a < 0
  · rw [if_pos h]; exact insD_yes a b g cap w hR h
  · rw [if_neg h]; exact insD_no a b g cap w hR h
theorem pdq2 (P : Ending → World → Prop) (g cap : Nat) (k : Int) (w : World) (h : Calls Tryd.prog 84 #[.slice (some ⟨g, 0, none⟩) 2 cap, .int .i64 0, .int .i64 2, .func (.func 34) #[] #[]] w (fun e w' => e = .returned (.tuple #[]) ∧ P e w')) :
    Calls Tryd.prog 73 #[.slice (some ⟨g, 0, none⟩) 2 cap, .int .i64 0, .int .i64 2, .int .i64 k, .func (.func 34) #[] #[]] w (fun e w' => e = .returned (.tuple #[]) ∧ P e w') := by
  have HC := Lib.hid h
  clear h
  go_enter Tryd.func73, Tryd.ntmps73
  go_wp2
  refine wp_loop_rounds 1 ?_
  rw [rounds_succ]
  go_wp2_with (go_at_call 84; (with_reducible refine (HC.out).mono ?_); rintro e w1 ⟨rfl, hp⟩; have HP := Lib.hid hp; clear hp)
  refine bodyPost_ret (results_none rfl _ _ _) rfl ?_
  exact ⟨rfl, HP.out⟩
theorem sortF2 (P : Ending → World → Prop) (g cap : Nat) (w : World) (h : Calls Tryd.prog 84 #[.slice (some ⟨g, 0, none⟩) 2 cap, .int .i64 0, .int .i64 2, .func (.func 34) #[] #[]] w (fun e w' => e = .returned (.tuple #[]) ∧ P e w')) :
    Calls Tryd.prog 57 #[.slice (some ⟨g, 0, none⟩) 2 cap, .func (.func 34) #[] #[]] w (fun e w' => e = .returned (.tuple #[]) ∧ P e w') := by
  have HC := Lib.hid (fun k => pdq2 P g cap k w h)
  have HL := Lib.hid ((Tryd.bits_Len 2 w (by decide) (by decide)).mono fun _ _ h => And.intro h.1 h.2.symm)
  clear h
  go_enter Tryd.func57, Tryd.ntmps57
  go_wp2_with (first | (go_at_call 74; refine (HL.out).mono ?_; rintro e w1 ⟨rfl, rfl⟩) | (go_at_call 73; refine (HC.out _).mono ?_; rintro e w1 ⟨rfl, hp⟩; have HP := Lib.hid hp; clear hp))
  go_end0
  exact ⟨rfl, HP.out⟩

set_option maxHeartbeats 4000000 in
set_option maxRecDepth 100000 in
theorem compact2 (a b : Dt) (g cap : Nat) (w : World) (hR : Row2 w g a b) (hne : ¬ a = b) :
    Calls Tryd.prog 58 #[.slice (some ⟨g, 0, none⟩) 2 cap] w fun e w' => e = .returned (.slice (some ⟨g, 0, none⟩) 2 cap) ∧ ∃ q, w' = w.drewN q := by
  obtain ⟨a0, a1, a2⟩ := hR.rd.at_ (i := 0) (t := a) rfl
  obtain ⟨b0, b1, b2⟩ := hR.rd.at_ (i := 1) (t := b) rfl
  clear hR
  obtain ⟨ax, an, am⟩ := a
  obtain ⟨bx, bn, bm⟩ := b
  simp only [Nat.zero_mul, Nat.one_mul, Nat.zero_add, Nat.add_zero, Nat.reduceAdd] at a0 a1 a2 b0 b1 b2
  by_cases q0 : bx = ax
  case neg =>
    have z0 : (bx.toList == ax.toList) = false := beq_eq_false_iff_ne.2 (ba_ne q0)
    clear q0 hne
    go_enter Tryd.func58, Tryd.ntmps58
    go_wp2
    refine wp_loop_rounds 2 ?_
    rw [rounds_succ]
    go_wp2
    go_quiet (fail)
    go_wp2
    rw [rounds_succ]
    go_wp2
    go_ret
    exact ⟨rfl, _, rfl⟩
  subst q0
  have z0 : (bx.toList == bx.toList) = true := by simp
  by_cases q1 : bn = an
  case neg =>
    have z1 : (bn == an) = false := beq_eq_false_iff_ne.2 q1
    clear q1 hne
    go_enter Tryd.func58, Tryd.ntmps58
    go_wp2
    refine wp_loop_rounds 2 ?_
    rw [rounds_succ]
    go_wp2
    go_quiet (fail)
    go_wp2
    rw [rounds_succ]
    go_wp2
    go_ret
    exact ⟨rfl, _, rfl⟩
  subst q1
  have z1 : (bn == bn) = true := by simp
  have q2 : ¬ bm = am := fun h => hne (by rw [h])
  have z2 : (bm == am) = false := beq_eq_false_iff_ne.2 q2
  clear q2 hne
  go_enter Tryd.func58, Tryd.ntmps58
  go_wp2
  refine wp_loop_rounds 2 ?_
  rw [rounds_succ]
  go_wp2
  go_quiet (fail)
  go_wp2
  rw [rounds_succ]
  go_wp2
  go_ret
  exact ⟨rfl, _, rfl⟩
end Go.Proofs.YtmnbcjchfbfngaaDoor
