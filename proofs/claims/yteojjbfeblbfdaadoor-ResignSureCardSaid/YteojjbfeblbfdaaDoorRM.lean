/- Times of package resign where there are times; no condition beyond those that each theorem names. -/
import Derived.Test.YteojjbfeblbfdaaDoorRT
namespace Go.Proofs.YteojjbfeblbfdaaDoor
set_option linter.unusedSimpArgs false
set_option linter.unusedVariables false
open Go.RowKit Go.Shelf
open SpP
attribute [local go_sem] Oper.semAt_some

theorem ixm0 (b e n d l : Int) (W : World) : (Instr.index 118 (.agg #[.int .i64 d, .int .i64 0, .int .i64 1000, .int .i64 b, .int .i64 d, .int .i64 10000000, .int .i64 e, .int .i64 0, .int .i64 10000000, .int .i64 n, .int .i64 1, .int .i64 10000000, .int .i64 l, .int .i64 0, .int .i64 100000]) (.int .i64 0)).run Tryd.prog W = .ok (.agg #[.int .i64 d, .int .i64 0, .int .i64 1000]) W := by kernel_rfl
theorem ixm1 (b e n d l : Int) (W : World) : (Instr.index 118 (.agg #[.int .i64 d, .int .i64 0, .int .i64 1000, .int .i64 b, .int .i64 d, .int .i64 10000000, .int .i64 e, .int .i64 0, .int .i64 10000000, .int .i64 n, .int .i64 1, .int .i64 10000000, .int .i64 l, .int .i64 0, .int .i64 100000]) (.int .i64 1)).run Tryd.prog W = .ok (.agg #[.int .i64 b, .int .i64 d, .int .i64 10000000]) W := by kernel_rfl
theorem ixm2 (b e n d l : Int) (W : World) : (Instr.index 118 (.agg #[.int .i64 d, .int .i64 0, .int .i64 1000, .int .i64 b, .int .i64 d, .int .i64 10000000, .int .i64 e, .int .i64 0, .int .i64 10000000, .int .i64 n, .int .i64 1, .int .i64 10000000, .int .i64 l, .int .i64 0, .int .i64 100000]) (.int .i64 2)).run Tryd.prog W = .ok (.agg #[.int .i64 e, .int .i64 0, .int .i64 10000000]) W := by kernel_rfl
theorem ixm3 (b e n d l : Int) (W : World) : (Instr.index 118 (.agg #[.int .i64 d, .int .i64 0, .int .i64 1000, .int .i64 b, .int .i64 d, .int .i64 10000000, .int .i64 e, .int .i64 0, .int .i64 10000000, .int .i64 n, .int .i64 1, .int .i64 10000000, .int .i64 l, .int .i64 0, .int .i64 100000]) (.int .i64 3)).run Tryd.prog W = .ok (.agg #[.int .i64 n, .int .i64 1, .int .i64 10000000]) W := by kernel_rfl
theorem ixm4 (b e n d l : Int) (W : World) : (Instr.index 118 (.agg #[.int .i64 d, .int .i64 0, .int .i64 1000, .int .i64 b, .int .i64 d, .int .i64 10000000, .int .i64 e, .int .i64 0, .int .i64 10000000, .int .i64 n, .int .i64 1, .int .i64 10000000, .int .i64 l, .int .i64 0, .int .i64 100000]) (.int .i64 4)).run Tryd.prog W = .ok (.agg #[.int .i64 l, .int .i64 0, .int .i64 100000]) W := by kernel_rfl

/-- The boxes of the results. -/
structure V2 (n0 : Nat) (W : World) : Prop where
  b0 : Boxed W n0 75 (.slice none 0 0)
  b1 : Boxed W (n0 + 1) 32 (.int .i64 0)
theorem V2.alloc {n0 : Nat} {W : World} (h : V2 n0 W) (o : Obj) : V2 n0 (W.alloc o) := ⟨h.b0.alloc o, h.b1.alloc o⟩
theorem v2_start (w : World) (o : Obj) : V2 w.heap.size (((w.alloc (.cells #[.slice none 0 0] 75)).alloc (.cells #[.int .i64 0] 32)).alloc o) := by
  refine ⟨((Boxed.new w _ _).alloc _).alloc _, ?_⟩
  have := Boxed.new (w.alloc (.cells #[.slice none 0 0] 75)) 32 (.int .i64 0)
  simp only [World.size_alloc] at this
  exact this.alloc _
/-- The boxes of the results, and of what has come. -/
structure VT (n0 B : Nat) (out : List Int) (W : World) : Prop where
  b0 : Boxed W n0 75 (.slice none 0 0)
  b1 : Boxed W (n0 + 1) 32 (.int .i64 0)
  bo : ∃ v, Boxed W (B + 1) 75 v ∧ W.ownsRow n0 3 1 v out.length (rowI out)
theorem boxed_own' {B : Nat} {T : TypeId} {v : Value} {X Y : World} {row : Option Nat} (h : Boxed X B T v) (hg : X.grownBy Y row) (hr : ∀ r, row = some r → ∃ o : Obj, X.heap[r]? = some o ∧ o.isCells = false) : Boxed Y B T v :=
  h.kept hg (fun e' => by obtain ⟨o, ho, hc⟩ := hr B e'.symm; rw [show X.heap[B]? = _ from h] at ho; cases ho; cases hc)
theorem VT.own {n0 B : Nat} {out : List Int} {X Y : World} {row : Option Nat} (h : VT n0 B out X) (hg : X.grownBy Y row) (hr : ∀ r, row = some r → ∃ o : Obj, X.heap[r]? = some o ∧ o.isCells = false) : VT n0 B out Y := by
  obtain ⟨v, h1, h2⟩ := h.bo
  refine ⟨boxed_own' h.b0 hg hr, boxed_own' h.b1 hg hr, v, boxed_own' h1 hg hr, h2.kept hg ?_⟩
  rcases h2.2 with ⟨rfl, _⟩ | ⟨g, cap, cur, rfl, _, hgb, _⟩
  · exact .inl rfl
  · refine .inr fun e' => ?_
    obtain ⟨o, ho, hc⟩ := hr g (by simpa [Value.ownBlock] using e'.symm)
    rw [hgb] at ho; cases ho; cases hc
theorem VT.start {n0 : Nat} {W : World} (h : V2 n0 W) (o o' : Obj) : VT n0 W.heap.size [] (((W.alloc o).alloc (.cells #[.slice none 0 0] 75)).alloc o') := by
  refine ⟨((h.b0.alloc _).alloc _).alloc _, ((h.b1.alloc _).alloc _).alloc _, .slice none 0 0, ?_, World.ownsRow_nil _ _ _ _⟩
  have := Boxed.new (W.alloc o) 75 (.slice none 0 0)
  simp only [World.size_alloc] at this
  exact this.alloc _
/-- What is left where there are too many. -/
structure VX (n0 : Nat) (W : World) : Prop where
  b0 : Boxed W n0 75 (.slice none 0 0)
  b1 : Boxed W (n0 + 1) 32 (.int .i64 2)
theorem VX.own {n0 : Nat} {X Y : World} {row : Option Nat} (h : VX n0 X) (hg : X.grownBy Y row) (hr : ∀ r, row = some r → ∃ o : Obj, X.heap[r]? = some o ∧ o.isCells = false) : VX n0 Y :=
  ⟨boxed_own' h.b0 hg hr, boxed_own' h.b1 hg hr⟩
theorem row_form {W : World} {base : Nat} {e : TypeId} {size n : Nat} {v : Value} {xs : List Value} (h : W.ownsRow base e size v n xs) : ∃ p cap, v = .slice p n cap := by
  rcases h.2 with ⟨h1, h2⟩ | ⟨g, cap, cur, h3, _⟩
  · exact ⟨none, 0, by rw [h1, h2]⟩
  · exact ⟨_, cap, h3⟩
theorem infoI : (Tryd.prog.info? 3).map (fun i => (i.zero, i.size, i.bytes)) = some (some (.int .i64 0), 1, 8) := by kernel_rfl
theorem news_i (W : World) (x : Int) (T : TypeId) : ∀ j u, ([Value.int .i64 x])[j]? = some u → (W.alloc (.cells #[.int .i64 x] T)).cell? ((⟨W.heap.size, 0, none⟩ : Addr).add j) = some u := by
  intro j u h
  rw [Go.WideShapes.add_plain, Nat.zero_add, World.cell?_alloc_at _ _ _ _ rfl]
  simpa using h
theorem one_i (x : Int) : ∀ u ∈ [Value.int .i64 x], u.oneCell' = true := by
  intro u hu
  simp at hu
  subst hu
  rfl
/-- Behind an append, and the store of what it gives. -/
theorem vt_push {n0 B : Nat} {out : List Int} {W w6 : World} {v v' : Value} {k : Nat} {tmp : Obj} (hV : VT n0 B out W) (hn : n0 + 1 < B) (hb : Boxed W (B + 1) 75 v) (ho : W.ownsRow n0 3 1 v k (rowI out)) (x : Int) (hk : out.length = k)
    (h6 : w6.ownsRow n0 3 1 v' (k + 1) (rowI out ++ [.int .i64 x])) (hg : (W.alloc tmp).grownBy w6 v.ownBlock) :
    VT n0 B (out ++ [x]) (w6.setCell ⟨B + 1, 0, none⟩ v') := by
  have go : ∀ {C : Nat} {T : TypeId} {u : Value}, Boxed W C T u → T ≠ 3 → B + 1 ≠ C → Boxed (w6.setCell ⟨B + 1, 0, none⟩ v') C T u := fun h hT hne =>
    (((h.alloc tmp).kept hg (h.not_row hT ho))).other (fun e => hne e.symm) _
  obtain ⟨_, q2, q3, _, _⟩ := hb.appended (by decide) ho (by have := hV.b0.lt; omega) (show n0 ≤ B + 1 by omega) h6 hg
  refine ⟨go hV.b0 (by decide) (by omega), go hV.b1 (by decide) (by omega), v', q2, ?_⟩
  show World.ownsRow _ _ _ _ _ (out ++ [x]).length (rowI (out ++ [x]))
  rw [List.length_append, hk]
  unfold rowI at *
  rw [List.map_append]
  exact q3
theorem rh_not_row {R : Nat} {b e s : Int} {W : World} {base n : Nat} {v : Value} {xs : List Value} (h : RhAt R b e s W) (ho : W.ownsRow base 3 1 v n xs) : R ≠ base ∨ True → some R ≠ v.ownBlock := by
  intro _ q
  rcases ho.2 with ⟨rfl, _⟩ | ⟨g, cap, cur, rfl, _, hgb, _⟩
  · simp [Value.ownBlock] at q
  · have : R = g := by simpa [Value.ownBlock] using q
    subst this
    unfold RhAt at h
    rw [hgb] at h
    simp at h
theorem rh_push {R B : Nat} {b e s : Int} {W w6 : World} {v v' : Value} {base k : Nat} {xs : List Value} {tmp : Obj} (h : RhAt R b e s W) (hne : R ≠ B) (ho : W.ownsRow base 3 1 v k xs) (hg : (W.alloc tmp).grownBy w6 v.ownBlock) : RhAt R b e s (w6.setCell ⟨B, 0, none⟩ v') := by
  have hlt := (Array.getElem?_eq_some_iff.1 h).1
  unfold RhAt
  rw [RowKit.Below.heap_setCell w6 ⟨B, 0, none⟩ v' R hne, hg.block R (by simp; omega) (rh_not_row h ho (.inr trivial)), RowKit.Below.heap_alloc W tmp R hlt]
  exact h
theorem RhAt.own {R : Nat} {b e s : Int} {X Y : World} {row : Option Nat} (h : RhAt R b e s X) (hg : X.grownBy Y row) (hr : ∀ r, row = some r → ∃ o : Obj, X.heap[r]? = some o ∧ o.isCells = false) : RhAt R b e s Y :=
  (hg.block R (Array.getElem?_eq_some_iff.1 h).1 (fun e' => by obtain ⟨o, ho, hc⟩ := hr R e'.symm; rw [show X.heap[R]? = _ from h] at ho; cases ho; cases hc)).trans h
def timesR (b e s : Int) : List Int × Nat := if cntT b e s ≤ 400 then (seqT b e s, 0) else ([], 2)
set_option maxHeartbeats 4000000 in
set_option maxRecDepth 100000 in
theorem times_big {b e n d l : Int} (w : World) (g0 : 0 ≤ d) (k0 : d ≤ 1000) (g1 : d ≤ b) (k1 : b ≤ 10000000) (g2 : 0 ≤ e) (k2 : e ≤ 10000000) (g3 : 1 ≤ n) (k3 : n ≤ 10000000) (g4 : 0 ≤ l) (k4 : l ≤ 100000) (hl : 1 < l) (q : b < e) (z : 1 ≤ n - l - 3 * d + 2) :
    Calls Tryd.prog 34 #[.int .i64 b, .int .i64 e, .int .i64 n, .int .i64 d, .int .i64 l] w fun e' w' => ∃ sl, e' = .returned (.tuple #[sl, .int .i64 ((timesR b e (n - l - 3 * d + 2)).2 : Int)]) ∧ SlI sl (timesR b e (n - l - 3 * d + 2)).1 w' ∧ RowKit.Below w.heap.size w w' := by
  have f0 : decide (d < 0) = false := by simpa using g0
  have h0 : decide (1000 < d) = false := by simpa using k0
  have f1 : decide (b < d) = false := by simpa using g1
  have h1 : decide (10000000 < b) = false := by simpa using k1
  have f2 : decide (e < 0) = false := by simpa using g2
  have h2 : decide (10000000 < e) = false := by simpa using k2
  have f3 : decide (n < 1) = false := by simpa using g3
  have h3 : decide (10000000 < n) = false := by simpa using k3
  have f4 : decide (l < 0) = false := by simpa using g4
  have h4 : decide (100000 < l) = false := by simpa using k4
  have w1 : IntKind.i64.wrap (n - l) = n - l := IntWalk.i64_in _ (by omega)
  have w2 : IntKind.i64.wrap (3 * d) = 3 * d := IntWalk.i64_in _ (by omega)
  have w3 : IntKind.i64.wrap (n - l - 3 * d) = n - l - 3 * d := IntWalk.i64_in _ (by omega)
  have w4 : IntKind.i64.wrap (n - l - 3 * d + 2) = n - l - 3 * d + 2 := IntWalk.i64_in _ (by omega)
  have i0 := ixm0 b e n d l
  have i1 := ixm1 b e n d l
  have i2 := ixm2 b e n d l
  have i3 := ixm3 b e n d l
  have i4 := ixm4 b e n d l
  have hq : ¬ e ≤ b := by omega
  refine (callsIn_wide (n := 5)).1 ?_
  refine callsIn_of_wp_marks Tryd.func34 rfl trivial ?_ rfl
  simp only [Tryd.ntmps34, List.size_toArray, List.length_cons, List.length_nil, Nat.reduceAdd, Nat.reduceSub, Array.replicate_succ, Array.replicate_zero, List.push_toArray, List.append_toArray, List.nil_append, List.cons_append]
  gi_wp2
  have hV := v2_start w (.cells #[.int .i64 d, .int .i64 0, .int .i64 1000, .int .i64 b, .int .i64 d, .int .i64 10000000, .int .i64 e, .int .i64 0, .int .i64 10000000, .int .i64 n, .int .i64 1, .int .i64 10000000, .int .i64 l, .int .i64 0, .int .i64 100000] 118)
  have hB : RowKit.Below w.heap.size w (((w.alloc (.cells #[.slice none 0 0] 75)).alloc (.cells #[.int .i64 0] 32)).alloc (.cells #[.int .i64 d, .int .i64 0, .int .i64 1000, .int .i64 b, .int .i64 d, .int .i64 10000000, .int .i64 e, .int .i64 0, .int .i64 10000000, .int .i64 n, .int .i64 1, .int .i64 10000000, .int .i64 l, .int .i64 0, .int .i64 100000] 118)) := (((RowKit.Below.refl _ w).alloc (Nat.le_refl _) _).alloc (by simp) _).alloc (by simp; omega) _
  generalize (((w.alloc (.cells #[.slice none 0 0] 75)).alloc (.cells #[.int .i64 0] 32)).alloc (.cells #[.int .i64 d, .int .i64 0, .int .i64 1000, .int .i64 b, .int .i64 d, .int .i64 10000000, .int .i64 e, .int .i64 0, .int .i64 10000000, .int .i64 n, .int .i64 1, .int .i64 10000000, .int .i64 l, .int .i64 0, .int .i64 100000] 118)) = W0 at *
  have HV0 := Lib.hid hV
  have HB0 := Lib.hid hB
  clear hV hB
  gi_loopw [32] (fun s32 wr => ∃ i : Nat, i ≤ 5 ∧ s32 = .int .i64 i ∧ Hid (V2 w.heap.size wr) ∧ Hid (RowKit.Below w.heap.size w wr)) (fun s32 _ => 5 - (intOf s32).toNat)
  case atStart => exact ⟨0, by decide, rfl, HV0, HB0⟩
  case round =>
    obtain ⟨i, hi, rfl, HV, HB⟩ := hrel
    clear HV0 HB0
    have hc : i = 0 ∨ i = 1 ∨ i = 2 ∨ i = 3 ∨ i = 4 ∨ i = 5 := by omega
    rcases hc with rfl | rfl | rfl | rfl | rfl | rfl
    · gi_wp2
      go_roundw
      case rel => exact ⟨1, by decide, by go_num, Lib.hid (HV.out.alloc _), Lib.hid (HB.out.alloc HB.out.size _)⟩
      case measure => simp [intOf]
    · gi_wp2
      go_roundw
      case rel => exact ⟨2, by decide, by go_num, Lib.hid (HV.out.alloc _), Lib.hid (HB.out.alloc HB.out.size _)⟩
      case measure => simp [intOf]
    · gi_wp2
      go_roundw
      case rel => exact ⟨3, by decide, by go_num, Lib.hid (HV.out.alloc _), Lib.hid (HB.out.alloc HB.out.size _)⟩
      case measure => simp [intOf]
    · gi_wp2
      go_roundw
      case rel => exact ⟨4, by decide, by go_num, Lib.hid (HV.out.alloc _), Lib.hid (HB.out.alloc HB.out.size _)⟩
      case measure => simp [intOf]
    · gi_wp2
      go_roundw
      case rel => exact ⟨5, by decide, by go_num, Lib.hid (HV.out.alloc _), Lib.hid (HB.out.alloc HB.out.size _)⟩
      case measure => simp [intOf]
    · gi_wp2
      refine ⟨trivial, ?_⟩
      refine (callsIn_wide.2 (times_fn _ _ _ _)).mono ?_
      rintro e' w5 ⟨rfl, rfl⟩
      gi_wp2
      have hVT := VT.start HV.out (.cells #[.int .i64 b, .int .i64 e, .int .i64 (n - l - 3 * d + 2)] 120) (.cells #[.int .i64 b, .int .i64 e, .int .i64 (n - l - 3 * d + 2)] 120)
      have hws := HB.out.size
      have hBB : RowKit.Below w.heap.size w (((wr.alloc (.cells #[.int .i64 b, .int .i64 e, .int .i64 (n - l - 3 * d + 2)] 120)).alloc (.cells #[.slice none 0 0] 75)).alloc (.cells #[.int .i64 b, .int .i64 e, .int .i64 (n - l - 3 * d + 2)] 120)) := ((HB.out.alloc hws _).alloc (by simp; omega) _).alloc (by simp; omega) _
      have hRH : RhAt (wr.heap.size + 1 + 1) b e (n - l - 3 * d + 2) (((wr.alloc (.cells #[.int .i64 b, .int .i64 e, .int .i64 (n - l - 3 * d + 2)] 120)).alloc (.cells #[.slice none 0 0] 75)).alloc (.cells #[.int .i64 b, .int .i64 e, .int .i64 (n - l - 3 * d + 2)] 120)) := by
        have := World.alloc_heap_new ((wr.alloc (.cells #[.int .i64 b, .int .i64 e, .int .i64 (n - l - 3 * d + 2)] 120)).alloc (.cells #[.slice none 0 0] 75)) (.cells #[.int .i64 b, .int .i64 e, .int .i64 (n - l - 3 * d + 2)] 120)
        rw [World.size_alloc, World.size_alloc] at this
        exact this
      have hsz : (((wr.alloc (.cells #[.int .i64 b, .int .i64 e, .int .i64 (n - l - 3 * d + 2)] 120)).alloc (.cells #[.slice none 0 0] 75)).alloc (.cells #[.int .i64 b, .int .i64 e, .int .i64 (n - l - 3 * d + 2)] 120)).heap.size = wr.heap.size + 1 + 1 + 1 := by simp
      generalize (((wr.alloc (.cells #[.int .i64 b, .int .i64 e, .int .i64 (n - l - 3 * d + 2)] 120)).alloc (.cells #[.slice none 0 0] 75)).alloc (.cells #[.int .i64 b, .int .i64 e, .int .i64 (n - l - 3 * d + 2)] 120)) = W5 at *
      have hnB : w.heap.size + 1 < wr.heap.size := HV.out.b1.lt
      have hit := times_stops 4 (by omega) (wr.heap.size + 1 + 1) b e (n - l - 3 * d + 2) z (by omega) (by omega) (by omega) W5 hRH
      refine wpIn_rangeFunc_ownH rfl (by omega) (gf := 99) (lb := #[.pointer (some ⟨wr.heap.size + 1 + 1, 0, none⟩)]) rfl trivial (enters_of Tryd.func99 (by kernel_rfl) rfl)
        hit KeepsB.t (KeepsB.b (by omega)) (RowKit.Below.refl _ _) (fun _ => rfl)
        (fun pre W => ((VT w.heap.size wr.heap.size pre W ∧ pre.length ≤ 400) ∧ RhAt (wr.heap.size + 1 + 1) b e (n - l - 3 * d + 2) W) ∧ RowKit.Below w.heap.size w W)
        (fun c pre W => (c = .ret ∧ 400 < cntT b e (n - l - 3 * d + 2) ∧ VX w.heap.size W) ∧ RowKit.Below w.heap.size w W)
        (fun s X Y row hs hg hr => ⟨⟨⟨hs.1.1.1.own hg (fun r e => (hr r e).2), hs.1.1.2⟩, hs.1.2.own hg (fun r e => (hr r e).2)⟩, ownFrom_below (Nat.le_refl _) (by omega) s X Y row hs.2 hg hr⟩)
        (fun c s X Y row hs hg hr => ⟨⟨hs.1.1, hs.1.2.1, hs.1.2.2.own hg (fun r e => (hr r e).2)⟩, ownFrom_below (Nat.le_refl _) (by omega) s X Y row hs.2 hg hr⟩)
        ⟨⟨⟨hVT, Nat.zero_le _⟩, hRH⟩, hBB⟩
        (fun x a' W => a' = { tmps := #[.int .i64 b, .int .i64 e, .int .i64 n, .int .i64 d, .int .i64 l, undef, undef, undef, undef, undef, .pointer (some ⟨w.heap.size, 0, none⟩), .pointer (some ⟨w.heap.size + 1, 0, none⟩), .pointer (some ⟨w.heap.size + 1 + 1, 0, none⟩), undef, u14, .pointer (some ⟨wr.heap.size, 0, none⟩), .pointer (some ⟨wr.heap.size + 1, 0, none⟩), .func (.func 75) #[.agg #[.int .i64 b, .int .i64 e, .int .i64 (n - l - 3 * d + 2)]] #[], .int .i64 x, .int .i64 d, .agg #[.int .i64 d, .int .i64 0, .int .i64 1000], .int .i64 b, .int .i64 d, .agg #[.int .i64 b, .int .i64 d, .int .i64 10000000], .int .i64 e, .agg #[.int .i64 e, .int .i64 0, .int .i64 10000000], .int .i64 n, .agg #[.int .i64 n, .int .i64 1, .int .i64 10000000], .int .i64 l, .agg #[.int .i64 l, .int .i64 0, .int .i64 100000], .agg #[.int .i64 d, .int .i64 0, .int .i64 1000, .int .i64 b, .int .i64 d, .int .i64 10000000, .int .i64 e, .int .i64 0, .int .i64 10000000, .int .i64 n, .int .i64 1, .int .i64 10000000, .int .i64 l, .int .i64 0, .int .i64 100000], .agg #[.int .i64 d, .int .i64 0, .int .i64 1000, .int .i64 b, .int .i64 d, .int .i64 10000000, .int .i64 e, .int .i64 0, .int .i64 10000000, .int .i64 n, .int .i64 1, .int .i64 10000000, .int .i64 l, .int .i64 0, .int .i64 100000], .int .i64 5, .bool false, u34, u35, u36, u37, u38, u39, u40, u41, u42, u43, u44, u45, u46, u47, .int .i64 e, .int .i64 b, .bool (decide (e ≤ b)), .int .i64 b, .int .i64 e, .int .i64 n, .int .i64 l, .int .i64 (l), .int .i64 (n - (l)), .int .i64 d, .int .i64 (3 * d), .int .i64 (n - (l) - 3 * d), .int .i64 (n - l - 3 * d + 2), .agg #[.int .i64 b, .int .i64 e, .int .i64 (n - l - 3 * d + 2)], .pointer (some ⟨wr.heap.size, 2, none⟩), .int .i64 (n - l - 3 * d + 2), .bool (decide ((n - l - 3 * d + 2) < 1)), .agg #[.int .i64 b, .int .i64 e, .int .i64 (n - l - 3 * d + 2)], .func (.func 75) #[.agg #[.int .i64 b, .int .i64 e, .int .i64 (n - l - 3 * d + 2)]] #[], .func (.func 75) #[.agg #[.int .i64 b, .int .i64 e, .int .i64 (n - l - 3 * d + 2)]] #[], .func (.func 99) #[] #[.pointer (some ⟨wr.heap.size + 1 + 1, 0, none⟩)], .int .i64 x, undef, undef, undef, undef, undef, undef, undef, undef], defers := [] })
        (fun x a' _ X Y row hs hg hr => hs)
        ?assign ?body ?done ?stop
      case assign =>
        rintro lk pre x W K ⟨hV, hB⟩ hK
        gi_wp2
        exact hK _ _ ((KeepsOthers.refl _).from _) (fun _ h => h) ⟨hV, hB⟩ rfl
      case body =>
        rintro lk pre x a' W hl hr ⟨⟨⟨hV, h4⟩, hR⟩, hB⟩ rfl hlen
        have HR := Lib.hid hR
        clear hR hRH
        obtain ⟨v, hb5, ho5⟩ := hV.bo
        obtain ⟨p5, cap5, rfl⟩ := row_form ho5
        have c0 := hV.b0.cell
        have f0' := hV.b0.frozen
        have c1 := hV.b1.cell
        have f1' := hV.b1.frozen
        have c5 := hb5.cell
        have f5' := hb5.frozen
        obtain ⟨k, hk⟩ : ∃ k, pre.length = k := ⟨_, rfl⟩
        rw [hk] at ho5 hlen h4
        rw [hk] at c5 hb5
        have HV := Lib.hid hV
        have HBI := Lib.hid hB
        have HK := Lib.hid hk
        have HB5 := Lib.hid hb5
        have HO5 := Lib.hid ho5
        have hWs := hB.size
        have hb5lt := hb5.lt
        have hit4 : 400 ≤ k → 400 < cntT b e (n - l - 3 * d + 2) := fun z => by omega
        have HIT := Lib.hid hit4
        obtain ⟨i0, hi0, hz0, hz1, hz2⟩ := info_parts infoI
        have HI := Lib.hid hi0
        have HZ0 := Lib.hid hz0
        have HZ1 := Lib.hid hz1
        have HZ2 := Lib.hid hz2
        clear hV hB hk hb5 ho5 hi0 hz0 hz1 hz2 hit hVT hBB hit4 hlen
        by_cases h400 : k = 400
        · subst h400
          gi_wp2
          refine ⟨((KeepsOthers.setCell _ _ _).trans (KeepsOthers.setCell _ _ _)).from _, ⟨rfl, HIT.out (Nat.le_refl _), ⟨(HV.out.b0.set _).other (by omega) _, (HV.out.b1.other (by omega) _).set _⟩⟩, ?_⟩
          exact (HBI.out.setCell (p := ⟨w.heap.size, 0, none⟩) (Nat.le_refl _) _).setCell (p := ⟨w.heap.size + 1, 0, none⟩) (show w.heap.size ≤ w.heap.size + 1 by omega) _
        · have z4 : ((k : Int) == 400) = false := beq_eq_false_iff_ne.2 (by omega)
          gi_wp2_with (gi_at_builtin; refine wpListIn_append_own _ rfl (.tmp 73) (.tmp 75) 75 rfl w.heap.size 3 i0 (.int .i64 0) 1 8 Tryd.underlying75 HI.out HZ0.out HZ1.out HZ2.out rfl (by decide) (.slice p5 k cap5) k (rowI pre) rfl (HO5.out.alloc _) ⟨W.heap.size, 0, none⟩ 1 1 [.int .i64 x] rfl rfl (news_i W x 3) (one_i x) (by unfold maxLen; omega) (by omega) (by simp; omega) ?_; intro v' w6 hown' hgrow _; obtain ⟨g2, cap2, rfl⟩ := ownsRow_succ hown'; have hap := HB5.out.appended (by decide) HO5.out (by omega) (by omega) hown' hgrow; have hV6 := vt_push HV.out hnB HB5.out HO5.out x HK.out hown' hgrow; have hR6 := rh_push (B := wr.heap.size + 1) (v' := .slice (some ⟨g2, 0, none⟩) (k + 1) cap2) HR.out (by omega) HO5.out hgrow; have HR6 := Lib.hid hR6; obtain ⟨q1, q2, q3, q4, q5⟩ := hap; have c5' := q1.cell; have f5'' := q1.frozen; have Q4 := Lib.hid q4; have Q5 := Lib.hid q5; have HV7 := Lib.hid hV6; clear q1 q2 q3 q4 q5 hV6 hR6 hown' hgrow)
          refine ⟨Q4.out.from _, fun o ho => ?_, ⟨⟨HV7.out, by rw [List.length_append, HK.out]; simp; omega⟩, HR6.out⟩, HBI.out.trans Q5.out⟩
          rw [show W.heap[wr.heap.size + 1 + 1]? = _ from HR.out] at ho
          cases ho
          exact HR6.out
      case done =>
        rintro D ys W hD hys ⟨⟨⟨hV, h4⟩, hR⟩, hB⟩ hK
        obtain ⟨v, hb5, ho5⟩ := hV.bo
        obtain ⟨p5, cap5, rfl⟩ := row_form ho5
        have c0 := hV.b0.cell
        have f0' := hV.b0.frozen
        have c1 := hV.b1.cell
        have f1' := hV.b1.frozen
        have c5 := hb5.cell
        have HV := Lib.hid hV
        have HBI := Lib.hid hB
        have HO5 := Lib.hid ho5
        have HB5 := Lib.hid hb5
        have HK := Lib.hid hK
        have hc4 : cntT b e (n - l - 3 * d + 2) ≤ 400 := by rw [← seqT_len, ← hys]; exact h4
        have HT : Hid (timesR b e (n - l - 3 * d + 2) = (ys, 0)) := Lib.hid (by unfold timesR; rw [if_pos hc4, hys])
        clear hV hB hK hb5 ho5 hit hVT hBB hRH hR hys h4 hc4
        gi_wp2
        rw [HT.out]
        have hK8 := ((KeepsOthers.setCell W ⟨w.heap.size, 0, none⟩ (.slice p5 ys.length cap5)).trans (KeepsOthers.setCell _ ⟨w.heap.size + 1, 0, none⟩ (.int .i64 0))).same D _ HK.out rfl
        refine ⟨by simp, .inl ⟨_, _, rfl, run_takeDeferred hK8, ?_⟩⟩
        have hX0 : Boxed (((W.setCell ⟨w.heap.size, 0, none⟩ (.slice p5 ys.length cap5)).setCell ⟨w.heap.size + 1, 0, none⟩ (.int .i64 0)).putObj D (.deferred none)) w.heap.size 75 (.slice p5 ys.length cap5) := boxed_own' ((HV.out.b0.set _).other (by omega) _) (grownBy_putObj' _ D (.deferred none)) (fun r e => by cases e; exact ⟨_, hK8, rfl⟩)
        have hX1 : Boxed (((W.setCell ⟨w.heap.size, 0, none⟩ (.slice p5 ys.length cap5)).setCell ⟨w.heap.size + 1, 0, none⟩ (.int .i64 0)).putObj D (.deferred none)) (w.heap.size + 1) 32 (.int .i64 0) := boxed_own' ((HV.out.b1.other (by omega) _).set _) (grownBy_putObj' _ D (.deferred none)) (fun r e => by cases e; exact ⟨_, hK8, rfl⟩)
        have hc0 := hX0.cell
        have hc1 := hX1.cell
        have r1 := HO5.out.kept (grownBy_setCell' W w.heap.size (.slice p5 ys.length cap5)) (.inr (HV.out.b0.not_row (by decide) HO5.out).symm)
        have r2 := r1.kept (grownBy_setCell' _ (w.heap.size + 1) (.int .i64 0)) (.inr ((HV.out.b1.other (by omega) _).not_row (by decide) r1).symm)
        have r3 := ownsRow_putObj r2 (.deferred none) hK8 rfl
        refine ⟨.tuple #[.slice p5 ys.length cap5, .int .i64 0], ?_, ⟨_, rfl, SlI.owned r3, ?_⟩⟩
        · simp [results, Tryd.f34, go_sem, hc0, hc1]
        · exact ((HBI.out.setCell (p := ⟨w.heap.size, 0, none⟩) (Nat.le_refl _) _).setCell (p := ⟨w.heap.size + 1, 0, none⟩) (show w.heap.size ≤ w.heap.size + 1 by omega) _).trans (belowK_b (w := w) (Nat.le_refl _) _ D _ _ (by omega) hK8 rfl rfl)
      case stop =>
        rintro D c pre W hD hpre ⟨⟨rfl, h4, hX⟩, hB⟩ hK
        have HT : Hid (timesR b e (n - l - 3 * d + 2) = ([], 2)) := Lib.hid (by unfold timesR; rw [if_neg (by omega)])
        clear hit hVT hBB hRH h4 hpre
        gi_wp2
        rw [HT.out]
        refine ⟨by simp, .inl ⟨_, _, rfl, run_takeDeferred hK, ?_⟩⟩
        have hX2 := hX.own (grownBy_putObj' _ D (.deferred none)) (fun r e => by cases e; exact ⟨_, hK, rfl⟩)
        have hc0 := hX2.b0.cell
        have hc1 := hX2.b1.cell
        refine ⟨.tuple #[.slice none 0 0, .int .i64 2], ?_, ⟨_, rfl, .inl ⟨rfl, none, 0, rfl⟩, hB.trans (belowK_b (w := w) (Nat.le_refl _) W D _ _ (by omega) hK rfl rfl)⟩⟩
        simp [results, Tryd.f34, go_sem, hc0, hc1]
set_option maxHeartbeats 4000000 in
set_option maxRecDepth 100000 in
theorem times_small {b e n d l : Int} (w : World) (g0 : 0 ≤ d) (k0 : d ≤ 1000) (g1 : d ≤ b) (k1 : b ≤ 10000000) (g2 : 0 ≤ e) (k2 : e ≤ 10000000) (g3 : 1 ≤ n) (k3 : n ≤ 10000000) (g4 : 0 ≤ l) (k4 : l ≤ 100000) (hl : l ≤ 1) (q : b < e) (z : 1 ≤ n - 1 - 3 * d + 2) :
    Calls Tryd.prog 34 #[.int .i64 b, .int .i64 e, .int .i64 n, .int .i64 d, .int .i64 l] w fun e' w' => ∃ sl, e' = .returned (.tuple #[sl, .int .i64 ((timesR b e (n - 1 - 3 * d + 2)).2 : Int)]) ∧ SlI sl (timesR b e (n - 1 - 3 * d + 2)).1 w' ∧ RowKit.Below w.heap.size w w' := by
  have f0 : decide (d < 0) = false := by simpa using g0
  have h0 : decide (1000 < d) = false := by simpa using k0
  have f1 : decide (b < d) = false := by simpa using g1
  have h1 : decide (10000000 < b) = false := by simpa using k1
  have f2 : decide (e < 0) = false := by simpa using g2
  have h2 : decide (10000000 < e) = false := by simpa using k2
  have f3 : decide (n < 1) = false := by simpa using g3
  have h3 : decide (10000000 < n) = false := by simpa using k3
  have f4 : decide (l < 0) = false := by simpa using g4
  have h4 : decide (100000 < l) = false := by simpa using k4
  have w1 : IntKind.i64.wrap (n - 1) = n - 1 := IntWalk.i64_in _ (by omega)
  have w2 : IntKind.i64.wrap (3 * d) = 3 * d := IntWalk.i64_in _ (by omega)
  have w3 : IntKind.i64.wrap (n - 1 - 3 * d) = n - 1 - 3 * d := IntWalk.i64_in _ (by omega)
  have w4 : IntKind.i64.wrap (n - 1 - 3 * d + 2) = n - 1 - 3 * d + 2 := IntWalk.i64_in _ (by omega)
  have i0 := ixm0 b e n d l
  have i1 := ixm1 b e n d l
  have i2 := ixm2 b e n d l
  have i3 := ixm3 b e n d l
  have i4 := ixm4 b e n d l
  have hq : ¬ e ≤ b := by omega
  refine (callsIn_wide (n := 5)).1 ?_
  refine callsIn_of_wp_marks Tryd.func34 rfl trivial ?_ rfl
  simp only [Tryd.ntmps34, List.size_toArray, List.length_cons, List.length_nil, Nat.reduceAdd, Nat.reduceSub, Array.replicate_succ, Array.replicate_zero, List.push_toArray, List.append_toArray, List.nil_append, List.cons_append]
  gi_wp2
  have hV := v2_start w (.cells #[.int .i64 d, .int .i64 0, .int .i64 1000, .int .i64 b, .int .i64 d, .int .i64 10000000, .int .i64 e, .int .i64 0, .int .i64 10000000, .int .i64 n, .int .i64 1, .int .i64 10000000, .int .i64 l, .int .i64 0, .int .i64 100000] 118)
  have hB : RowKit.Below w.heap.size w (((w.alloc (.cells #[.slice none 0 0] 75)).alloc (.cells #[.int .i64 0] 32)).alloc (.cells #[.int .i64 d, .int .i64 0, .int .i64 1000, .int .i64 b, .int .i64 d, .int .i64 10000000, .int .i64 e, .int .i64 0, .int .i64 10000000, .int .i64 n, .int .i64 1, .int .i64 10000000, .int .i64 l, .int .i64 0, .int .i64 100000] 118)) := (((RowKit.Below.refl _ w).alloc (Nat.le_refl _) _).alloc (by simp) _).alloc (by simp; omega) _
  generalize (((w.alloc (.cells #[.slice none 0 0] 75)).alloc (.cells #[.int .i64 0] 32)).alloc (.cells #[.int .i64 d, .int .i64 0, .int .i64 1000, .int .i64 b, .int .i64 d, .int .i64 10000000, .int .i64 e, .int .i64 0, .int .i64 10000000, .int .i64 n, .int .i64 1, .int .i64 10000000, .int .i64 l, .int .i64 0, .int .i64 100000] 118)) = W0 at *
  have HV0 := Lib.hid hV
  have HB0 := Lib.hid hB
  clear hV hB
  gi_loopw [32] (fun s32 wr => ∃ i : Nat, i ≤ 5 ∧ s32 = .int .i64 i ∧ Hid (V2 w.heap.size wr) ∧ Hid (RowKit.Below w.heap.size w wr)) (fun s32 _ => 5 - (intOf s32).toNat)
  case atStart => exact ⟨0, by decide, rfl, HV0, HB0⟩
  case round =>
    obtain ⟨i, hi, rfl, HV, HB⟩ := hrel
    clear HV0 HB0
    have hc : i = 0 ∨ i = 1 ∨ i = 2 ∨ i = 3 ∨ i = 4 ∨ i = 5 := by omega
    rcases hc with rfl | rfl | rfl | rfl | rfl | rfl
    · gi_wp2
      go_roundw
      case rel => exact ⟨1, by decide, by go_num, Lib.hid (HV.out.alloc _), Lib.hid (HB.out.alloc HB.out.size _)⟩
      case measure => simp [intOf]
    · gi_wp2
      go_roundw
      case rel => exact ⟨2, by decide, by go_num, Lib.hid (HV.out.alloc _), Lib.hid (HB.out.alloc HB.out.size _)⟩
      case measure => simp [intOf]
    · gi_wp2
      go_roundw
      case rel => exact ⟨3, by decide, by go_num, Lib.hid (HV.out.alloc _), Lib.hid (HB.out.alloc HB.out.size _)⟩
      case measure => simp [intOf]
    · gi_wp2
      go_roundw
      case rel => exact ⟨4, by decide, by go_num, Lib.hid (HV.out.alloc _), Lib.hid (HB.out.alloc HB.out.size _)⟩
      case measure => simp [intOf]
    · gi_wp2
      go_roundw
      case rel => exact ⟨5, by decide, by go_num, Lib.hid (HV.out.alloc _), Lib.hid (HB.out.alloc HB.out.size _)⟩
      case measure => simp [intOf]
    · gi_wp2
      refine ⟨trivial, ?_⟩
      refine (callsIn_wide.2 (times_fn _ _ _ _)).mono ?_
      rintro e' w5 ⟨rfl, rfl⟩
      gi_wp2
      have hVT := VT.start HV.out (.cells #[.int .i64 b, .int .i64 e, .int .i64 (n - 1 - 3 * d + 2)] 120) (.cells #[.int .i64 b, .int .i64 e, .int .i64 (n - 1 - 3 * d + 2)] 120)
      have hws := HB.out.size
      have hBB : RowKit.Below w.heap.size w (((wr.alloc (.cells #[.int .i64 b, .int .i64 e, .int .i64 (n - 1 - 3 * d + 2)] 120)).alloc (.cells #[.slice none 0 0] 75)).alloc (.cells #[.int .i64 b, .int .i64 e, .int .i64 (n - 1 - 3 * d + 2)] 120)) := ((HB.out.alloc hws _).alloc (by simp; omega) _).alloc (by simp; omega) _
      have hRH : RhAt (wr.heap.size + 1 + 1) b e (n - 1 - 3 * d + 2) (((wr.alloc (.cells #[.int .i64 b, .int .i64 e, .int .i64 (n - 1 - 3 * d + 2)] 120)).alloc (.cells #[.slice none 0 0] 75)).alloc (.cells #[.int .i64 b, .int .i64 e, .int .i64 (n - 1 - 3 * d + 2)] 120)) := by
        have := World.alloc_heap_new ((wr.alloc (.cells #[.int .i64 b, .int .i64 e, .int .i64 (n - 1 - 3 * d + 2)] 120)).alloc (.cells #[.slice none 0 0] 75)) (.cells #[.int .i64 b, .int .i64 e, .int .i64 (n - 1 - 3 * d + 2)] 120)
        rw [World.size_alloc, World.size_alloc] at this
        exact this
      have hsz : (((wr.alloc (.cells #[.int .i64 b, .int .i64 e, .int .i64 (n - 1 - 3 * d + 2)] 120)).alloc (.cells #[.slice none 0 0] 75)).alloc (.cells #[.int .i64 b, .int .i64 e, .int .i64 (n - 1 - 3 * d + 2)] 120)).heap.size = wr.heap.size + 1 + 1 + 1 := by simp
      generalize (((wr.alloc (.cells #[.int .i64 b, .int .i64 e, .int .i64 (n - 1 - 3 * d + 2)] 120)).alloc (.cells #[.slice none 0 0] 75)).alloc (.cells #[.int .i64 b, .int .i64 e, .int .i64 (n - 1 - 3 * d + 2)] 120)) = W5 at *
      have hnB : w.heap.size + 1 < wr.heap.size := HV.out.b1.lt
      have hit := times_stops 4 (by omega) (wr.heap.size + 1 + 1) b e (n - 1 - 3 * d + 2) z (by omega) (by omega) (by omega) W5 hRH
      refine wpIn_rangeFunc_ownH rfl (by omega) (gf := 99) (lb := #[.pointer (some ⟨wr.heap.size + 1 + 1, 0, none⟩)]) rfl trivial (enters_of Tryd.func99 (by kernel_rfl) rfl)
        hit KeepsB.t (KeepsB.b (by omega)) (RowKit.Below.refl _ _) (fun _ => rfl)
        (fun pre W => ((VT w.heap.size wr.heap.size pre W ∧ pre.length ≤ 400) ∧ RhAt (wr.heap.size + 1 + 1) b e (n - 1 - 3 * d + 2) W) ∧ RowKit.Below w.heap.size w W)
        (fun c pre W => (c = .ret ∧ 400 < cntT b e (n - 1 - 3 * d + 2) ∧ VX w.heap.size W) ∧ RowKit.Below w.heap.size w W)
        (fun s X Y row hs hg hr => ⟨⟨⟨hs.1.1.1.own hg (fun r e => (hr r e).2), hs.1.1.2⟩, hs.1.2.own hg (fun r e => (hr r e).2)⟩, ownFrom_below (Nat.le_refl _) (by omega) s X Y row hs.2 hg hr⟩)
        (fun c s X Y row hs hg hr => ⟨⟨hs.1.1, hs.1.2.1, hs.1.2.2.own hg (fun r e => (hr r e).2)⟩, ownFrom_below (Nat.le_refl _) (by omega) s X Y row hs.2 hg hr⟩)
        ⟨⟨⟨hVT, Nat.zero_le _⟩, hRH⟩, hBB⟩
        (fun x a' W => a' = { tmps := #[.int .i64 b, .int .i64 e, .int .i64 n, .int .i64 d, .int .i64 l, undef, undef, undef, undef, undef, .pointer (some ⟨w.heap.size, 0, none⟩), .pointer (some ⟨w.heap.size + 1, 0, none⟩), .pointer (some ⟨w.heap.size + 1 + 1, 0, none⟩), undef, u14, .pointer (some ⟨wr.heap.size, 0, none⟩), .pointer (some ⟨wr.heap.size + 1, 0, none⟩), .func (.func 75) #[.agg #[.int .i64 b, .int .i64 e, .int .i64 (n - 1 - 3 * d + 2)]] #[], .int .i64 x, .int .i64 d, .agg #[.int .i64 d, .int .i64 0, .int .i64 1000], .int .i64 b, .int .i64 d, .agg #[.int .i64 b, .int .i64 d, .int .i64 10000000], .int .i64 e, .agg #[.int .i64 e, .int .i64 0, .int .i64 10000000], .int .i64 n, .agg #[.int .i64 n, .int .i64 1, .int .i64 10000000], .int .i64 l, .agg #[.int .i64 l, .int .i64 0, .int .i64 100000], .agg #[.int .i64 d, .int .i64 0, .int .i64 1000, .int .i64 b, .int .i64 d, .int .i64 10000000, .int .i64 e, .int .i64 0, .int .i64 10000000, .int .i64 n, .int .i64 1, .int .i64 10000000, .int .i64 l, .int .i64 0, .int .i64 100000], .agg #[.int .i64 d, .int .i64 0, .int .i64 1000, .int .i64 b, .int .i64 d, .int .i64 10000000, .int .i64 e, .int .i64 0, .int .i64 10000000, .int .i64 n, .int .i64 1, .int .i64 10000000, .int .i64 l, .int .i64 0, .int .i64 100000], .int .i64 5, .bool false, u34, u35, u36, u37, u38, u39, u40, u41, u42, u43, u44, u45, u46, u47, .int .i64 e, .int .i64 b, .bool (decide (e ≤ b)), .int .i64 b, .int .i64 e, .int .i64 n, .int .i64 l, .int .i64 (1), .int .i64 (n - (1)), .int .i64 d, .int .i64 (3 * d), .int .i64 (n - (1) - 3 * d), .int .i64 (n - 1 - 3 * d + 2), .agg #[.int .i64 b, .int .i64 e, .int .i64 (n - 1 - 3 * d + 2)], .pointer (some ⟨wr.heap.size, 2, none⟩), .int .i64 (n - 1 - 3 * d + 2), .bool (decide ((n - 1 - 3 * d + 2) < 1)), .agg #[.int .i64 b, .int .i64 e, .int .i64 (n - 1 - 3 * d + 2)], .func (.func 75) #[.agg #[.int .i64 b, .int .i64 e, .int .i64 (n - 1 - 3 * d + 2)]] #[], .func (.func 75) #[.agg #[.int .i64 b, .int .i64 e, .int .i64 (n - 1 - 3 * d + 2)]] #[], .func (.func 99) #[] #[.pointer (some ⟨wr.heap.size + 1 + 1, 0, none⟩)], .int .i64 x, undef, undef, undef, undef, undef, undef, undef, undef], defers := [] })
        (fun x a' _ X Y row hs hg hr => hs)
        ?assign ?body ?done ?stop
      case assign =>
        rintro lk pre x W K ⟨hV, hB⟩ hK
        gi_wp2
        exact hK _ _ ((KeepsOthers.refl _).from _) (fun _ h => h) ⟨hV, hB⟩ rfl
      case body =>
        rintro lk pre x a' W hl hr ⟨⟨⟨hV, h4⟩, hR⟩, hB⟩ rfl hlen
        have HR := Lib.hid hR
        clear hR hRH
        obtain ⟨v, hb5, ho5⟩ := hV.bo
        obtain ⟨p5, cap5, rfl⟩ := row_form ho5
        have c0 := hV.b0.cell
        have f0' := hV.b0.frozen
        have c1 := hV.b1.cell
        have f1' := hV.b1.frozen
        have c5 := hb5.cell
        have f5' := hb5.frozen
        obtain ⟨k, hk⟩ : ∃ k, pre.length = k := ⟨_, rfl⟩
        rw [hk] at ho5 hlen h4
        rw [hk] at c5 hb5
        have HV := Lib.hid hV
        have HBI := Lib.hid hB
        have HK := Lib.hid hk
        have HB5 := Lib.hid hb5
        have HO5 := Lib.hid ho5
        have hWs := hB.size
        have hb5lt := hb5.lt
        have hit4 : 400 ≤ k → 400 < cntT b e (n - 1 - 3 * d + 2) := fun z => by omega
        have HIT := Lib.hid hit4
        obtain ⟨i0, hi0, hz0, hz1, hz2⟩ := info_parts infoI
        have HI := Lib.hid hi0
        have HZ0 := Lib.hid hz0
        have HZ1 := Lib.hid hz1
        have HZ2 := Lib.hid hz2
        clear hV hB hk hb5 ho5 hi0 hz0 hz1 hz2 hit hVT hBB hit4 hlen
        by_cases h400 : k = 400
        · subst h400
          gi_wp2
          refine ⟨((KeepsOthers.setCell _ _ _).trans (KeepsOthers.setCell _ _ _)).from _, ⟨rfl, HIT.out (Nat.le_refl _), ⟨(HV.out.b0.set _).other (by omega) _, (HV.out.b1.other (by omega) _).set _⟩⟩, ?_⟩
          exact (HBI.out.setCell (p := ⟨w.heap.size, 0, none⟩) (Nat.le_refl _) _).setCell (p := ⟨w.heap.size + 1, 0, none⟩) (show w.heap.size ≤ w.heap.size + 1 by omega) _
        · have z4 : ((k : Int) == 400) = false := beq_eq_false_iff_ne.2 (by omega)
          gi_wp2_with (gi_at_builtin; refine wpListIn_append_own _ rfl (.tmp 73) (.tmp 75) 75 rfl w.heap.size 3 i0 (.int .i64 0) 1 8 Tryd.underlying75 HI.out HZ0.out HZ1.out HZ2.out rfl (by decide) (.slice p5 k cap5) k (rowI pre) rfl (HO5.out.alloc _) ⟨W.heap.size, 0, none⟩ 1 1 [.int .i64 x] rfl rfl (news_i W x 3) (one_i x) (by unfold maxLen; omega) (by omega) (by simp; omega) ?_; intro v' w6 hown' hgrow _; obtain ⟨g2, cap2, rfl⟩ := ownsRow_succ hown'; have hap := HB5.out.appended (by decide) HO5.out (by omega) (by omega) hown' hgrow; have hV6 := vt_push HV.out hnB HB5.out HO5.out x HK.out hown' hgrow; have hR6 := rh_push (B := wr.heap.size + 1) (v' := .slice (some ⟨g2, 0, none⟩) (k + 1) cap2) HR.out (by omega) HO5.out hgrow; have HR6 := Lib.hid hR6; obtain ⟨q1, q2, q3, q4, q5⟩ := hap; have c5' := q1.cell; have f5'' := q1.frozen; have Q4 := Lib.hid q4; have Q5 := Lib.hid q5; have HV7 := Lib.hid hV6; clear q1 q2 q3 q4 q5 hV6 hR6 hown' hgrow)
          refine ⟨Q4.out.from _, fun o ho => ?_, ⟨⟨HV7.out, by rw [List.length_append, HK.out]; simp; omega⟩, HR6.out⟩, HBI.out.trans Q5.out⟩
          rw [show W.heap[wr.heap.size + 1 + 1]? = _ from HR.out] at ho
          cases ho
          exact HR6.out
      case done =>
        rintro D ys W hD hys ⟨⟨⟨hV, h4⟩, hR⟩, hB⟩ hK
        obtain ⟨v, hb5, ho5⟩ := hV.bo
        obtain ⟨p5, cap5, rfl⟩ := row_form ho5
        have c0 := hV.b0.cell
        have f0' := hV.b0.frozen
        have c1 := hV.b1.cell
        have f1' := hV.b1.frozen
        have c5 := hb5.cell
        have HV := Lib.hid hV
        have HBI := Lib.hid hB
        have HO5 := Lib.hid ho5
        have HB5 := Lib.hid hb5
        have HK := Lib.hid hK
        have hc4 : cntT b e (n - 1 - 3 * d + 2) ≤ 400 := by rw [← seqT_len, ← hys]; exact h4
        have HT : Hid (timesR b e (n - 1 - 3 * d + 2) = (ys, 0)) := Lib.hid (by unfold timesR; rw [if_pos hc4, hys])
        clear hV hB hK hb5 ho5 hit hVT hBB hRH hR hys h4 hc4
        gi_wp2
        rw [HT.out]
        have hK8 := ((KeepsOthers.setCell W ⟨w.heap.size, 0, none⟩ (.slice p5 ys.length cap5)).trans (KeepsOthers.setCell _ ⟨w.heap.size + 1, 0, none⟩ (.int .i64 0))).same D _ HK.out rfl
        refine ⟨by simp, .inl ⟨_, _, rfl, run_takeDeferred hK8, ?_⟩⟩
        have hX0 : Boxed (((W.setCell ⟨w.heap.size, 0, none⟩ (.slice p5 ys.length cap5)).setCell ⟨w.heap.size + 1, 0, none⟩ (.int .i64 0)).putObj D (.deferred none)) w.heap.size 75 (.slice p5 ys.length cap5) := boxed_own' ((HV.out.b0.set _).other (by omega) _) (grownBy_putObj' _ D (.deferred none)) (fun r e => by cases e; exact ⟨_, hK8, rfl⟩)
        have hX1 : Boxed (((W.setCell ⟨w.heap.size, 0, none⟩ (.slice p5 ys.length cap5)).setCell ⟨w.heap.size + 1, 0, none⟩ (.int .i64 0)).putObj D (.deferred none)) (w.heap.size + 1) 32 (.int .i64 0) := boxed_own' ((HV.out.b1.other (by omega) _).set _) (grownBy_putObj' _ D (.deferred none)) (fun r e => by cases e; exact ⟨_, hK8, rfl⟩)
        have hc0 := hX0.cell
        have hc1 := hX1.cell
        have r1 := HO5.out.kept (grownBy_setCell' W w.heap.size (.slice p5 ys.length cap5)) (.inr (HV.out.b0.not_row (by decide) HO5.out).symm)
        have r2 := r1.kept (grownBy_setCell' _ (w.heap.size + 1) (.int .i64 0)) (.inr ((HV.out.b1.other (by omega) _).not_row (by decide) r1).symm)
        have r3 := ownsRow_putObj r2 (.deferred none) hK8 rfl
        refine ⟨.tuple #[.slice p5 ys.length cap5, .int .i64 0], ?_, ⟨_, rfl, SlI.owned r3, ?_⟩⟩
        · simp [results, Tryd.f34, go_sem, hc0, hc1]
        · exact ((HBI.out.setCell (p := ⟨w.heap.size, 0, none⟩) (Nat.le_refl _) _).setCell (p := ⟨w.heap.size + 1, 0, none⟩) (show w.heap.size ≤ w.heap.size + 1 by omega) _).trans (belowK_b (w := w) (Nat.le_refl _) _ D _ _ (by omega) hK8 rfl rfl)
      case stop =>
        rintro D c pre W hD hpre ⟨⟨rfl, h4, hX⟩, hB⟩ hK
        have HT : Hid (timesR b e (n - 1 - 3 * d + 2) = ([], 2)) := Lib.hid (by unfold timesR; rw [if_neg (by omega)])
        clear hit hVT hBB hRH h4 hpre
        gi_wp2
        rw [HT.out]
        refine ⟨by simp, .inl ⟨_, _, rfl, run_takeDeferred hK, ?_⟩⟩
        have hX2 := hX.own (grownBy_putObj' _ D (.deferred none)) (fun r e => by cases e; exact ⟨_, hK, rfl⟩)
        have hc0 := hX2.b0.cell
        have hc1 := hX2.b1.cell
        refine ⟨.tuple #[.slice none 0 0, .int .i64 2], ?_, ⟨_, rfl, .inl ⟨rfl, none, 0, rfl⟩, hB.trans (belowK_b (w := w) (Nat.le_refl _) W D _ _ (by omega) hK rfl rfl)⟩⟩
        simp [results, Tryd.f34, go_sem, hc0, hc1]
end Go.Proofs.YteojjbfeblbfdaaDoor
