/- The contracts of order and Compare of package record; no condition beyond those that each theorem names. -/
import Derived.Test.YtmnbcjchfbfngaaDoorB2
import Derived.Test.YtmnbcjchfbfngaaDoorN6
namespace Go.Proofs.YtmnbcjchfbfngaaDoor
set_option linter.unusedSimpArgs false
set_option linter.unusedVariables false
open Go.RowKit
open NmP

/-- How two valid sets compare. -/
def ordB (x y : Bs) (t u : Int) : Int := if x = y then cmpI t u else cmpN x y
set_option maxHeartbeats 1000000 in
set_option maxRecDepth 100000 in
theorem order_any (x y : ByteArray) (t u lx ly : Int) (vx vy : Value) (w : World) (hx : x.size ≤ maxLen) (hy : y.size ≤ maxLen) (hvx : validB x.toList = true) (hvy : validB y.toList = true) :
    Calls Tryd.prog 23 #[.agg #[.string x, .int .i64 t, .int .i64 lx, vx], .agg #[.string y, .int .i64 u, .int .i64 ly, vy]] w fun e w' => e = .returned (.int .i64 (ordB x.toList y.toList t u)) ∧ Below w.heap.size w w' := by
  have CC := Lib.hid (fun W => Compare_any x y W hx hy hvx hvy)
  have CI := Lib.hid (fun W => cmp_int t u W)
  have HB := Lib.hid (((Below.refl _ w).alloc (Nat.le_refl _) (.cells #[.string x, .int .i64 t, .int .i64 lx, vx] 24)).alloc (by simp) (.cells #[.string y, .int .i64 u, .int .i64 ly, vy] 24))
  clear hvx hvy hx hy
  by_cases q : x.toList = y.toList
  · rw [show ordB x.toList y.toList t u = cmpI t u from if_pos q]
    have d : (!x.toList == y.toList) = false := by simp [q]
    clear q
    go_enter Tryd.func23, Tryd.ntmps23
    go_wp2_with (go_at_call 52; refine (CI.out _).mono ?_; rintro e w1 ⟨rfl, rfl⟩)
    go_ret
    exact ⟨rfl, HB.out⟩
  · rw [show ordB x.toList y.toList t u = cmpN x.toList y.toList from if_neg q]
    have d : (!x.toList == y.toList) = true := by simp [q]
    clear q
    go_enter Tryd.func23, Tryd.ntmps23
    go_wp2_with (go_at_call 51; refine (CC.out _).mono ?_; rintro e w1 ⟨rfl, hb⟩; have HB2 := Lib.hid (HB.out.trans (hb.mono HB.out.size)); clear hb)
    go_ret
    exact ⟨rfl, HB2.out⟩

/-! the order -/
theorem cmpI_anti (a b : Int) : cmpI b a = - cmpI a b := by
  unfold cmpI; split <;> split <;> omega
theorem cmpI_zero (a b : Int) : cmpI a b = 0 ↔ a = b := by
  unfold cmpI; split
  · omega
  · split <;> omega
theorem ordB_anti (x y : Bs) (t u : Int) : ordB y x u t = - ordB x y t u := by
  unfold ordB
  by_cases h : x = y
  · rw [if_pos h, if_pos h.symm, cmpI_anti]
  · rw [if_neg h, if_neg (fun q => h q.symm), cmpN_good.anti]
theorem ordB_zero (x y : Bs) (t u : Int) : ordB x y t u = 0 ↔ x = y ∧ t = u := by
  unfold ordB
  by_cases h : x = y
  · rw [if_pos h, cmpI_zero]; simp [h]
  · rw [if_neg h, cmpN_good.zero]; simp [h]
theorem cmpI_range (a b : Int) : -1 ≤ cmpI a b ∧ cmpI a b ≤ 1 := by
  unfold cmpI; split
  · omega
  · split <;> omega
theorem ordB_trans (x y z : Bs) (t u v : Int) (h1 : ordB x y t u ≤ 0) (h2 : ordB y z u v ≤ 0) : ordB x z t v ≤ 0 := by
  unfold ordB at *
  by_cases p : x = y
  · subst p
    rw [if_pos rfl] at h1
    by_cases q : x = z
    · subst q
      rw [if_pos rfl] at h2 ⊢
      unfold cmpI at *
      split at h1 <;> split at h2 <;> split <;> omega
    · rw [if_neg q] at h2 ⊢; exact h2
  · rw [if_neg p] at h1
    by_cases q : y = z
    · subst q
      rw [if_neg p]; exact h1
    · rw [if_neg q] at h2
      have h3 := cmpN_good.trans x y z h1 h2
      by_cases r : x = z
      · subst r
        have h4 := cmpN_good.anti x y
        have h5 : cmpN x y = 0 := by omega
        exact absurd ((cmpN_good.zero x y).1 h5) p
      · rw [if_neg r]; exact h3
theorem ordB_range (x y : Bs) (t u : Int) : -1 ≤ ordB x y t u ∧ ordB x y t u ≤ 1 := by
  unfold ordB
  split
  · exact cmpI_range t u
  · rcases cmpN_good.rng x y with h | h | h <;> omega

/-- A set: Name, Type, Life, Data; and what holds its data. -/
structure St where
  x : ByteArray
  typ : Int
  life : Int
  v : Value
  l : List Dt
def St.agg (s : St) : Value := .agg #[.string s.x, .int .i64 s.typ, .int .i64 s.life, s.v]
def St.ok (s : St) : Bool := setB s.x.toList s.typ s.life s.l
/-- A set that lies in a world, with texts that are not too long. -/
structure St.In (s : St) (w : World) : Prop where
  hx : s.x.size ≤ maxLen
  hs : ∀ d ∈ s.l, d.1.size ≤ maxLen
  hA : SlD s.v s.l w
theorem St.In.keep {s : St} {w w' : World} (h : s.In w) (hb : Below w.heap.size w w') : s.In w' := ⟨h.hx, h.hs, h.hA.keep hb⟩
theorem St.valid (s : St) (w : World) (h : s.In w) (hr : RulesAt w) : Calls Tryd.prog 13 #[.agg #[.string s.x, .int .i64 s.typ, .int .i64 s.life, s.v]] w fun e w' => e = .returned (.bool s.ok) ∧ Below w.heap.size w w' :=
  valid_set s.x s.typ s.life s.v s.l w h.hx h.hs h.hA hr
theorem St.order (s t : St) (w : World) (hs : s.In w) (ht : t.In w) (h1 : s.ok = true) (h2 : t.ok = true) :
    Calls Tryd.prog 23 #[.agg #[.string s.x, .int .i64 s.typ, .int .i64 s.life, s.v], .agg #[.string t.x, .int .i64 t.typ, .int .i64 t.life, t.v]] w fun e w' => e = .returned (.int .i64 (ordB s.x.toList t.x.toList s.typ t.typ)) ∧ Below w.heap.size w w' :=
  order_any s.x t.x s.typ t.typ s.life t.life s.v t.v w hs.hx ht.hx (setB_facts h1).1 (setB_facts h2).1

set_option maxHeartbeats 1000000 in
set_option maxRecDepth 100000 in
theorem compare_any (s t : St) (w : World) (hs : s.In w) (ht : t.In w) (hr : RulesAt w) (h1 : s.ok = true) (h2 : t.ok = true) :
    Calls Tryd.prog 9 #[.agg #[.string s.x, .int .i64 s.typ, .int .i64 s.life, s.v], .agg #[.string t.x, .int .i64 t.typ, .int .i64 t.life, t.v]] w fun e w' => e = .returned (.tuple #[.int .i64 (ordB s.x.toList t.x.toList s.typ t.typ), .int .i64 0]) ∧ Below w.heap.size w w' := by
  have hb0 := ((Below.refl _ w).alloc (Nat.le_refl _) (.cells #[.string s.x, .int .i64 s.typ, .int .i64 s.life, s.v] 24)).alloc (by simp) (.cells #[.string t.x, .int .i64 t.typ, .int .i64 t.life, t.v] 24)
  have k0 : ((w.alloc (.cells #[.string s.x, .int .i64 s.typ, .int .i64 s.life, s.v] 24)).alloc (.cells #[.string t.x, .int .i64 t.typ, .int .i64 t.life, t.v] 24)).heap[w.heap.size]? = some (Obj.cells #[.string s.x, .int .i64 s.typ, .int .i64 s.life, s.v] 24 (0, 0)) := by
    rw [heap_alloc_old _ _ (by simp)]; exact heap_alloc_new w _
  have k1 : ((w.alloc (.cells #[.string s.x, .int .i64 s.typ, .int .i64 s.life, s.v] 24)).alloc (.cells #[.string t.x, .int .i64 t.typ, .int .i64 t.life, t.v] 24)).heap[w.heap.size + 1]? = some (Obj.cells #[.string t.x, .int .i64 t.typ, .int .i64 t.life, t.v] 24 (0, 0)) := by
    have := heap_alloc_new (w.alloc (.cells #[.string s.x, .int .i64 s.typ, .int .i64 s.life, s.v] 24)) (.cells #[.string t.x, .int .i64 t.typ, .int .i64 t.life, t.v] 24)
    simpa using this
  have V1 := Lib.hid (fun W (hb : Below w.heap.size w W) => s.valid W (hs.keep hb) (hr.keep hb))
  have V2 := Lib.hid (fun W (hb : Below w.heap.size w W) => t.valid W (ht.keep hb) (hr.keep hb))
  have VO := Lib.hid (fun W (hb : Below w.heap.size w W) => s.order t W (hs.keep hb) (ht.keep hb) h1 h2)
  rw [h1] at V1
  rw [h2] at V2
  clear h1 h2 hs ht hr
  obtain ⟨x, tx, lx, vx, dx⟩ := s
  obtain ⟨y, ty, ly, vy, dy⟩ := t
  simp only at hb0 k0 k1 V1 V2 VO ⊢
  have HB0 := Lib.hid hb0
  have K0 := Lib.hid k0
  have K1 := Lib.hid k1
  clear hb0 k0 k1
  go_enter Tryd.func9, Tryd.ntmps9
  go_wp2_with (first | (go_at_call 13; (with_reducible refine (V1.out _ HB0.out).mono ?_); rintro e w1 ⟨rfl, hb1⟩; have HB1 := Lib.hid (HB0.out.trans (hb1.mono HB0.out.size)); have L0 := Lib.hid ((KeepNB.of_below hb1).set K0.out); have L1 := Lib.hid ((KeepNB.of_below hb1).set K1.out); clear hb1; have z0 := cell_of_blk L1.out 0 (.string y) rfl; have z1 := cell_of_blk L1.out 1 (.int .i64 ty) rfl; have z2 := cell_of_blk L1.out 2 (.int .i64 ly) rfl; have z3 := cell_of_blk L1.out 3 vy rfl) | (go_at_call 13; (with_reducible refine (V2.out _ HB1.out).mono ?_); rintro e w2 ⟨rfl, hb2⟩; have HB2 := Lib.hid (HB1.out.trans (hb2.mono HB1.out.size)); have M0 := Lib.hid ((KeepNB.of_below hb2).set L0.out); have M1 := Lib.hid ((KeepNB.of_below hb2).set L1.out); clear hb2 z0 z1 z2 z3; have z0 := cell_of_blk M1.out 0 (.string y) rfl; have z1 := cell_of_blk M1.out 1 (.int .i64 ty) rfl; have z2 := cell_of_blk M1.out 2 (.int .i64 ly) rfl; have z3 := cell_of_blk M1.out 3 vy rfl; have y0 := cell_of_blk M0.out 0 (.string x) rfl; have y1 := cell_of_blk M0.out 1 (.int .i64 tx) rfl; have y2 := cell_of_blk M0.out 2 (.int .i64 lx) rfl; have y3 := cell_of_blk M0.out 3 vx rfl) | (go_at_call 23; (with_reducible refine (VO.out _ HB2.out).mono ?_); rintro e w3 ⟨rfl, hb3⟩; have HB3 := Lib.hid (HB2.out.trans (hb3.mono HB2.out.size)); clear hb3))
  go_ret2
  exact ⟨rfl, HB3.out⟩
end Go.Proofs.YtmnbcjchfbfngaaDoor
