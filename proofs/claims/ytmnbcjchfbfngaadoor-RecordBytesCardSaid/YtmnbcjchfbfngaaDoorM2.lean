/- The contracts of Same and SameSets of the reference of package record; no condition beyond those that each theorem names. -/
import Derived.Test.YtmnbcjchfbfngaaDoorM1
namespace Go.Proofs.YtmnbcjchfbfngaaDoor
set_option linter.unusedSimpArgs false
set_option linter.unusedVariables false
open Go.RowKit
open NmP

theorem ba_eq {a b : ByteArray} (h : a.toList = b.toList) : a = b := by
  apply ByteArray.ext
  apply Array.toList_inj.1
  rw [← tl, ← tl]
  exact h
theorem ba_ne {a b : ByteArray} (h : ¬ a = b) : ¬ a.toList = b.toList := fun q => h (ba_eq q)
theorem drop_ofL {α : Type} {l : List α} {k : Nat} {s : α} (h : l[k]? = some s) : l.drop k = s :: l.drop (k + 1) := by
  obtain ⟨h1, h2⟩ := List.getElem?_eq_some_iff.1 h
  rw [List.drop_eq_getElem_cons h1, h2]
/-- Two sets are the same. -/
def sameB (s t : St) : Bool := decide (s.x = t.x) && decide (s.typ = t.typ) && decide (s.life = t.life) && decide (s.l = t.l)
/-- The boxes of two sets. -/
structure TwoBx (W : World) (B : Nat) (x y : ByteArray) (t u lx ly : Int) (vx vy : Value) : Prop where
  a : W.heap[B]? = some (Obj.cells #[.string x, .int .i64 t, .int .i64 lx, vx] 24 (0, 0))
  b : W.heap[B + 1]? = some (Obj.cells #[.string y, .int .i64 u, .int .i64 ly, vy] 24 (0, 0))
theorem twoBx (w : World) (x y : ByteArray) (t u lx ly : Int) (vx vy : Value) :
    TwoBx ((w.alloc (.cells #[.string x, .int .i64 t, .int .i64 lx, vx] 24)).alloc (.cells #[.string y, .int .i64 u, .int .i64 ly, vy] 24)) w.heap.size x y t u lx ly vx vy := by
  refine ⟨?_, ?_⟩
  · rw [heap_alloc_old _ _ (by simp)]
    exact heap_alloc_new w _
  · have := heap_alloc_new (w.alloc (.cells #[.string x, .int .i64 t, .int .i64 lx, vx] 24)) (.cells #[.string y, .int .i64 u, .int .i64 ly, vy] 24)
    rw [show (w.alloc (.cells #[.string x, .int .i64 t, .int .i64 lx, vx] 24)).heap.size = w.heap.size + 1 by simp] at this
    exact this

set_option maxHeartbeats 4000000 in
set_option maxRecDepth 100000 in
theorem rsame_len (x y : ByteArray) (t u lx ly : Int) (vx vy : Value) (la lb : List Dt) (w : World) (ha : SlD vx la w) (hb : SlD vy lb w) (hne : ¬ (x = y ∧ t = u ∧ lx = ly ∧ la.length = lb.length)) :
    Calls Tryd.prog 21 #[.agg #[.string x, .int .i64 t, .int .i64 lx, vx], .agg #[.string y, .int .i64 u, .int .i64 ly, vy]] w fun e w' => e = .returned (.bool false) ∧ Below w.heap.size w w' := by
  obtain ⟨pa, ca, rfl⟩ := ha.form
  obtain ⟨pb, cb, rfl⟩ := hb.form
  have HB := Lib.hid (((Below.refl _ w).alloc (Nat.le_refl _) (.cells #[.string x, .int .i64 t, .int .i64 lx, .slice pa la.length ca] 24)).alloc (by simp) (.cells #[.string y, .int .i64 u, .int .i64 ly, .slice pb lb.length cb] 24))
  clear ha hb
  generalize la.length = n at *
  generalize lb.length = m at *
  by_cases q0 : x = y
  case neg =>
    have z0 : (x.toList == y.toList) = false := beq_eq_false_iff_ne.2 (ba_ne q0)
    clear q0 hne
    go_enter Tryd.func21, Tryd.ntmps21
    go_wp2
    go_ret
    exact ⟨rfl, HB.out⟩
  subst q0
  have z0 : (x.toList == x.toList) = true := by simp
  by_cases q1 : t = u
  case neg =>
    have z1 : (t == u) = false := beq_eq_false_iff_ne.2 q1
    clear hne
    go_enter Tryd.func21, Tryd.ntmps21
    go_wp2
    go_ret
    exact ⟨rfl, HB.out⟩
  subst q1
  have z1 : (t == t) = true := by simp
  by_cases q2 : lx = ly
  case neg =>
    have z2 : (lx == ly) = false := beq_eq_false_iff_ne.2 q2
    clear hne
    go_enter Tryd.func21, Tryd.ntmps21
    go_wp2
    go_ret
    exact ⟨rfl, HB.out⟩
  subst q2
  have z2 : (lx == lx) = true := by simp
  have q3 : ¬ n = m := fun h => hne ⟨rfl, rfl, rfl, h⟩
  have z3 : ((n : Int) == (m : Int)) = false := beq_eq_false_iff_ne.2 (by omega)
  clear q3 hne
  go_enter Tryd.func21, Tryd.ntmps21
  go_wp2
  go_ret
  exact ⟨rfl, HB.out⟩

set_option maxHeartbeats 4000000 in
set_option maxRecDepth 100000 in
theorem rsame_row (x : ByteArray) (t lx : Int) (vx vy : Value) (la lb : List Dt) (w : World) (hlx : x.size ≤ maxLen) (ha : SlD vx la w) (hb : SlD vy lb w) (hl : la.length = lb.length) (hn : la.length ≤ maxLen) :
    Calls Tryd.prog 21 #[.agg #[.string x, .int .i64 t, .int .i64 lx, vx], .agg #[.string x, .int .i64 t, .int .i64 lx, vy]] w fun e w' => e = .returned (.bool (decide (la = lb))) ∧ Below w.heap.size w w' := by
  unfold maxLen at hn
  obtain ⟨pa, ca, rfl⟩ := ha.form
  obtain ⟨pb, cb, rfl⟩ := hb.form
  obtain ⟨n, hln⟩ : ∃ n, la.length = n := ⟨_, rfl⟩
  have hlm : lb.length = n := by omega
  rw [hln] at ha hn ⊢
  rw [hlm] at hb ⊢
  have hb0 := ((Below.refl _ w).alloc (Nat.le_refl _) (.cells #[.string x, .int .i64 t, .int .i64 lx, .slice pa n ca] 24)).alloc (by simp) (.cells #[.string x, .int .i64 t, .int .i64 lx, .slice pb n cb] 24)
  have HT := Lib.hid (twoBx w x x t t lx lx (.slice pa n ca) (.slice pb n cb))
  have HA := Lib.hid (ha.keep hb0)
  have HB := Lib.hid (hb.keep hb0)
  have HB0 := Lib.hid hb0
  have HL := Lib.hid hln
  have HM := Lib.hid hlm
  generalize hR : decide (la = lb) = R
  have HR := Lib.hid hR
  have z0 : (x.toList == x.toList) = true := by simp
  clear ha hb hb0 hR hl hln hlm
  generalize hW0 : (w.alloc (.cells #[.string x, .int .i64 t, .int .i64 lx, .slice pa n ca] 24)).alloc (.cells #[.string x, .int .i64 t, .int .i64 lx, .slice pb n cb] 24) = W0 at *
  have HW0 := Lib.hid hW0
  clear hW0
  go_enter Tryd.func21, Tryd.ntmps21
  go_wp2
  rw [HW0.out]
  have a3 := cell_of_blk HT.out.a 3 (.slice pa n ca) rfl
  have b3 := cell_of_blk HT.out.b 3 (.slice pb n cb) rfl
  go_loopw [5] (fun s5 wr => ∃ i : Nat, i ≤ n ∧ s5 = .int .i64 i ∧ Hid (decide (la.drop i = lb.drop i) = R) ∧ ∃ q, wr = W0.drewN q) (fun s5 _ => n - (intOf s5).toNat)
  case atStart => exact ⟨0, Nat.zero_le _, rfl, HR, 0, rfl⟩
  case round =>
    obtain ⟨i, hi, rfl, HS, q, rfl⟩ := hrel
    by_cases h1 : i < n
    · have ia : i < la.length := by rw [HL.out]; exact h1
      have ib : i < lb.length := by rw [HM.out]; exact h1
      have ga : la[i]? = some la[i] := List.getElem?_eq_getElem ia
      have gb : lb[i]? = some lb[i] := List.getElem?_eq_getElem ib
      obtain ⟨g1, o1, rfl, hg1, hR1⟩ := HA.out.at_ (by omega)
      obtain ⟨g2, o2, rfl, hg2, hR2⟩ := HB.out.at_ (by omega)
      obtain ⟨c0, c1, c2⟩ := hR1.at_ ga
      obtain ⟨d0, d1, d2⟩ := hR2.at_ gb
      have hS := HS.out
      rw [drop_ofL ga, drop_ofL gb] at hS
      generalize la[i] = ta at *
      generalize lb[i] = tb at *
      obtain ⟨xs, xn, xm⟩ := ta
      obtain ⟨ys, yn, ym⟩ := tb
      simp only at c0 c1 c2 d0 d1 d2
      have hi1 : (i : Int) < (n : Int) := by omega
      have hi0 : (0 : Int) ≤ (i : Int) := by omega
      clear ga gb HR ia ib hR1 hR2
      by_cases p0 : xs = ys
      case neg =>
        have y0 : (xs.toList == ys.toList) = false := beq_eq_false_iff_ne.2 (ba_ne p0)
        obtain rfl : R = false := by rw [← hS]; simp [p0]
        clear hS
        go_wp2
        go_quiet (fail)
        go_wp2
        go_ret
        exact ⟨rfl, below_drewD (below_drewD HB0.out _) _⟩
      have y0 : (xs.toList == ys.toList) = true := by rw [p0]; simp
      by_cases p1 : xn = yn
      case neg =>
        have y1 : (xn == yn) = false := beq_eq_false_iff_ne.2 p1
        obtain rfl : R = false := by rw [← hS]; simp [p1]
        clear hS p0
        go_wp2
        go_quiet (fail)
        go_wp2
        go_ret
        exact ⟨rfl, below_drewD (below_drewD HB0.out _) _⟩
      have y1 : (xn == yn) = true := by rw [p1]; simp
      by_cases p2 : xm = ym
      case neg =>
        have y2 : (xm == ym) = false := beq_eq_false_iff_ne.2 p2
        obtain rfl : R = false := by rw [← hS]; simp [p2]
        clear hS p0 p1
        go_wp2
        go_quiet (fail)
        go_wp2
        go_ret
        exact ⟨rfl, below_drewD (below_drewD HB0.out _) _⟩
      have y2 : (xm == ym) = true := by rw [p2]; simp
      have HF : Hid (decide (la.drop (i + 1) = lb.drop (i + 1)) = R) := Lib.hid (by rw [← hS]; simp [p0, p1, p2])
      clear hS p0 p1 p2
      go_wp2
      go_quiet (fail)
      go_wp2
      go_roundw
      case rel => exact ⟨i + 1, by omega, by go_num, HF, _, rfl⟩
      case measure => simp [intOf]; omega
    · obtain rfl : i = n := by omega
      have hT : R = true := by
        have := HS.out
        rw [List.drop_eq_nil_of_le (by rw [HL.out]; exact Nat.le_refl _), List.drop_eq_nil_of_le (by rw [HM.out]; exact Nat.le_refl _)] at this
        exact this.symm
      subst hT
      go_wp2
      go_ret
      exact ⟨rfl, below_drewD HB0.out _⟩
theorem rsame_any (s t : St) (w : World) (hs : s.In w) (ht : t.In w) (hn : s.l.length ≤ maxLen) :
    Calls Tryd.prog 21 #[.agg #[.string s.x, .int .i64 s.typ, .int .i64 s.life, s.v], .agg #[.string t.x, .int .i64 t.typ, .int .i64 t.life, t.v]] w fun e w' => e = .returned (.bool (sameB s t)) ∧ Below w.heap.size w w' := by
  obtain ⟨x, typ, life, v, l⟩ := s
  obtain ⟨y, typ2, life2, v2, l2⟩ := t
  by_cases h : x = y ∧ typ = typ2 ∧ life = life2 ∧ l.length = l2.length
  · obtain ⟨rfl, rfl, rfl, h4⟩ := h
    have k := rsame_row x typ life v v2 l l2 w hs.hx hs.hA ht.hA h4 hn
    simpa [sameB] using k
  · have k := rsame_len x y typ typ2 life life2 v v2 l l2 w hs.hA ht.hA h
    have e : sameB ⟨x, typ, life, v, l⟩ ⟨y, typ2, life2, v2, l2⟩ = false := by
      rw [Bool.eq_false_iff]
      intro q
      simp only [sameB, Bool.and_eq_true, decide_eq_true_eq] at q
      exact h ⟨q.1.1.1, q.1.1.2, q.1.2, by rw [q.2]⟩
    rw [e]
    exact k
end Go.Proofs.YtmnbcjchfbfngaaDoor
