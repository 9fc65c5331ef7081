/- The contracts of validKey, validWindow and Sign of package sign; no condition beyond those that each theorem names. -/
import Derived.Test.YtkhckgknldiheaaDoorG2
import Derived.Test.YtkhckgknldiheaaDoorNU
namespace Go.Proofs.YtkhckgknldiheaaDoor
set_option linter.unusedSimpArgs false
set_option linter.unusedVariables false
open Go.RowKit
open NmP

def keyB (n a : Int) : Bool := decide (1 ≤ n) && decide (n ≤ 1000000) && decide (1 ≤ a) && decide (a ≤ 3)
def winB (f u : Int) : Bool := decide (0 ≤ f) && decide (f ≤ u) && decide (u ≤ 20000000)
set_option maxHeartbeats 1000000 in
theorem key_any (n a : Int) (w : World) : Calls Tryd.prog 55 #[.agg #[.int .i64 n, .int .i64 a]] w fun e w' => e = .returned (.bool (keyB n a)) ∧ Below w.heap.size w w' := by
  have HB := Lib.hid ((Below.refl _ w).alloc (Nat.le_refl _) (.cells #[.int .i64 n, .int .i64 a] 44))
  unfold keyB
  generalize hd1 : decide (1 ≤ n) = d1
  generalize hd2 : decide (n ≤ 1000000) = d2
  generalize hd3 : decide (1 ≤ a) = d3
  generalize hd4 : decide (a ≤ 3) = d4
  cases d1 <;> cases d2 <;> cases d3 <;> cases d4
  all_goals
    go_enter Tryd.func55, Tryd.ntmps55
    go_wp2
    go_ret
    exact ⟨rfl, HB.out⟩
theorem win_any (f u : Int) (w : World) : Calls Tryd.prog 56 #[.int .i64 f, .int .i64 u] w fun e w' => e = .returned (.bool (winB f u)) ∧ w = w' := by
  unfold winB
  generalize hd1 : decide (0 ≤ f) = d1
  generalize hd2 : decide (f ≤ u) = d2
  generalize hd3 : decide (u ≤ 20000000) = d3
  cases d1 <;> cases d2 <;> cases d3
  all_goals
    go_enter Tryd.func56, Tryd.ntmps56
    go_wp2
    go_ret
    exact ⟨rfl, rfl⟩
theorem star_eq (z : ByteArray) (h : 1 ≤ z.size) : ((z.extract 0 1).toList == [42]) = wildB z.toList := by
  unfold wildB
  rw [tl_sub, tl_get z 0 (by omega)]
  have h2 : (z.toList.drop 0).take (1 - 0) = [z[0]'(by omega)] := by
    rw [List.drop_zero]
    have h3 : z.toList[0]? = some (z[0]'(by omega)) := tl_get z 0 (by omega)
    cases hl : z.toList with
    | nil => rw [hl] at h3; simp at h3
    | cons a t => rw [hl] at h3; simp at h3; rw [← h3]; rfl
  rw [h2]
  simp
set_option maxHeartbeats 1000000 in
theorem prefix_any (z : ByteArray) (w : World) (hz : z.size ≤ maxLen) : Calls Tryd.prog 71 #[.string z, .string ⟨#[42]⟩] w fun e w' => e = .returned (.bool (wildB z.toList)) ∧ w = w' := by
  have h42 : (ByteArray.mk #[42]).toList = [42] := by rw [tl]
  have h1s : (ByteArray.mk #[42]).size = 1 := rfl
  by_cases h : 1 ≤ z.size
  · have he := star_eq z h
    generalize wildB z.toList = b at *
    unfold maxLen at hz
    cases b
    all_goals
      go_enter Tryd.func71, Tryd.ntmps71
      go_wp2
      go_ret
      exact ⟨rfl, rfl⟩
  · obtain he : z = ⟨#[]⟩ := by
      apply ByteArray.ext
      apply Array.eq_empty_of_size_eq_zero
      show z.size = 0
      omega
    subst he
    rw [show wildB (ByteArray.toList ⟨#[]⟩) = false by rw [tl]; rfl]
    go_enter Tryd.func71, Tryd.ntmps71
    go_wp2
    go_ret
    exact ⟨rfl, rfl⟩

theorem hasPrefix_any (z : ByteArray) (w : World) (hz : z.size ≤ maxLen) : Calls Tryd.prog 33 #[.string z, .string ⟨#[42]⟩] w fun e w' => e = .returned (.bool (wildB z.toList)) ∧ w = w' := by
  have H := Lib.hid (fun W => prefix_any z W hz)
  generalize wildB z.toList = b at *
  go_enter Tryd.func33, Tryd.ntmps33
  go_wp2_with (go_at_call 71; (with_reducible refine (H.out _).mono ?_); rintro e w1 ⟨rfl, rfl⟩)
  go_ret
  exact ⟨rfl, rfl⟩
/-- A set: Name, Type, Life, Data; and what holds its data. -/
structure St where
  x : ByteArray
  typ : Int
  life : Int
  v : Value
  l : List Dt
def St.ok (s : St) : Bool := setB s.x.toList s.typ s.life s.l
/-- A set that lies in a world, with texts that are not too long. -/
structure St.In (s : St) (w : World) : Prop where
  hx : s.x.size ≤ maxLen
  hs : ∀ d ∈ s.l, d.1.size ≤ maxLen
  hA : SlD s.v s.l w
theorem St.In.keep {s : St} {w w' : World} (h : s.In w) (hb : Below w.heap.size w w') : s.In w' := ⟨h.hx, h.hs, h.hA.keep hb⟩
/-- What a set is signed with. -/
def signB (s : St) (z : ByteArray) (n a f u : Int) : Bool := s.ok && keyB n a && winB f u && !wildB z.toList && inB s.x.toList z.toList
def sigSum (s : St) (z : ByteArray) (n a f u : Int) : Int := (sumN (setC s.x s.typ.toNat s.life.toNat s.l) z [n.toNat, a.toNat, f.toNat, u.toNat] : Nat)
/-- What Sign returns. -/
def signV (s : St) (z : ByteArray) (n a f u : Int) : Value :=
  if signB s z n a f u = true then .tuple #[.agg #[.string z, .int .i64 n, .int .i64 a, .int .i64 f, .int .i64 u, .int .u64 (sigSum s z n a f u)], .int .i64 0] else .tuple #[.agg #[.string ⟨#[]⟩, .int .i64 0, .int .i64 0, .int .i64 0, .int .i64 0, .int .u64 0], .int .i64 1]
theorem six_set {W : World} {q : Nat} {o0 o1 o2 o3 o4 o5 : Value} {t : TypeId} (a b c d e f : Value) (h : W.heap[q]? = some (Obj.cells #[o0, o1, o2, o3, o4, o5] t (0, 0))) :
    ((((((W.setCell ⟨q, 0, none⟩ a).setCell ⟨q, 1, none⟩ b).setCell ⟨q, 2, none⟩ c).setCell ⟨q, 3, none⟩ d).setCell ⟨q, 4, none⟩ e).setCell ⟨q, 5, none⟩ f).heap[q]? = some (Obj.cells #[a, b, c, d, e, f] t (0, 0)) := by
  have h1 := heap_setCell_same W q 0 _ _ a h
  have h2 := heap_setCell_same _ q 1 _ _ b h1
  have h3 := heap_setCell_same _ q 2 _ _ c h2
  have h4 := heap_setCell_same _ q 3 _ _ d h3
  have h5 := heap_setCell_same _ q 4 _ _ e h4
  exact heap_setCell_same _ q 5 _ _ f h5
theorem frozen_of_blk {W : World} {b : Nat} {cs : Array Value} {t : TypeId} (h : W.heap[b]? = some (Obj.cells cs t (0, 0))) (j : Nat) : W.frozen? ⟨b, j, none⟩ = false := by
  simp [World.frozen?, h]
theorem below_six {n : Nat} {w W : World} {q : Nat} (h : Below n w W) (hq : n ≤ q) (a b c d e f : Value) : Below n w ((((((W.setCell ⟨q, 0, none⟩ a).setCell ⟨q, 1, none⟩ b).setCell ⟨q, 2, none⟩ c).setCell ⟨q, 3, none⟩ d).setCell ⟨q, 4, none⟩ e).setCell ⟨q, 5, none⟩ f) :=
  (((((h.setCell (p := ⟨q, 0, none⟩) hq a).setCell (p := ⟨q, 1, none⟩) hq b).setCell (p := ⟨q, 2, none⟩) hq c).setCell (p := ⟨q, 3, none⟩) hq d).setCell (p := ⟨q, 4, none⟩) hq e).setCell (p := ⟨q, 5, none⟩) hq f

set_option maxHeartbeats 2000000 in
set_option maxRecDepth 100000 in
theorem sign_bad (s : St) (z : ByteArray) (kn ka kf ku : Int) (w : World) (hs : s.In w) (hr : RulesAt w) (hz : z.size ≤ maxLen) (hbad : signB s z kn ka kf ku = false) :
    Calls Tryd.prog 22 #[.agg #[.string s.x, .int .i64 s.typ, .int .i64 s.life, s.v], .string z, .agg #[.int .i64 kn, .int .i64 ka], .int .i64 kf, .int .i64 ku] w fun e w' => e = .returned (.tuple #[.agg #[.string ⟨#[]⟩, .int .i64 0, .int .i64 0, .int .i64 0, .int .i64 0, .int .u64 0], .int .i64 1]) ∧ Below w.heap.size w w' := by
  have hb0 : Below w.heap.size w (((w.alloc (.cells #[.string s.x, .int .i64 s.typ, .int .i64 s.life, s.v] 25)).alloc (.cells #[.int .i64 kn, .int .i64 ka] 44)).alloc (.cells #[.string ⟨#[]⟩, .int .i64 0, .int .i64 0, .int .i64 0, .int .i64 0, .int .u64 0] 49)) := (((Below.refl _ w).alloc (Nat.le_refl _) _).alloc (by simp) _).alloc (by simp; omega) _
  have hS0 : (((w.alloc (.cells #[.string s.x, .int .i64 s.typ, .int .i64 s.life, s.v] 25)).alloc (.cells #[.int .i64 kn, .int .i64 ka] 44)).alloc (.cells #[.string ⟨#[]⟩, .int .i64 0, .int .i64 0, .int .i64 0, .int .i64 0, .int .u64 0] 49)).heap[w.heap.size]? = some (Obj.cells #[.string s.x, .int .i64 s.typ, .int .i64 s.life, s.v] 25 (0, 0)) := by
    rw [heap_alloc_old _ _ (by simp; omega), heap_alloc_old _ _ (by simp)]; exact heap_alloc_new w _
  have hK0 : (((w.alloc (.cells #[.string s.x, .int .i64 s.typ, .int .i64 s.life, s.v] 25)).alloc (.cells #[.int .i64 kn, .int .i64 ka] 44)).alloc (.cells #[.string ⟨#[]⟩, .int .i64 0, .int .i64 0, .int .i64 0, .int .i64 0, .int .u64 0] 49)).heap[w.heap.size + 1]? = some (Obj.cells #[.int .i64 kn, .int .i64 ka] 44 (0, 0)) := by
    rw [heap_alloc_old _ _ (by simp)]
    have := heap_alloc_new (w.alloc (.cells #[.string s.x, .int .i64 s.typ, .int .i64 s.life, s.v] 25)) (.cells #[.int .i64 kn, .int .i64 ka] 44)
    simpa using this
  have hR0 : (((w.alloc (.cells #[.string s.x, .int .i64 s.typ, .int .i64 s.life, s.v] 25)).alloc (.cells #[.int .i64 kn, .int .i64 ka] 44)).alloc (.cells #[.string ⟨#[]⟩, .int .i64 0, .int .i64 0, .int .i64 0, .int .i64 0, .int .u64 0] 49)).heap[w.heap.size + 2]? = some (Obj.cells #[.string ⟨#[]⟩, .int .i64 0, .int .i64 0, .int .i64 0, .int .i64 0, .int .u64 0] 49 (0, 0)) := by
    have := heap_alloc_new ((w.alloc (.cells #[.string s.x, .int .i64 s.typ, .int .i64 s.life, s.v] 25)).alloc (.cells #[.int .i64 kn, .int .i64 ka] 44)) (.cells #[.string ⟨#[]⟩, .int .i64 0, .int .i64 0, .int .i64 0, .int .i64 0, .int .u64 0] 49)
    simpa using this
  have CV := Lib.hid (valid_set s.x s.typ s.life s.v s.l _ hs.hx hs.hs (hs.hA.keep hb0) (hr.keep hb0))
  have hz0 : w.heap.size + 2 < (((w.alloc (.cells #[.string s.x, .int .i64 s.typ, .int .i64 s.life, s.v] 25)).alloc (.cells #[.int .i64 kn, .int .i64 ka] 44)).alloc (.cells #[.string ⟨#[]⟩, .int .i64 0, .int .i64 0, .int .i64 0, .int .i64 0, .int .u64 0] 49)).heap.size := by simp
  have CK := Lib.hid (fun W => key_any kn ka W)
  have CW := Lib.hid (fun W => win_any kf ku W)
  have CP := Lib.hid (fun W => hasPrefix_any z W hz)
  have CU := Lib.hid (fun W => Under_all s.x z W hs.hx hz)
  have HV : Hid (setB s.x.toList s.typ s.life s.l = s.ok) := Lib.hid rfl
  rw [HV.out] at CV
  have HB0 := Lib.hid hb0
  have S0 := Lib.hid hS0
  have K0 := Lib.hid hK0
  have R0 := Lib.hid hR0
  clear hb0 hS0 hK0 hR0 HV hz
  unfold signB at hbad
  generalize s.ok = b1 at *
  generalize keyB kn ka = b2 at *
  generalize winB kf ku = b3 at *
  generalize wildB z.toList = b4 at *
  generalize inB s.x.toList z.toList = b5 at *
  generalize inE s.x.toList z.toList = e5 at *
  obtain ⟨p, c, hvv⟩ := hs.hA.form
  have HVV := Lib.hid hvv
  clear hvv hs hr
  cases b1
  · clear hbad
    go_enter Tryd.func22, Tryd.ntmps22
    go_wp2_with (first | (go_at_call 30; (with_reducible refine (CV.out).mono ?_); rintro e w1 ⟨rfl, hb1⟩; have HB1 := Lib.hid (HB0.out.trans (hb1.mono HB0.out.size)); have S1 := Lib.hid ((hb1.block w.heap.size (by omega)).trans S0.out); have K1 := Lib.hid ((hb1.block (w.heap.size + 1) (by omega)).trans K0.out); have R1 := Lib.hid ((hb1.block (w.heap.size + 2) (by omega)).trans R0.out); clear hb1 CV; have k0 := cell_of_blk K1.out 0 (.int .i64 kn) rfl; have k1 := cell_of_blk K1.out 1 (.int .i64 ka) rfl; have r0 := cell_of_blk R1.out 0 (.string ⟨#[]⟩) rfl; have rf0 := frozen_of_blk R1.out 0; have r1 := cell_of_blk R1.out 1 (.int .i64 0) rfl; have rf1 := frozen_of_blk R1.out 1; have r2 := cell_of_blk R1.out 2 (.int .i64 0) rfl; have rf2 := frozen_of_blk R1.out 2; have r3 := cell_of_blk R1.out 3 (.int .i64 0) rfl; have rf3 := frozen_of_blk R1.out 3; have r4 := cell_of_blk R1.out 4 (.int .i64 0) rfl; have rf4 := frozen_of_blk R1.out 4; have r5 := cell_of_blk R1.out 5 (.int .u64 0) rfl; have rf5 := frozen_of_blk R1.out 5))
    have hx := six_set (.string ⟨#[]⟩) (.int .i64 0) (.int .i64 0) (.int .i64 0) (.int .i64 0) (.int .u64 0) R1.out
    have hbx := below_six HB1.out (q := w.heap.size + 2) (by omega) (.string ⟨#[]⟩) (.int .i64 0) (.int .i64 0) (.int .i64 0) (.int .i64 0) (.int .u64 0)
    generalize (((((World.setCell _ _ _).setCell _ _).setCell _ _).setCell _ _).setCell _ _).setCell _ _ = W' at *
    have x0 := cell_of_blk hx 0 (.string ⟨#[]⟩) rfl
    have x1 := cell_of_blk hx 1 (.int .i64 0) rfl
    have x2 := cell_of_blk hx 2 (.int .i64 0) rfl
    have x3 := cell_of_blk hx 3 (.int .i64 0) rfl
    have x4 := cell_of_blk hx 4 (.int .i64 0) rfl
    have x5 := cell_of_blk hx 5 (.int .u64 0) rfl
    refine bodyPost_ret (v := .tuple #[.agg #[.string ⟨#[]⟩, .int .i64 0, .int .i64 0, .int .i64 0, .int .i64 0, .int .u64 0], .int .i64 1]) (by simp [results, Tryd.f22, go_sem, x0, x1, x2, x3, x4, x5]) rfl ⟨rfl, hbx⟩
  cases b2
  · clear hbad
    go_enter Tryd.func22, Tryd.ntmps22
    go_wp2_with (first | (go_at_call 30; (with_reducible refine (CV.out).mono ?_); rintro e w1 ⟨rfl, hb1⟩; have HB1 := Lib.hid (HB0.out.trans (hb1.mono HB0.out.size)); have S1 := Lib.hid ((hb1.block w.heap.size (by omega)).trans S0.out); have K1 := Lib.hid ((hb1.block (w.heap.size + 1) (by omega)).trans K0.out); have R1 := Lib.hid ((hb1.block (w.heap.size + 2) (by omega)).trans R0.out); clear hb1 CV; have k0 := cell_of_blk K1.out 0 (.int .i64 kn) rfl; have k1 := cell_of_blk K1.out 1 (.int .i64 ka) rfl; have r0 := cell_of_blk R1.out 0 (.string ⟨#[]⟩) rfl; have rf0 := frozen_of_blk R1.out 0; have r1 := cell_of_blk R1.out 1 (.int .i64 0) rfl; have rf1 := frozen_of_blk R1.out 1; have r2 := cell_of_blk R1.out 2 (.int .i64 0) rfl; have rf2 := frozen_of_blk R1.out 2; have r3 := cell_of_blk R1.out 3 (.int .i64 0) rfl; have rf3 := frozen_of_blk R1.out 3; have r4 := cell_of_blk R1.out 4 (.int .i64 0) rfl; have rf4 := frozen_of_blk R1.out 4; have r5 := cell_of_blk R1.out 5 (.int .u64 0) rfl; have rf5 := frozen_of_blk R1.out 5) | (go_at_call 55; (with_reducible refine (CK.out _).mono ?_); rintro e w2 ⟨rfl, hb2⟩; have HB2 := Lib.hid (HB1.out.trans (hb2.mono HB1.out.size)); have hz1 := (Array.getElem?_eq_some_iff.1 R1.out).1; have S2 := Lib.hid ((hb2.block w.heap.size (by omega)).trans S1.out); have K2 := Lib.hid ((hb2.block (w.heap.size + 1) (by omega)).trans K1.out); have R2 := Lib.hid ((hb2.block (w.heap.size + 2) (by omega)).trans R1.out); clear hb2 CK hz1; clear k0 k1 r0 r1 r2 r3 r4 r5 rf0 rf1 rf2 rf3 rf4 rf5; have k0 := cell_of_blk K2.out 0 (.int .i64 kn) rfl; have k1 := cell_of_blk K2.out 1 (.int .i64 ka) rfl; have s0 := cell_of_blk S2.out 0 (.string s.x) rfl; have r0 := cell_of_blk R2.out 0 (.string ⟨#[]⟩) rfl; have rf0 := frozen_of_blk R2.out 0; have r1 := cell_of_blk R2.out 1 (.int .i64 0) rfl; have rf1 := frozen_of_blk R2.out 1; have r2 := cell_of_blk R2.out 2 (.int .i64 0) rfl; have rf2 := frozen_of_blk R2.out 2; have r3 := cell_of_blk R2.out 3 (.int .i64 0) rfl; have rf3 := frozen_of_blk R2.out 3; have r4 := cell_of_blk R2.out 4 (.int .i64 0) rfl; have rf4 := frozen_of_blk R2.out 4; have r5 := cell_of_blk R2.out 5 (.int .u64 0) rfl; have rf5 := frozen_of_blk R2.out 5))
    have hx := six_set (.string ⟨#[]⟩) (.int .i64 0) (.int .i64 0) (.int .i64 0) (.int .i64 0) (.int .u64 0) R2.out
    have hbx := below_six HB2.out (q := w.heap.size + 2) (by omega) (.string ⟨#[]⟩) (.int .i64 0) (.int .i64 0) (.int .i64 0) (.int .i64 0) (.int .u64 0)
    generalize (((((World.setCell _ _ _).setCell _ _).setCell _ _).setCell _ _).setCell _ _).setCell _ _ = W' at *
    have x0 := cell_of_blk hx 0 (.string ⟨#[]⟩) rfl
    have x1 := cell_of_blk hx 1 (.int .i64 0) rfl
    have x2 := cell_of_blk hx 2 (.int .i64 0) rfl
    have x3 := cell_of_blk hx 3 (.int .i64 0) rfl
    have x4 := cell_of_blk hx 4 (.int .i64 0) rfl
    have x5 := cell_of_blk hx 5 (.int .u64 0) rfl
    refine bodyPost_ret (v := .tuple #[.agg #[.string ⟨#[]⟩, .int .i64 0, .int .i64 0, .int .i64 0, .int .i64 0, .int .u64 0], .int .i64 1]) (by simp [results, Tryd.f22, go_sem, x0, x1, x2, x3, x4, x5]) rfl ⟨rfl, hbx⟩
  have hc : b3 = false ∨ (b3 = true ∧ b4 = true) ∨ (b3 = true ∧ b4 = false ∧ b5 = false) := by
    cases b3 <;> cases b4 <;> cases b5 <;> simp_all
  clear hbad
  rcases hc with rfl | ⟨rfl, rfl⟩ | ⟨rfl, rfl, rfl⟩
  all_goals
    go_enter Tryd.func22, Tryd.ntmps22
    go_wp2_with (first | (go_at_call 30; (with_reducible refine (CV.out).mono ?_); rintro e w1 ⟨rfl, hb1⟩; have HB1 := Lib.hid (HB0.out.trans (hb1.mono HB0.out.size)); have S1 := Lib.hid ((hb1.block w.heap.size (by omega)).trans S0.out); have K1 := Lib.hid ((hb1.block (w.heap.size + 1) (by omega)).trans K0.out); have R1 := Lib.hid ((hb1.block (w.heap.size + 2) (by omega)).trans R0.out); clear hb1 CV; have k0 := cell_of_blk K1.out 0 (.int .i64 kn) rfl; have k1 := cell_of_blk K1.out 1 (.int .i64 ka) rfl; have r0 := cell_of_blk R1.out 0 (.string ⟨#[]⟩) rfl; have rf0 := frozen_of_blk R1.out 0; have r1 := cell_of_blk R1.out 1 (.int .i64 0) rfl; have rf1 := frozen_of_blk R1.out 1; have r2 := cell_of_blk R1.out 2 (.int .i64 0) rfl; have rf2 := frozen_of_blk R1.out 2; have r3 := cell_of_blk R1.out 3 (.int .i64 0) rfl; have rf3 := frozen_of_blk R1.out 3; have r4 := cell_of_blk R1.out 4 (.int .i64 0) rfl; have rf4 := frozen_of_blk R1.out 4; have r5 := cell_of_blk R1.out 5 (.int .u64 0) rfl; have rf5 := frozen_of_blk R1.out 5) | (go_at_call 55; (with_reducible refine (CK.out _).mono ?_); rintro e w2 ⟨rfl, hb2⟩; have HB2 := Lib.hid (HB1.out.trans (hb2.mono HB1.out.size)); have hz1 := (Array.getElem?_eq_some_iff.1 R1.out).1; have S2 := Lib.hid ((hb2.block w.heap.size (by omega)).trans S1.out); have K2 := Lib.hid ((hb2.block (w.heap.size + 1) (by omega)).trans K1.out); have R2 := Lib.hid ((hb2.block (w.heap.size + 2) (by omega)).trans R1.out); clear hb2 CK hz1; clear k0 k1 r0 r1 r2 r3 r4 r5 rf0 rf1 rf2 rf3 rf4 rf5; have k0 := cell_of_blk K2.out 0 (.int .i64 kn) rfl; have k1 := cell_of_blk K2.out 1 (.int .i64 ka) rfl; have s0 := cell_of_blk S2.out 0 (.string s.x) rfl; have r0 := cell_of_blk R2.out 0 (.string ⟨#[]⟩) rfl; have rf0 := frozen_of_blk R2.out 0; have r1 := cell_of_blk R2.out 1 (.int .i64 0) rfl; have rf1 := frozen_of_blk R2.out 1; have r2 := cell_of_blk R2.out 2 (.int .i64 0) rfl; have rf2 := frozen_of_blk R2.out 2; have r3 := cell_of_blk R2.out 3 (.int .i64 0) rfl; have rf3 := frozen_of_blk R2.out 3; have r4 := cell_of_blk R2.out 4 (.int .i64 0) rfl; have rf4 := frozen_of_blk R2.out 4; have r5 := cell_of_blk R2.out 5 (.int .u64 0) rfl; have rf5 := frozen_of_blk R2.out 5) | (go_at_call 56; (with_reducible refine (CW.out _).mono ?_); rintro e w9 ⟨rfl, rfl⟩) | (go_at_call 33; (with_reducible refine (CP.out _).mono ?_); rintro e w9 ⟨rfl, rfl⟩) | (go_at_call 57; (with_reducible refine (CU.out _).mono ?_); rintro e w9 ⟨rfl, rfl⟩))
    have hx := six_set (.string ⟨#[]⟩) (.int .i64 0) (.int .i64 0) (.int .i64 0) (.int .i64 0) (.int .u64 0) R2.out
    have hbx := below_six HB2.out (q := w.heap.size + 2) (by omega) (.string ⟨#[]⟩) (.int .i64 0) (.int .i64 0) (.int .i64 0) (.int .i64 0) (.int .u64 0)
    generalize (((((World.setCell _ _ _).setCell _ _).setCell _ _).setCell _ _).setCell _ _).setCell _ _ = W' at *
    have x0 := cell_of_blk hx 0 (.string ⟨#[]⟩) rfl
    have x1 := cell_of_blk hx 1 (.int .i64 0) rfl
    have x2 := cell_of_blk hx 2 (.int .i64 0) rfl
    have x3 := cell_of_blk hx 3 (.int .i64 0) rfl
    have x4 := cell_of_blk hx 4 (.int .i64 0) rfl
    have x5 := cell_of_blk hx 5 (.int .u64 0) rfl
    refine bodyPost_ret (v := .tuple #[.agg #[.string ⟨#[]⟩, .int .i64 0, .int .i64 0, .int .i64 0, .int .i64 0, .int .u64 0], .int .i64 1]) (by simp [results, Tryd.f22, go_sem, x0, x1, x2, x3, x4, x5]) rfl ⟨rfl, hbx⟩
end Go.Proofs.YtkhckgknldiheaaDoor
