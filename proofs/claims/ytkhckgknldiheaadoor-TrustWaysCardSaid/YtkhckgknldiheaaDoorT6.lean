/- The contract of Matches of package trust; no condition beyond those that each theorem names. -/
import Derived.Test.YtkhckgknldiheaaDoorT5
namespace Go.Proofs.YtkhckgknldiheaaDoor
set_option linter.unusedSimpArgs false
set_option linter.unusedVariables false
open Go.RowKit
open NmP SpP

/-- The keys that are among the anchors. -/
def commonL (ks as_ : List Sp) : List Sp := ks.filter (fun k => !(!as_.contains k))
/-- Anchors fit to the keys of a zone, signed by one of them. -/
def matchB (a : St) (s : Sd) (t d : Int) : Bool := a.ok && s.st.ok && decide (a.typ = 6) && decide (s.t = 7) && decide (a.x = s.x) && signedB s.st s.g a.x (commonL (keysL s.l) (keysL a.l)) t d
/-- The boxes of the anchors and of the keys. -/
structure MBx (w W : World) (ax : ByteArray) (at_ al : Int) (av : Value) (x : ByteArray) (ty lf : Int) (v sv : Value) : Prop where
  bel : Below w.heap.size w W
  ax : W.heap[w.heap.size]? = some (Obj.cells #[.string ax, .int .i64 at_, .int .i64 al, av] 25 (0, 0))
  sx : W.heap[w.heap.size + 1]? = some (Obj.cells #[.string x, .int .i64 ty, .int .i64 lf, v, sv] 37 (0, 0))
theorem MBx.keep {w W W' : World} {ax : ByteArray} {at_ al : Int} {av : Value} {x : ByteArray} {ty lf : Int} {v sv : Value} (h : MBx w W ax at_ al av x ty lf v sv) {b : Nat} (hb : Below b W W') (h2 : w.heap.size + 2 ≤ b) : MBx w W' ax at_ al av x ty lf v sv :=
  ⟨h.bel.trans (hb.mono (by omega)), (hb.block _ (by omega)).trans h.ax, (hb.block _ (by omega)).trans h.sx⟩
theorem MBx.lt {w W : World} {ax : ByteArray} {at_ al : Int} {av : Value} {x : ByteArray} {ty lf : Int} {v sv : Value} (h : MBx w W ax at_ al av x ty lf v sv) : w.heap.size + 2 ≤ W.heap.size := (Array.getElem?_eq_some_iff.1 h.sx).1
theorem mbx (w : World) (ax : ByteArray) (at_ al : Int) (av : Value) (x : ByteArray) (ty lf : Int) (v sv : Value) : MBx w ((w.alloc (.cells #[.string ax, .int .i64 at_, .int .i64 al, av] 25)).alloc (.cells #[.string x, .int .i64 ty, .int .i64 lf, v, sv] 37)) ax at_ al av x ty lf v sv := by
  refine ⟨((Below.refl _ w).alloc (Nat.le_refl _) _).alloc (by simp) _, (heap_alloc_old _ _ (by simp)).trans (heap_alloc_new w _), ?_⟩
  have := heap_alloc_new (w.alloc (.cells #[.string ax, .int .i64 at_, .int .i64 al, av] 25)) (.cells #[.string x, .int .i64 ty, .int .i64 lf, v, sv] 37)
  simpa using this
theorem SlS.keepG {v : Value} {l : List Sp} {W W' : World} (h : SlS v l W) {b : Nat} (hb : Below b W W') (hv : W.heap.size ≤ b) : SlS v l W' := h.keep (hb.mono hv)

set_option maxHeartbeats 8000000 in
set_option maxRecDepth 100000 in
theorem match_any (a : St) (s : Sd) (t d0 : Int) (w : World) (ha : a.In w) (hs : s.In w) (hr : RulesAt w) :
    Calls Tryd.prog 16 #[.agg #[.string a.x, .int .i64 a.typ, .int .i64 a.life, a.v], .agg #[.string s.x, .int .i64 s.t, .int .i64 s.f, .slice s.p s.n s.c, .slice s.q s.m s.d], .int .i64 t, .int .i64 d0] w fun e w' => e = .returned (.bool (matchB a s t d0)) ∧ Below w.heap.size w w' := by
  obtain ⟨pa, ca, hav⟩ := ha.hA.form
  have B0 := mbx w a.x a.typ a.life a.v s.x s.t s.f (.slice s.p s.n s.c) (.slice s.q s.m s.d)
  have CVA := Lib.hid (fun W (hb : Below w.heap.size w W) => valid_st a W (ha.keep hb) (hr.keep hb))
  have CVS := Lib.hid (fun W (hb : Below w.heap.size w W) => valid_st s.st W (hs.keep hb).hs (hr.keep hb))
  have CKA := Lib.hid (fun W (hb : Below w.heap.size w W) (h8 : a.l.length ≤ 8) => keysOf_any a W (ha.keep hb) (by omega))
  have CKS := Lib.hid (fun W (hb : Below w.heap.size w W) (h8 : s.l.length ≤ 8) => keysOf_any s.st W (hs.keep hb).hs (by show s.l.length ≤ 1000; omega))
  have CSG := Lib.hid (fun W kv keys (hb : Below w.heap.size w W) (hk : SlS kv keys W) (hkl : keys.length ≤ maxLen) => signed_any s.st s.sv s.g a.x kv keys t d0 W (hs.keep hb).hs (hr.keep hb) hk (hs.keep hb).hg hs.hz hkl hs.hl)
  have HA8 := Lib.hid (fun h => ok_len (s := a) h)
  have HS8 := Lib.hid (fun h => ok_len (s := s.st) h)
  have HSL := Lib.hid hs.len
  unfold matchB
  obtain ⟨ax, at_, al, av, ad⟩ := a
  obtain ⟨x, ty, lf, p, n, c, q, m, d, l, sg⟩ := s
  simp only [Sd.st, Sd.sv] at hav B0 CVA CVS CKA CKS CSG HA8 HS8 HSL ⊢
  subst hav
  obtain ⟨na, hna⟩ : ∃ n, ad.length = n := ⟨_, rfl⟩
  rw [hna] at B0 CVA CKA HA8 ⊢
  have HNA := Lib.hid hna
  generalize hok1 : St.ok ⟨ax, at_, al, .slice pa na ca, ad⟩ = ok1 at *
  generalize hok2 : St.ok ⟨x, ty, lf, .slice p n c, l⟩ = ok2 at *
  have HB0 := Lib.hid B0
  clear hok1 hok2 ha hs hr B0 hna
  unfold KeysTo at CKA CKS

  cases ok1
  · simp only [Bool.false_and]
    go_enter Tryd.func16, Tryd.ntmps16
    go_wp2_with (go_at_call 30; (with_reducible refine (CVA.out _ HB0.out.bel).mono ?_); rintro e w1 ⟨rfl, hb⟩; have HB1 := Lib.hid (HB0.out.keep hb HB0.out.lt); clear hb; have a0 := cell_of_blk HB1.out.ax 0 (.string ax) rfl; have a1 := cell_of_blk HB1.out.ax 1 (.int .i64 at_) rfl; have a2 := cell_of_blk HB1.out.ax 2 (.int .i64 al) rfl; have a3 := cell_of_blk HB1.out.ax 3 (.slice pa na ca) rfl; have s0 := cell_of_blk HB1.out.sx 0 (.string x) rfl; have s1 := cell_of_blk HB1.out.sx 1 (.int .i64 ty) rfl; have s2 := cell_of_blk HB1.out.sx 2 (.int .i64 lf) rfl; have s3 := cell_of_blk HB1.out.sx 3 (.slice p n c) rfl; have s4 := cell_of_blk HB1.out.sx 4 (.slice q m d) rfl)
    go_ret
    exact ⟨rfl, HB1.out.bel⟩
  simp only [Bool.true_and]
  cases ok2
  · simp only [Bool.false_and]
    go_enter Tryd.func16, Tryd.ntmps16
    go_wp2_with (first | (go_at_call 30; (with_reducible refine (CVA.out _ HB0.out.bel).mono ?_); rintro e w1 ⟨rfl, hb⟩; have HB1 := Lib.hid (HB0.out.keep hb HB0.out.lt); clear hb; have a0 := cell_of_blk HB1.out.ax 0 (.string ax) rfl; have a1 := cell_of_blk HB1.out.ax 1 (.int .i64 at_) rfl; have a2 := cell_of_blk HB1.out.ax 2 (.int .i64 al) rfl; have a3 := cell_of_blk HB1.out.ax 3 (.slice pa na ca) rfl; have s0 := cell_of_blk HB1.out.sx 0 (.string x) rfl; have s1 := cell_of_blk HB1.out.sx 1 (.int .i64 ty) rfl; have s2 := cell_of_blk HB1.out.sx 2 (.int .i64 lf) rfl; have s3 := cell_of_blk HB1.out.sx 3 (.slice p n c) rfl; have s4 := cell_of_blk HB1.out.sx 4 (.slice q m d) rfl) | (go_at_call 30; (with_reducible refine (CVS.out _ HB1.out.bel).mono ?_); rintro e w2 ⟨rfl, hb⟩; have HB2 := Lib.hid (HB1.out.keep hb HB1.out.lt); clear hb; clear a0 a1 a2 a3 s0 s1 s2 s3 s4; have a0 := cell_of_blk HB2.out.ax 0 (.string ax) rfl; have a1 := cell_of_blk HB2.out.ax 1 (.int .i64 at_) rfl; have a2 := cell_of_blk HB2.out.ax 2 (.int .i64 al) rfl; have a3 := cell_of_blk HB2.out.ax 3 (.slice pa na ca) rfl; have s0 := cell_of_blk HB2.out.sx 0 (.string x) rfl; have s1 := cell_of_blk HB2.out.sx 1 (.int .i64 ty) rfl; have s2 := cell_of_blk HB2.out.sx 2 (.int .i64 lf) rfl; have s3 := cell_of_blk HB2.out.sx 3 (.slice p n c) rfl; have s4 := cell_of_blk HB2.out.sx 4 (.slice q m d) rfl))
    go_ret
    exact ⟨rfl, HB2.out.bel⟩
  simp only [Bool.true_and]
  by_cases e0 : at_ = 6
  case neg =>
    rw [decide_eq_false e0]
    simp only [Bool.false_and]
    have f0 : (at_ == 6) = false := by simpa using e0
    have g0 : (at_ != 6) = true := by simpa using e0
    go_enter Tryd.func16, Tryd.ntmps16
    go_wp2_with (first | (go_at_call 30; (with_reducible refine (CVA.out _ HB0.out.bel).mono ?_); rintro e w1 ⟨rfl, hb⟩; have HB1 := Lib.hid (HB0.out.keep hb HB0.out.lt); clear hb; have a0 := cell_of_blk HB1.out.ax 0 (.string ax) rfl; have a1 := cell_of_blk HB1.out.ax 1 (.int .i64 at_) rfl; have a2 := cell_of_blk HB1.out.ax 2 (.int .i64 al) rfl; have a3 := cell_of_blk HB1.out.ax 3 (.slice pa na ca) rfl; have s0 := cell_of_blk HB1.out.sx 0 (.string x) rfl; have s1 := cell_of_blk HB1.out.sx 1 (.int .i64 ty) rfl; have s2 := cell_of_blk HB1.out.sx 2 (.int .i64 lf) rfl; have s3 := cell_of_blk HB1.out.sx 3 (.slice p n c) rfl; have s4 := cell_of_blk HB1.out.sx 4 (.slice q m d) rfl) | (go_at_call 30; (with_reducible refine (CVS.out _ HB1.out.bel).mono ?_); rintro e w2 ⟨rfl, hb⟩; have HB2 := Lib.hid (HB1.out.keep hb HB1.out.lt); clear hb; clear a0 a1 a2 a3 s0 s1 s2 s3 s4; have a0 := cell_of_blk HB2.out.ax 0 (.string ax) rfl; have a1 := cell_of_blk HB2.out.ax 1 (.int .i64 at_) rfl; have a2 := cell_of_blk HB2.out.ax 2 (.int .i64 al) rfl; have a3 := cell_of_blk HB2.out.ax 3 (.slice pa na ca) rfl; have s0 := cell_of_blk HB2.out.sx 0 (.string x) rfl; have s1 := cell_of_blk HB2.out.sx 1 (.int .i64 ty) rfl; have s2 := cell_of_blk HB2.out.sx 2 (.int .i64 lf) rfl; have s3 := cell_of_blk HB2.out.sx 3 (.slice p n c) rfl; have s4 := cell_of_blk HB2.out.sx 4 (.slice q m d) rfl))
    go_ret
    exact ⟨rfl, HB2.out.bel⟩
  rw [decide_eq_true e0, Bool.true_and]
  have f0 : (at_ == 6) = true := by simpa using e0
  have g0 : (at_ != 6) = false := by simpa using e0
  clear e0
  by_cases e1 : ty = 7
  case neg =>
    rw [decide_eq_false e1]
    simp only [Bool.false_and]
    have f1 : (ty == 7) = false := by simpa using e1
    have g1 : (ty != 7) = true := by simpa using e1
    go_enter Tryd.func16, Tryd.ntmps16
    go_wp2_with (first | (go_at_call 30; (with_reducible refine (CVA.out _ HB0.out.bel).mono ?_); rintro e w1 ⟨rfl, hb⟩; have HB1 := Lib.hid (HB0.out.keep hb HB0.out.lt); clear hb; have a0 := cell_of_blk HB1.out.ax 0 (.string ax) rfl; have a1 := cell_of_blk HB1.out.ax 1 (.int .i64 at_) rfl; have a2 := cell_of_blk HB1.out.ax 2 (.int .i64 al) rfl; have a3 := cell_of_blk HB1.out.ax 3 (.slice pa na ca) rfl; have s0 := cell_of_blk HB1.out.sx 0 (.string x) rfl; have s1 := cell_of_blk HB1.out.sx 1 (.int .i64 ty) rfl; have s2 := cell_of_blk HB1.out.sx 2 (.int .i64 lf) rfl; have s3 := cell_of_blk HB1.out.sx 3 (.slice p n c) rfl; have s4 := cell_of_blk HB1.out.sx 4 (.slice q m d) rfl) | (go_at_call 30; (with_reducible refine (CVS.out _ HB1.out.bel).mono ?_); rintro e w2 ⟨rfl, hb⟩; have HB2 := Lib.hid (HB1.out.keep hb HB1.out.lt); clear hb; clear a0 a1 a2 a3 s0 s1 s2 s3 s4; have a0 := cell_of_blk HB2.out.ax 0 (.string ax) rfl; have a1 := cell_of_blk HB2.out.ax 1 (.int .i64 at_) rfl; have a2 := cell_of_blk HB2.out.ax 2 (.int .i64 al) rfl; have a3 := cell_of_blk HB2.out.ax 3 (.slice pa na ca) rfl; have s0 := cell_of_blk HB2.out.sx 0 (.string x) rfl; have s1 := cell_of_blk HB2.out.sx 1 (.int .i64 ty) rfl; have s2 := cell_of_blk HB2.out.sx 2 (.int .i64 lf) rfl; have s3 := cell_of_blk HB2.out.sx 3 (.slice p n c) rfl; have s4 := cell_of_blk HB2.out.sx 4 (.slice q m d) rfl))
    go_ret
    exact ⟨rfl, HB2.out.bel⟩
  rw [decide_eq_true e1, Bool.true_and]
  have f1 : (ty == 7) = true := by simpa using e1
  have g1 : (ty != 7) = false := by simpa using e1
  clear e1
  by_cases e2 : ax = x
  case neg =>
    rw [decide_eq_false e2, Bool.false_and]
    have f2 : (!ax.toList == x.toList) = true := by
      rw [Bool.not_eq_true', beq_eq_false_iff_ne]
      intro h
      apply e2
      apply ByteArray.ext
      apply Array.toList_inj.1
      rw [← tl, ← tl]; exact h
    go_enter Tryd.func16, Tryd.ntmps16
    go_wp2_with (first | (go_at_call 30; (with_reducible refine (CVA.out _ HB0.out.bel).mono ?_); rintro e w1 ⟨rfl, hb⟩; have HB1 := Lib.hid (HB0.out.keep hb HB0.out.lt); clear hb; have a0 := cell_of_blk HB1.out.ax 0 (.string ax) rfl; have a1 := cell_of_blk HB1.out.ax 1 (.int .i64 at_) rfl; have a2 := cell_of_blk HB1.out.ax 2 (.int .i64 al) rfl; have a3 := cell_of_blk HB1.out.ax 3 (.slice pa na ca) rfl; have s0 := cell_of_blk HB1.out.sx 0 (.string x) rfl; have s1 := cell_of_blk HB1.out.sx 1 (.int .i64 ty) rfl; have s2 := cell_of_blk HB1.out.sx 2 (.int .i64 lf) rfl; have s3 := cell_of_blk HB1.out.sx 3 (.slice p n c) rfl; have s4 := cell_of_blk HB1.out.sx 4 (.slice q m d) rfl) | (go_at_call 30; (with_reducible refine (CVS.out _ HB1.out.bel).mono ?_); rintro e w2 ⟨rfl, hb⟩; have HB2 := Lib.hid (HB1.out.keep hb HB1.out.lt); clear hb; clear a0 a1 a2 a3 s0 s1 s2 s3 s4; have a0 := cell_of_blk HB2.out.ax 0 (.string ax) rfl; have a1 := cell_of_blk HB2.out.ax 1 (.int .i64 at_) rfl; have a2 := cell_of_blk HB2.out.ax 2 (.int .i64 al) rfl; have a3 := cell_of_blk HB2.out.ax 3 (.slice pa na ca) rfl; have s0 := cell_of_blk HB2.out.sx 0 (.string x) rfl; have s1 := cell_of_blk HB2.out.sx 1 (.int .i64 ty) rfl; have s2 := cell_of_blk HB2.out.sx 2 (.int .i64 lf) rfl; have s3 := cell_of_blk HB2.out.sx 3 (.slice p n c) rfl; have s4 := cell_of_blk HB2.out.sx 4 (.slice q m d) rfl))
    go_ret
    exact ⟨rfl, HB2.out.bel⟩
  rw [decide_eq_true e2, Bool.true_and]
  have h8a := (HA8.out rfl).2
  have h8 := HS8.out rfl
  have hkl : (keysL l).length = l.length := by unfold keysL; rw [List.length_map]
  have HKL := Lib.hid hkl
  clear hkl
  have hcl : (commonL (keysL l) (keysL ad)).length ≤ (keysL l).length := List.length_filter_le _ _
  obtain ⟨CL, hCL⟩ : ∃ L, commonL (keysL l) (keysL ad) = L := ⟨_, rfl⟩
  rw [hCL] at hcl ⊢
  have HCL := Lib.hid hCL
  rw [HKL.out] at hcl
  have CD := Lib.hid (fun g cap B w5 (hG : OwnKG w5 g (keysL l)) hl1 (hcap : (keysL l).length ≤ cap) hn hc => (by have q := deleteK_any g cap B (keysL l) (fun k => !(keysL ad).contains k) w5 hG hl1 hcap hn hc; rw [show (keysL l).filter (fun k => !(!(keysL ad).contains k)) = CL from hCL] at q; exact q : Calls Tryd.prog 41 #[.slice (some ⟨g, 0, none⟩) (keysL l).length cap, .func (.func 42) #[] #[.pointer (some ⟨B, 0, none⟩)]] w5 (DelTo g CL w5)))
  clear hCL
  have f2 : (!ax.toList == x.toList) = false := by rw [e2]; simp
  clear e2
  go_enter Tryd.func16, Tryd.ntmps16
  go_upto_region 4 with (first | (go_at_call 30; (with_reducible refine (CVA.out _ HB0.out.bel).mono ?_); rintro e w1 ⟨rfl, hb⟩; have HB1 := Lib.hid (HB0.out.keep hb HB0.out.lt); clear hb; have a0 := cell_of_blk HB1.out.ax 0 (.string ax) rfl; have a1 := cell_of_blk HB1.out.ax 1 (.int .i64 at_) rfl; have a2 := cell_of_blk HB1.out.ax 2 (.int .i64 al) rfl; have a3 := cell_of_blk HB1.out.ax 3 (.slice pa na ca) rfl; have s0 := cell_of_blk HB1.out.sx 0 (.string x) rfl; have s1 := cell_of_blk HB1.out.sx 1 (.int .i64 ty) rfl; have s2 := cell_of_blk HB1.out.sx 2 (.int .i64 lf) rfl; have s3 := cell_of_blk HB1.out.sx 3 (.slice p n c) rfl; have s4 := cell_of_blk HB1.out.sx 4 (.slice q m d) rfl) | (go_at_call 30; (with_reducible refine (CVS.out _ HB1.out.bel).mono ?_); rintro e w2 ⟨rfl, hb⟩; have HB2 := Lib.hid (HB1.out.keep hb HB1.out.lt); clear hb; clear a0 a1 a2 a3 s0 s1 s2 s3 s4; have a0 := cell_of_blk HB2.out.ax 0 (.string ax) rfl; have a1 := cell_of_blk HB2.out.ax 1 (.int .i64 at_) rfl; have a2 := cell_of_blk HB2.out.ax 2 (.int .i64 al) rfl; have a3 := cell_of_blk HB2.out.ax 3 (.slice pa na ca) rfl; have s0 := cell_of_blk HB2.out.sx 0 (.string x) rfl; have s1 := cell_of_blk HB2.out.sx 1 (.int .i64 ty) rfl; have s2 := cell_of_blk HB2.out.sx 2 (.int .i64 lf) rfl; have s3 := cell_of_blk HB2.out.sx 3 (.slice p n c) rfl; have s4 := cell_of_blk HB2.out.sx 4 (.slice q m d) rfl) | (go_at_call 40; (with_reducible refine (CKA.out _ HB2.out.bel h8a).mono ?_); rintro e w3 ⟨v3, rfl, ho, hb⟩; have HB3 := Lib.hid (HB2.out.keep hb HB2.out.lt); have SK3 := Lib.hid ho.sl; obtain ⟨p3, c3, rfl⟩ := ho.sl.form; clear hb ho; clear a0 a1 a2 a3 s0 s1 s2 s3 s4; have a0 := cell_of_blk HB3.out.ax 0 (.string ax) rfl; have a1 := cell_of_blk HB3.out.ax 1 (.int .i64 at_) rfl; have a2 := cell_of_blk HB3.out.ax 2 (.int .i64 al) rfl; have a3 := cell_of_blk HB3.out.ax 3 (.slice pa na ca) rfl; have s0 := cell_of_blk HB3.out.sx 0 (.string x) rfl; have s1 := cell_of_blk HB3.out.sx 1 (.int .i64 ty) rfl; have s2 := cell_of_blk HB3.out.sx 2 (.int .i64 lf) rfl; have s3 := cell_of_blk HB3.out.sx 3 (.slice p n c) rfl; have s4 := cell_of_blk HB3.out.sx 4 (.slice q m d) rfl))
  clear a0 a1 a2 a3 s0 s1 s2 s3 s4
  have hb4 : Below w3.heap.size w3 (w3.alloc (.cells #[.slice p3 (keysL ad).length c3] 26)) := (Below.refl _ w3).alloc (Nat.le_refl _) _
  have HB4 := Lib.hid (HB3.out.keep hb4 HB3.out.lt)
  have SK4 := Lib.hid (SK3.out.keep hb4)
  have X4 : Hid ((w3.alloc (.cells #[.slice p3 (keysL ad).length c3] 26)).heap[w3.heap.size]? = some (Obj.cells #[.slice p3 (keysL ad).length c3] 26 (0, 0))) := Lib.hid (heap_alloc_new w3 _)
  have hz4 : w3.heap.size < (w3.alloc (.cells #[.slice p3 (keysL ad).length c3] 26)).heap.size := by simp
  have hz3 : w.heap.size ≤ w3.heap.size := HB3.out.bel.size
  have hka : (keysL ad).length = na := by rw [← HNA.out]; unfold keysL; rw [List.length_map]
  have HKA := Lib.hid hka
  rw [hka] at SK4 X4 HB4 hz4 ⊢
  clear hb4 HB3 SK3 hka
  generalize w3.alloc _ = W4 at *
  generalize w3.heap.size = B at *
  have a0 := cell_of_blk HB4.out.ax 0 (.string ax) rfl; have a1 := cell_of_blk HB4.out.ax 1 (.int .i64 at_) rfl; have a2 := cell_of_blk HB4.out.ax 2 (.int .i64 al) rfl; have a3 := cell_of_blk HB4.out.ax 3 (.slice pa na ca) rfl
  have s0 := cell_of_blk HB4.out.sx 0 (.string x) rfl; have s1 := cell_of_blk HB4.out.sx 1 (.int .i64 ty) rfl; have s2 := cell_of_blk HB4.out.sx 2 (.int .i64 lf) rfl; have s3 := cell_of_blk HB4.out.sx 3 (.slice p n c) rfl; have s4 := cell_of_blk HB4.out.sx 4 (.slice q m d) rfl
  go_wp2_with (first | (go_at_call 40; (with_reducible refine (CKS.out _ HB4.out.bel h8.2).mono ?_); rintro e w5 ⟨v5, rfl, ho, hb⟩; obtain ⟨g, cap, cur, rfl, hg1, hg2, hg3, hg4⟩ := own_keys ho (by rw [HKL.out]; omega); have OG5 : Hid (OwnKG w5 g (keysL l)) := Lib.hid ⟨cur, hg3, hg4⟩; have HB5 := Lib.hid (HB4.out.keep hb HB4.out.lt); have SK5 := Lib.hid (SK4.out.keep hb); have hb5 := Lib.hid hb; have X5 := Lib.hid ((hb.block B hz4).trans X4.out); clear hb ho hg3 hg4; clear a0 a1 a2 a3 s0 s1 s2 s3 s4; have a0 := cell_of_blk HB5.out.ax 0 (.string ax) rfl; have a1 := cell_of_blk HB5.out.ax 1 (.int .i64 at_) rfl; have a2 := cell_of_blk HB5.out.ax 2 (.int .i64 al) rfl; have a3 := cell_of_blk HB5.out.ax 3 (.slice pa na ca) rfl; have s0 := cell_of_blk HB5.out.sx 0 (.string x) rfl; have s1 := cell_of_blk HB5.out.sx 1 (.int .i64 ty) rfl; have s2 := cell_of_blk HB5.out.sx 2 (.int .i64 lf) rfl; have s3 := cell_of_blk HB5.out.sx 3 (.slice p n c) rfl; have s4 := cell_of_blk HB5.out.sx 4 (.slice q m d) rfl) | (go_at_call 41; (with_reducible refine (CD.out g cap B w5 OG5.out (by rw [HKL.out]; omega) hg2 (by rw [HKL.out]; omega) (fun k W hb => away_any B (.slice p3 na c3) (keysL ad) k W (cell_of_blk ((hb.block B (by omega)).trans X5.out) 0 _ rfl) (SK4.out.keep (hb5.out.trans (hb.mono hg1))) (by rw [HKA.out]; unfold maxLen; omega))).mono ?_); rintro e w6 ⟨c6, rfl, hs6, hb⟩; have HB6 := Lib.hid (HB5.out.keep hb (by have := HB4.out.lt; omega)); have SC6 : Hid (SlS _ CL w6) := Lib.hid hs6; clear hb hs6; clear a0 a1 a2 a3 s0 s1 s2 s3 s4; have a0 := cell_of_blk HB6.out.ax 0 (.string ax) rfl; have a1 := cell_of_blk HB6.out.ax 1 (.int .i64 at_) rfl; have a2 := cell_of_blk HB6.out.ax 2 (.int .i64 al) rfl; have a3 := cell_of_blk HB6.out.ax 3 (.slice pa na ca) rfl; have s0 := cell_of_blk HB6.out.sx 0 (.string x) rfl; have s1 := cell_of_blk HB6.out.sx 1 (.int .i64 ty) rfl; have s2 := cell_of_blk HB6.out.sx 2 (.int .i64 lf) rfl; have s3 := cell_of_blk HB6.out.sx 3 (.slice p n c) rfl; have s4 := cell_of_blk HB6.out.sx 4 (.slice q m d) rfl) | (go_at_call 18; (with_reducible refine (CSG.out _ _ CL HB6.out.bel SC6.out (by unfold maxLen; omega)).mono ?_); rintro e w7 ⟨rfl, hb⟩; have HB7 := Lib.hid (HB6.out.keep hb HB6.out.lt); clear hb))
  go_ret
  exact ⟨rfl, HB7.out.bel⟩
end Go.Proofs.YtkhckgknldiheaaDoor

