/- The contract of the iterator that ends of package span returns: the ends of each time, summed up; no condition beyond those that each theorem names. -/
import Derived.Test.YtojofkjnakiliaaS6
import Derived.RangeFuncNested
import Derived.RangeFuncFrom
import Derived.RangeFuncBound
import Derived.RangeFuncCalls
import Derived.RangeFuncLeaves
import Derived.Shelf.Abstract
import Derived.Shelf.RegionOpen
import Derived.OwnWalkIn
import Derived.TacticsInMore
import Derived.LoopNIn
import Derived.LoopIn
namespace Go.Proofs.Ytojofkjnakiliaa
open Go.RowKit Go.Shelf
open SpP
attribute [local go_sem] Oper.semAt_some

def encE (x : Ev) : Array Value := #[.agg #[.int .i64 x.1, .int .i64 x.2.1, .int .i64 x.2.2]]
def cellsE (x : Ev) : Obj := .cells #[.int .i64 x.1, .int .i64 x.2.1, .int .i64 x.2.2] 55
theorem acc_stop {all y : Ev} {r : List Ev} (h : y.1 ≠ all.1) : acc all (y :: r) = all :: grp (y :: r) := by
  show (if _ then _ else _) = _
  rw [if_neg h]
  rfl
theorem acc_go {all y : Ev} {r : List Ev} (h : y.1 = all.1) : acc all (y :: r) = acc (all.1, all.2.1 + y.2.1, all.2.2 + y.2.2) r := by
  show (if _ then _ else _) = _
  rw [if_pos h]
theorem dropE {l : List Ev} {k : Nat} {s : Ev} (h : l[k]? = some s) : l.drop k = s :: l.drop (k + 1) := by
  obtain ⟨h1, h2⟩ := List.getElem?_eq_some_iff.1 h
  rw [List.drop_eq_getElem_cons h1, h2]
theorem grown_set {W W' : World} (h : W.grownBy W' none) {b : Nat} (hb : W.heap.size ≤ b) (o : Nat) (v : Value) : W.grownBy (W'.setCell ⟨b, o, none⟩ v) none :=
  ⟨h.os, h.tape, h.output, Nat.le_trans h.size (KeepsWalks.setCell W' _ v).size, fun k hk hne => (RowKit.Below.heap_setCell W' ⟨b, o, none⟩ v k (by show k ≠ b; omega)).trans (h.block k hk hne)⟩
theorem grown_drewN {W W' : World} (h : W.grownBy W' none) (n : Nat) : W.grownBy (W'.drewN n) none := ⟨h.os, h.tape, h.output, h.size, h.block⟩
theorem grown_drew {W W' : World} (h : W.grownBy W' none) : W.grownBy W'.drew none := ⟨h.os, h.tape, h.output, h.size, h.block⟩
theorem box3 {W : World} {b : Nat} {x : Ev} (h : W.heap[b]? = some (cellsE x)) : (W.cell? ⟨b, 0, none⟩ = some (.int .i64 x.1) ∧ W.cell? ⟨b, 1, none⟩ = some (.int .i64 x.2.1) ∧ W.cell? ⟨b, 2, none⟩ = some (.int .i64 x.2.2)) ∧ W.frozen? ⟨b, 1, none⟩ = false ∧ W.frozen? ⟨b, 2, none⟩ = false := by
  unfold cellsE at h
  refine ⟨⟨?_, ?_, ?_⟩, ?_, ?_⟩ <;> simp [World.cell?, World.frozen?, h]
/-- Small numbers of ends. -/
def SmallE (d : List Ev) : Prop := d.length ≤ 80000 ∧ ∀ x ∈ d, -1 ≤ x.2.1 ∧ x.2.1 ≤ 1 ∧ -1 ≤ x.2.2 ∧ x.2.2 ≤ 1

/-- What a round of the inner loop reads: the list's slice, the box of what is summed up, the next end. -/
structure IW (w0 : World) (B g m cap b4 j : Nat) (x y : Ev) (W : World) : Prop where
  c1 : W.cell? ⟨B, 0, none⟩ = some (.slice (some ⟨g, 0, none⟩) m cap)
  box : W.heap[b4]? = some (cellsE x)
  a0 : W.cell? ⟨g, j * 3, none⟩ = some (.int .i64 y.1)
  a1 : W.cell? ⟨g, j * 3 + 1, none⟩ = some (.int .i64 y.2.1)
  a2 : W.cell? ⟨g, j * 3 + 2, none⟩ = some (.int .i64 y.2.2)
  hg : w0.grownBy W none
theorem IW.drewN {w0 : World} {B g m cap b4 j : Nat} {x y : Ev} {W : World} (h : IW w0 B g m cap b4 j x y W) (n : Nat) : IW w0 B g m cap b4 j x y (W.drewN n) := ⟨h.c1, h.box, h.a0, h.a1, h.a2, grown_drewN h.hg n⟩
theorem IW.drew {w0 : World} {B g m cap b4 j : Nat} {x y : Ev} {W : World} (h : IW w0 B g m cap b4 j x y W) : IW w0 B g m cap b4 j x y W.drew := ⟨h.c1, h.box, h.a0, h.a1, h.a2, grown_drew h.hg⟩
theorem set_1 {W : World} {b : Nat} {x : Ev} (h : W.heap[b]? = some (cellsE x)) (v : Int) : (W.setCell ⟨b, 1, none⟩ (.int .i64 v)).heap[b]? = some (cellsE (x.1, v, x.2.2)) := heap_setCell_same W b 1 _ _ _ h
theorem set_2 {W : World} {b : Nat} {x : Ev} (h : W.heap[b]? = some (cellsE x)) (v : Int) : (W.setCell ⟨b, 2, none⟩ (.int .i64 v)).heap[b]? = some (cellsE (x.1, x.2.1, v)) := heap_setCell_same W b 2 _ _ _ h
theorem IW.set {w0 : World} {B g m cap b4 j k : Nat} {x x' y : Ev} {W : World} {v : Value} (h : IW w0 B g m cap b4 j x y W) (hb : w0.heap.size ≤ b4) (hB : B < w0.heap.size) (hgl : g < w0.heap.size) (hx : (W.setCell ⟨b4, k, none⟩ v).heap[b4]? = some (cellsE x')) : IW w0 B g m cap b4 j x' y (W.setCell ⟨b4, k, none⟩ v) :=
  ⟨(World.cell?_setCell_other W _ _ _ (fun e => by cases e; omega)).trans h.c1, hx, (World.cell?_setCell_other W _ _ _ (fun e => by cases e; omega)).trans h.a0, (World.cell?_setCell_other W _ _ _ (fun e => by cases e; omega)).trans h.a1, (World.cell?_setCell_other W _ _ _ (fun e => by cases e; omega)).trans h.a2, grown_set h.hg hb _ _⟩

/-- Small numbers of one end. -/
def SmE (x : Ev) : Prop := -80000 ≤ x.2.1 ∧ x.2.1 ≤ 80000 ∧ -80000 ≤ x.2.2 ∧ x.2.2 ≤ 80000
/-- What is known ahead of a yield. -/
structure JX (J : List Ev → World → Prop) (pre : List Ev) (w : World) (x : Ev) (b4 : Nat) (W : World) : Prop where
  j : J pre W
  below : RowKit.Below w.heap.size w W
  box : W.heap[b4]? = some (cellsE x)
theorem JX.drewN {J : List Ev → World → Prop} {pre : List Ev} {w : World} {x : Ev} {b4 : Nat} {W : World} (h : JX J pre w x b4 W) {B : Nat} (hJ : AbidesFrom B J) (q : Nat) : JX J pre w x b4 (W.drewN q) :=
  ⟨hJ pre W _ none h.j (grown_drewN ⟨rfl, rfl, rfl, Nat.le_refl _, fun _ _ _ => rfl⟩ _) (fun r e => by cases e), below_drewN h.below q, h.box⟩

set_option maxHeartbeats 2000000 in
set_option maxRecDepth 100000 in
theorem iter_in (n : Nat) (hn : 1 ≤ n) (l B : Nat) (d : List Ev) (hd : SmallE d) (w : World) (hE : EC B d w) (J Jx : List Ev → World → Prop)
    (W : World) (hW : RowKit.Below w.heap.size w W) (hJ : AbidesFrom W.heap.size J)
    (hY : ∀ pre x W, J pre W → pre.length < (grp d).length → SmE x → YieldAt Fence.wide (n - 1) Try.prog l (encE x) W fun e W' =>
      (e = .returned (.bool true) ∧ J (pre ++ [x]) W' ∧ RowKit.Below w.heap.size W W') ∨ (e = .returned (.bool false) ∧ Jx (pre ++ [x]) W'))
    (h0 : J [] W) :
    CallsIn Fence.wide n Try.prog 46 #[.func (.yield l) #[] #[], .pointer (some ⟨B, 0, none⟩)] W fun e W' => (∃ v, e = .returned v) ∧
      ((∃ ys, ys = grp d ∧ J ys W') ∨ (∃ pre, pre <+: grp d ∧ Jx pre W')) := by
  obtain ⟨m, hm⟩ : ∃ m, d.length = m := ⟨_, rfl⟩
  have HD := Lib.hid hd
  have hm8 : m ≤ 80000 := by rw [← hm]; exact hd.1
  have HM := Lib.hid hm
  have HE := Lib.hid hE
  have HJ := Lib.hid hJ
  have HY := Lib.hid hY
  clear hd hm hE hJ hY
  refine callsIn_of_wp Try.func46 rfl trivial ?_ rfl
  simp only [Try.ntmps46, List.size_toArray, List.length_cons, List.length_nil, Nat.reduceAdd, Nat.reduceSub, Array.replicate_succ, Array.replicate_zero, List.push_toArray, List.append_toArray, List.nil_append, List.cons_append]
  gi_wp2
  gi_loopw [3] (fun s3 wr => ∃ (pre : List Ev) (i : Nat), s3 = .int .i64 i ∧ i ≤ m ∧ Hid (pre ++ grp (d.drop i) = grp d) ∧ Hid (RowKit.Below w.heap.size w wr) ∧ Hid (J pre wr)) (fun s3 _ => m - (intOf s3).toNat)
  case atStart => exact ⟨[], 0, rfl, Nat.zero_le _, Lib.hid rfl, Lib.hid hW, Lib.hid h0⟩
  case round =>
    obtain ⟨pre, i, rfl, hi, HP, HB, HJ0⟩ := hrel
    obtain ⟨g, cap, c1, hbl, hgl, hel⟩ := HE.out.keep HB.out
    rw [HM.out] at c1
    have HEL := Lib.hid hel
    clear hel
    by_cases h1 : i < m
    · have ia : i < d.length := by rw [HM.out]; exact h1
      have ga : d[i]? = some d[i] := List.getElem?_eq_getElem ia
      obtain ⟨a0, a1, a2⟩ := HEL.out i _ ga
      have hx1 := HD.out.2 _ (List.mem_of_getElem? ga)
      have hP := HP.out
      rw [dropE ga] at hP
      generalize d[i] = x at *
      obtain ⟨x0, xa, xb⟩ := x
      simp only at a0 a1 a2 hx1
      have HP2 : Hid (pre ++ acc (x0, xa, xb) (d.drop (i + 1)) = grp d) := Lib.hid hP
      clear hP ga HP
      have hi1 : (i : Int) < (m : Int) := by omega
      have hi0 : (0 : Int) ≤ (i : Int) := by omega
      gi_wp2
      have hb0 : (wr.alloc (cellsE (x0, xa, xb))).heap[wr.heap.size]? = some (cellsE (x0, xa, xb)) := World.alloc_heap_new wr _
      have hg0 : wr.grownBy (wr.alloc (cellsE (x0, xa, xb))) none := World.grownBy_alloc wr _ none
      change Code.wpIn _ _ _ _ _ _ (wr.alloc (cellsE (x0, xa, xb)))
      generalize wr.alloc (cellsE (x0, xa, xb)) = wa at *
      obtain ⟨b4, hb4⟩ : ∃ b, wr.heap.size = b := ⟨_, rfl⟩
      rw [hb4] at hb0 ⊢
      have HB4 := Lib.hid hb4
      have HB0 := Lib.hid hb0
      have HG0 := Lib.hid hg0
      have HC1 := Lib.hid c1
      clear hb4 hb0 hg0 c1 a0 a1 a2
      gi_loopw [3] (fun s3 wc => ∃ (j : Nat) (all : Ev), s3 = .int .i64 j ∧ i < j ∧ j ≤ m ∧ Hid (all.1 = x0) ∧ Hid (-(j : Int) ≤ all.2.1 ∧ all.2.1 ≤ j ∧ -(j : Int) ≤ all.2.2 ∧ all.2.2 ≤ j) ∧ Hid (pre ++ acc all (d.drop j) = grp d) ∧ Hid (wc.heap[b4]? = some (cellsE all)) ∧ Hid (wr.grownBy wc none)) (fun s3 _ => m - (intOf s3).toNat)
      case atStart => exact ⟨i + 1, (x0, xa, xb), by go_num, by omega, by omega, Lib.hid rfl, Lib.hid (by simp only; omega), HP2, HB0, HG0⟩
      case round =>
        obtain ⟨j, all, rfl, hij, hj, HX, HR, HA, HBX, HG⟩ := hrel
        have c1 := HG.out.cell HC1.out (by simp)
        obtain ⟨⟨e0, e1, e2⟩, f1, f2⟩ := box3 HBX.out
        have hx0 := HX.out
        have hr := HR.out
        obtain ⟨q0, qa, qb⟩ := all
        simp only at e0 e1 e2 hx0 hr
        subst hx0
        have hij1 : (0 : Int) ≤ (j : Int) := by omega
        by_cases h2 : j < m
        · have ja : j < d.length := by rw [HM.out]; exact h2
          have gj : d[j]? = some d[j] := List.getElem?_eq_getElem ja
          obtain ⟨a0, a1, a2⟩ := HEL.out j _ gj
          have a0 := HG.out.cell a0 (by simp)
          have a1 := HG.out.cell a1 (by simp)
          have a2 := HG.out.cell a2 (by simp)
          have hy1 := HD.out.2 _ (List.mem_of_getElem? gj)
          have hA := HA.out
          have hdj := dropE gj
          rw [hdj] at hA
          generalize d[j] = y at *
          obtain ⟨y0, ya, yb⟩ := y
          simp only at a0 a1 a2 hy1
          have h3 : (j : Int) < (m : Int) := by omega
          have h4 : decide ((j : Int) < (m : Int)) = true := by simpa using h2
          clear gj
          by_cases h5 : y0 = q0
          · subst h5
            rw [acc_go (all := (y0, qa, qb)) (y := (y0, ya, yb)) rfl] at hA
            have HA2 : Hid (pre ++ acc (y0, qa + ya, qb + yb) (d.drop (j + 1)) = grp d) := Lib.hid hA
            have h6 : (y0 == y0) = true := by simp
            clear hA HA
            have hbw := HB4.out
            have hbw := Nat.le_of_eq hbw
            have hBw := hbl
            have hgw := hgl
            have hIW : IW _ B g m cap b4 j (y0, qa, qb) (y0, ya, yb) wr := ⟨c1, HBX.out, a0, a1, a2, HG.out⟩
            have w1 : IntKind.i64.wrap (qa + ya) = qa + ya := IntWalk.i64_in _ (by omega)
            have w2 : IntKind.i64.wrap (qb + yb) = qb + yb := IntWalk.i64_in _ (by omega)
            gi_wp2
            refine wpIn_wide.2 ?_
            go_quiet (fail)
            gi_wp2
            have hI3 := fun q => hIW.drewN q
            clear hIW e0 e1 e2 f1 f2 a0 a1 a2 c1
            generalize hq : World.drewN _ _ = w3
            have h3 : IW _ B g m cap b4 j (y0, qa, qb) (y0, ya, yb) w3 := hq ▸ hI3 _
            clear hI3 hq
            have a1 := h3.a1
            have c1 := h3.c1
            obtain ⟨⟨e0, e1, e2⟩, f1, f2⟩ := box3 h3.box
            simp only at e0 e1 e2 a1
            refine wpIn_wide.2 ?_
            go_region
            have h4 := (IW.set (v := .int .i64 (qa + ya)) (k := 1) h3 hbw hBw hgw (set_1 h3.box _)).drew
            clear h3 a1 c1 e0 e1 e2 f1 f2
            generalize World.drew _ = w4 at *
            gi_wp2
            have a2 := h4.a2
            have c1 := h4.c1
            obtain ⟨⟨e0, e1, e2⟩, f1, f2⟩ := box3 h4.box
            simp only at e0 e1 e2 a2
            refine wpIn_wide.2 ?_
            go_region
            have h5 := (IW.set (v := .int .i64 (qb + yb)) (k := 2) h4 hbw hBw hgw (set_2 h4.box _)).drew
            have HI5 := Lib.hid h5
            clear h4 a2 c1 e0 e1 e2 f1 f2 h5
            generalize World.drew _ = w5 at *
            gi_wp2
            go_roundw
            case rel => exact ⟨j + 1, (y0, qa + ya, qb + yb), by go_num, by omega, by omega, Lib.hid rfl, Lib.hid (by simp only; omega), HA2, Lib.hid HI5.out.box, Lib.hid HI5.out.hg⟩
            case measure => simp [intOf]; omega
          · have h6 : (y0 == q0) = false := by simpa using h5
            rw [acc_stop (all := (q0, qa, qb)) (y := (y0, ya, yb)) h5] at hA
            have HA2 : Hid ((pre ++ [(q0, qa, qb)]) ++ grp (d.drop j) = grp d) := Lib.hid (by rw [List.append_assoc, ← hA, hdj]; rfl)
            have hI3 := fun q => (show JX J pre w (q0, qa, qb) b4 wr from ⟨HJ.out pre _ wr none HJ0.out HG.out (fun r e => by cases e), (HB.out).grown HG.out HB.out.size (fun k e => by cases e), HBX.out⟩).drewN HJ.out q
            clear HA h5 hA
            gi_wp2
            refine wpIn_wide.2 ?_
            go_quiet (fail)
            clear a0 a1 a2 e0 e1 e2 f1 f2 c1
            generalize hq : World.drewN _ _ = w3
            have h3 : JX J pre w (q0, qa, qb) b4 w3 := hq ▸ hI3 _
            clear hI3 hq
            obtain ⟨⟨e0, e1, e2⟩, f1, f2⟩ := box3 h3.box
            obtain ⟨fn, tmps, assign, body, hy, hR⟩ := HY.out pre (q0, qa, qb) w3 h3.j (by rw [← HA2.out]; simp; try omega) (by unfold SmE; simp only; omega)
            have HB3 := Lib.hid h3.below
            simp only at e0 e1 e2
            unfold encE at hy
            clear h3
            gi_wp2
            refine hR.mono ?_
            rintro e W3 (⟨rfl, hJ3, hk3⟩ | ⟨rfl, hJx3⟩)
            · have HJ3 := Lib.hid hJ3
              have HK3 := Lib.hid (HB3.out.trans hk3)
              clear hJ3 hk3
              gi_wp2
              go_roundw
              case rel => exact ⟨pre ++ [(q0, qa, qb)], j, rfl, by omega, HA2, HK3, HJ3⟩
              case measure => simp [intOf]; omega
            · have HJ3 := Lib.hid hJx3
              clear hJx3
              gi_wp2
              refine bodyPost_ret (results_none rfl _ _ _) rfl ?_
              exact ⟨⟨_, rfl⟩, .inr ⟨_, ⟨_, HA2.out⟩, HJ3.out⟩⟩
        · obtain rfl : j = m := by omega
          have h4 : decide ((j : Int) < (j : Int)) = false := by simp
          have h3 : ¬ (j : Int) < (j : Int) := by omega
          have hA := HA.out
          rw [List.drop_eq_nil_of_le (by rw [HM.out]; exact Nat.le_refl _)] at hA
          have HA2 : Hid ((pre ++ [(q0, qa, qb)]) ++ grp (d.drop j) = grp d) := Lib.hid (by rw [List.drop_eq_nil_of_le (by rw [HM.out]; exact Nat.le_refl _), ← hA]; simp [acc, grp])
          have hI3 := fun q => (show JX J pre w (q0, qa, qb) b4 wr from ⟨HJ.out pre _ wr none HJ0.out HG.out (fun r e => by cases e), (HB.out).grown HG.out HB.out.size (fun k e => by cases e), HBX.out⟩).drewN HJ.out q
          clear HA hA
          gi_wp2
          refine wpIn_wide.2 ?_
          go_quiet (fail)
          clear e0 e1 e2 f1 f2 c1
          generalize hq : World.drewN _ _ = w3
          have h3 : JX J pre w (q0, qa, qb) b4 w3 := hq ▸ hI3 _
          clear hI3 hq
          obtain ⟨⟨e0, e1, e2⟩, f1, f2⟩ := box3 h3.box
          obtain ⟨fn, tmps, assign, body, hy, hR⟩ := HY.out pre (q0, qa, qb) w3 h3.j (by rw [← HA2.out]; simp; try omega) (by unfold SmE; simp only; omega)
          have HB3 := Lib.hid h3.below
          simp only at e0 e1 e2
          unfold encE at hy
          clear h3
          gi_wp2
          refine hR.mono ?_
          rintro e W3 (⟨rfl, hJ3, hk3⟩ | ⟨rfl, hJx3⟩)
          · have HJ3 := Lib.hid hJ3
            have HK3 := Lib.hid (HB3.out.trans hk3)
            clear hJ3 hk3
            gi_wp2
            go_roundw
            case rel => exact ⟨pre ++ [(q0, qa, qb)], j, rfl, Nat.le_refl _, HA2, HK3, HJ3⟩
            case measure => simp [intOf]; omega
          · have HJ3 := Lib.hid hJx3
            clear hJx3
            gi_wp2
            refine bodyPost_ret (results_none rfl _ _ _) rfl ?_
            exact ⟨⟨_, rfl⟩, .inr ⟨_, ⟨_, HA2.out⟩, HJ3.out⟩⟩
    · obtain rfl : i = m := by omega
      have hT : pre = grp d := by
        have := HP.out
        rw [List.drop_eq_nil_of_le (by rw [HM.out]; exact Nat.le_refl _)] at this
        simpa [grp] using this
      have HT := Lib.hid hT
      clear hT
      gi_wp2
      go_end0
      exact ⟨⟨_, rfl⟩, .inl ⟨_, HT.out, HJ0.out⟩⟩
abbrev SEv := { x : Ev // SmE x }
theorem iter_stops (n : Nat) (hn : 1 ≤ n) (B : Nat) (d : List Ev) (hd : SmallE d) (w0 : World) (hE : EC B d w0) (w : World) (hw : RowKit.Below w0.heap.size w0 w) :
    SeqStopsK Fence.wide n Try.prog 46 #[.pointer (some ⟨B, 0, none⟩)] (fun x : SEv => #[.agg #[.int .i64 x.val.1, .int .i64 x.val.2.1, .int .i64 x.val.2.2]]) (RowKit.Below w0.heap.size) (fun ys => ys.map Subtype.val = grp d) (fun _ => True) (grp d).length w := fun l J Jx W hW hJ _ hY h0 => by
  refine (iter_in n hn l B d hd w0 hE (fun pre W => ∃ q : List SEv, q.map Subtype.val = pre ∧ J q W) (fun pre W => ∃ q : List SEv, q.map Subtype.val = pre ∧ Jx q W) W (hw.trans (hW.mono hw.size)) ?_ ?_ ⟨[], rfl, h0⟩).mono ?_
  · rintro s A C row ⟨q, hq, hj⟩ hg hr
    exact ⟨q, hq, hJ q A C row hj hg hr⟩
  · rintro pre x W1 ⟨q, rfl, hj⟩ hlen hs
    have := hY q ⟨x, hs⟩ W1 hj (by simpa using hlen)
    refine this.mono ?_
    rintro e W' (⟨h1, h2, h3⟩ | ⟨h1, h2⟩)
    · exact .inl ⟨h1, ⟨q ++ [⟨x, hs⟩], by simp, h2⟩, h3⟩
    · exact .inr ⟨h1, ⟨q ++ [⟨x, hs⟩], by simp, h2⟩⟩
  · rintro e W' ⟨hv, (⟨ys, rfl, q, hq, hj⟩ | ⟨pre, _, q, _, hj⟩)⟩
    · exact ⟨hv, .inl ⟨q, hq, hj⟩⟩
    · exact ⟨hv, .inr ⟨q, trivial, hj⟩⟩
end Go.Proofs.Ytojofkjnakiliaa
