/- The times of package resign as a list, and the contract of the iterator that makes them; no condition beyond those that each theorem names. -/
import Derived.Test.YteojjbfeblbfdaaDoorRS
import Derived.RangeFuncNested
import Derived.RangeFuncFrom
import Derived.RangeFuncBound
import Derived.RangeFuncCalls
import Derived.RangeFuncLeaves
import Derived.Shelf.Abstract
import Derived.Shelf.RegionOpen
import Derived.OwnWalkIn
import Derived.TacticsInMore
import Derived.LoopNIn
import Derived.LoopIn
namespace Go.Proofs.YteojjbfeblbfdaaDoor
set_option linter.unusedSimpArgs false
set_option linter.unusedVariables false
open Go.RowKit Go.Shelf
open SpP
attribute [local go_sem] Oper.semAt_some

/-- How many times there are, from b on in steps of s, ahead of e. -/
def cntT (b e s : Int) : Nat := ((e - b + s - 1) / s).toNat
def seqT (b e s : Int) : List Int := (List.range (cntT b e s)).map fun i : Nat => b + (i : Int) * s
theorem seqT_len (b e s : Int) : (seqT b e s).length = cntT b e s := by unfold seqT; rw [List.length_map, List.length_range]
theorem seqT_get (b e s : Int) (i : Nat) (h : i < cntT b e s) : (seqT b e s)[i]? = some (b + (i : Int) * s) := by
  unfold seqT
  simp [h]
theorem cnt_iff {b e s : Int} (hs : 0 < s) (i : Nat) : i < cntT b e s ↔ b + (i : Int) * s < e := by
  unfold cntT
  have h : (i : Int) + 1 ≤ (e - b + s - 1) / s ↔ ((i : Int) + 1) * s ≤ e - b + s - 1 := Int.le_ediv_iff_mul_le hs
  rw [Int.add_mul, Int.one_mul] at h
  omega
theorem seq_take {b e s : Int} {i : Nat} (h : i < cntT b e s) : (seqT b e s).take (i + 1) = (seqT b e s).take i ++ [b + (i : Int) * s] := by
  rw [List.take_add_one, seqT_get b e s i h]; rfl
/-- The box of a rhythm. -/
def RhAt (R : Nat) (b e s : Int) (W : World) : Prop := W.heap[R]? = some (.cells #[.int .i64 b, .int .i64 e, .int .i64 s] 120)
theorem RhAt.cells {R : Nat} {b e s : Int} {W : World} (h : RhAt R b e s W) : W.cell? ⟨R, 0, none⟩ = some (.int .i64 b) ∧ W.cell? ⟨R, 1, none⟩ = some (.int .i64 e) ∧ W.cell? ⟨R, 2, none⟩ = some (.int .i64 s) := by
  unfold RhAt at h
  refine ⟨?_, ?_, ?_⟩ <;> simp [World.cell?, h]
/-- A block is as it was. -/
def KeepsB (R : Nat) (W W' : World) : Prop := ∀ o, W.heap[R]? = some o → W'.heap[R]? = some o
theorem KeepsB.t {R : Nat} {A B C : World} (h : KeepsB R A B) (k : KeepsB R B C) : KeepsB R A C := fun o ho => k o (h o ho)
theorem KeepsB.b {R : Nat} {w : World} (hn : R < w.heap.size) (W : World) (l : Nat) (o o' : Obj) (hl : w.heap.size ≤ l) (h : W.heap[l]? = some o) (_ : o.isCells = false) (_ : o.isWalk = false) : KeepsB R W (W.putObj l o') := fun x hx =>
  ((grownBy_putObj' W l o').block R (Array.getElem?_eq_some_iff.1 hx).1 (fun e => by cases e; omega)).trans hx
theorem RhAt.keep {R : Nat} {b e s : Int} {w w' : World} (h : RhAt R b e s w) (hb : KeepsB R w w') : RhAt R b e s w' := hb _ h
theorem KeepsB.below {R : Nat} {w w' : World} (hR : R < w.heap.size) (hb : RowKit.Below w.heap.size w w') : KeepsB R w w' := fun o ho => (hb.block R hR).trans ho

set_option maxHeartbeats 2000000 in
set_option maxRecDepth 100000 in
theorem times_in (n : Nat) (hn : 1 ≤ n) (l R : Nat) (b e s : Int) (hs : 1 ≤ s) (hs2 : s ≤ 100000000) (hb0 : 0 ≤ b) (he : e ≤ 100000000) (J Jx : List Int → World → Prop)
    (W : World) (hE : RhAt R b e s W)
    (hY : ∀ pre x W, J pre W → pre.length < cntT b e s → YieldAt Fence.wide (n - 1) Tryd.prog l #[.int .i64 x] W fun e W' =>
      (e = .returned (.bool true) ∧ J (pre ++ [x]) W' ∧ KeepsB R W W') ∨ (e = .returned (.bool false) ∧ Jx (pre ++ [x]) W'))
    (h0 : J [] W) :
    CallsIn Fence.wide n Tryd.prog 99 #[.func (.yield l) #[] #[], .pointer (some ⟨R, 0, none⟩)] W fun e' W' => (∃ v, e' = .returned v) ∧
      ((∃ ys, ys = seqT b e s ∧ J ys W') ∨ (∃ pre, True ∧ Jx pre W')) := by
  have HE := Lib.hid hE
  have HY := Lib.hid hY
  obtain ⟨c0, c1, c2⟩ := hE.cells
  clear hE hY
  refine callsIn_of_wp Tryd.func99 rfl trivial ?_ rfl
  simp only [Tryd.ntmps99, List.size_toArray, List.length_cons, List.length_nil, Nat.reduceAdd, Nat.reduceSub, Array.replicate_succ, Array.replicate_zero, List.push_toArray, List.append_toArray, List.nil_append, List.cons_append]
  gi_wp2
  clear c0 c1 c2
  gi_loopw [3] (fun s3 wr => ∃ (i : Nat) (x : Int), s3 = .int .i64 x ∧ x = b + (i : Int) * s ∧ b ≤ x ∧ i ≤ cntT b e s ∧ Hid (RhAt R b e s wr) ∧ Hid (J ((seqT b e s).take i) wr)) (fun s3 _ => (e - intOf s3).toNat)
  case atStart => exact ⟨0, b, rfl, by simp, Int.le_refl _, Nat.zero_le _, HE, Lib.hid h0⟩
  case round =>
    obtain ⟨i, x, rfl, hx, hbx, hi, HB, HJ⟩ := hrel
    obtain ⟨c0, c1, c2⟩ := HB.out.cells
    have hit := cnt_iff (b := b) (e := e) (show (0 : Int) < s by omega) i
    rw [← hx] at hit
    by_cases h1 : x < e
    · have hlt := hit.2 h1
      have htk := seq_take hlt
      rw [← hx] at htk
      have hx2 : x + s = b + ((i + 1 : Nat) : Int) * s := by rw [hx, Int.natCast_add, Int.natCast_one, Int.add_mul, Int.one_mul, Int.add_assoc]
      have w1 : IntKind.i64.wrap (x + s) = x + s := IntWalk.i64_in _ (by omega)
      obtain ⟨fn, tmps, assign, body, hy, hR⟩ := HY.out _ x wr HJ.out (by rw [List.length_take, seqT_len]; omega)
      have HTK := Lib.hid htk
      have HX2 := Lib.hid hx2
      clear hit hx htk hx2
      gi_wp2
      refine hR.mono ?_
      rintro e' W3 (⟨rfl, hJ3, hk3⟩ | ⟨rfl, hJx3⟩)
      · have HJ3 := Lib.hid hJ3
        have HK3 := Lib.hid (HB.out.keep hk3)
        obtain ⟨c0, c1, c2⟩ := HK3.out.cells
        clear hJ3 hk3
        gi_wp2
        go_roundw
        case rel => exact ⟨i + 1, x + s, rfl, HX2.out, by omega, by omega, HK3, Lib.hid (by rw [HTK.out]; exact HJ3.out)⟩
        case measure => simp [intOf]; omega
      · have HJ3 := Lib.hid hJx3
        clear hJx3
        gi_wp2
        refine bodyPost_ret (results_none rfl _ _ _) rfl ?_
        exact ⟨⟨_, rfl⟩, .inr ⟨_, trivial, HJ3.out⟩⟩
    · have hge : cntT b e s ≤ i := Nat.le_of_not_lt (fun q => h1 (hit.1 q))
      have hT : (seqT b e s).take i = seqT b e s := List.take_of_length_le (by rw [seqT_len]; exact hge)
      have HT := Lib.hid hT
      clear hit hx hT
      gi_wp2
      go_end0
      exact ⟨⟨_, rfl⟩, .inl (by rw [← HT.out]; exact HJ.out)⟩
theorem times_stops (n : Nat) (hn : 1 ≤ n) (R : Nat) (b e s : Int) (hs : 1 ≤ s) (hs2 : s ≤ 100000000) (hb0 : 0 ≤ b) (he : e ≤ 100000000) (w : World) (hE : RhAt R b e s w) :
    SeqStopsK Fence.wide n Tryd.prog 99 #[.pointer (some ⟨R, 0, none⟩)] (fun x : Int => #[.int .i64 x]) (KeepsB R) (fun ys => ys = seqT b e s) (fun _ => True) (cntT b e s) w := fun l J Jx W hW hJ _ hY h0 =>
  times_in n hn l R b e s hs hs2 hb0 he J Jx W (hE.keep (KeepsB.below (Array.getElem?_eq_some_iff.1 hE).1 hW)) hY h0
theorem times_fn (b e s : Int) (w : World) : Calls Tryd.prog 75 #[.agg #[.int .i64 b, .int .i64 e, .int .i64 s]] w fun e' w' => e' = .returned (.func (.func 99) #[] #[.pointer (some ⟨w.heap.size, 0, none⟩)]) ∧ w' = w.alloc (.cells #[.int .i64 b, .int .i64 e, .int .i64 s] 120) := by
  go_enter Tryd.func75, Tryd.ntmps75
  go_wp2
  go_ret
  exact ⟨rfl, rfl⟩
end Go.Proofs.YteojjbfeblbfdaaDoor
