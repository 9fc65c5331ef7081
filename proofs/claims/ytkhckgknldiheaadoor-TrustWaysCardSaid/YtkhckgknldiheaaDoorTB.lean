/- The iterator of slices.Backward over stops; no condition beyond those that each theorem names. -/
import Derived.Test.YtkhckgknldiheaaDoorTW
import Derived.RangeFuncNested
import Derived.RangeFuncFrom
import Derived.RangeFuncBound
import Derived.RangeFuncCalls
import Derived.RangeFuncLeaves
import Derived.RangeFuncBox
import Derived.Shelf.Abstract
import Derived.Shelf.RegionOpen
import Derived.OwnWalkIn
import Derived.TacticsInMore
import Derived.LoopNIn
import Derived.LoopIn
namespace Go.Proofs.YtkhckgknldiheaaDoor
set_option linter.unusedSimpArgs false
set_option linter.unusedVariables false
open Go.RowKit Go.Shelf
open NmP SpP
attribute [local go_sem] Oper.semAt_some

/-- The stops with their places, the last one first. -/
abbrev Ist := Nat × Stp
def revI (L : List Stp) : List Ist := (L.zipIdx.map (fun p => (p.2, p.1))).reverse
theorem revI_len (L : List Stp) : (revI L).length = L.length := by simp [revI]
theorem revI_at {L : List Stp} {j : Nat} (h : j < L.length) : (revI L)[j]? = some (L.length - 1 - j, L[L.length - 1 - j]'(by omega)) := by
  unfold revI
  rw [List.getElem?_reverse (by simpa using h)]
  simp only [List.length_map, List.length_zipIdx, List.getElem?_map, List.getElem?_zipIdx, Nat.zero_add]
  rw [List.getElem?_eq_getElem (by omega)]
  rfl
/-- A stop of the list, with its place. -/
abbrev Mst (L : List Stp) := {x : Ist // x ∈ revI L}
theorem revM_at {L : List Stp} {j : Nat} (h : j < L.length) : ∃ hm : (L.length - 1 - j, L[L.length - 1 - j]'(by omega)) ∈ revI L, (revI L).attach[j]? = some ⟨(L.length - 1 - j, L[L.length - 1 - j]'(by omega)), hm⟩ := by
  have h1 := revI_at h
  refine ⟨List.mem_of_getElem? h1, ?_⟩
  rw [List.getElem?_attach]
  simp only [h1]
  rfl
theorem mem_revI {L : List Stp} {x : Ist} (h : x ∈ revI L) : x.2 ∈ L := by
  unfold revI at h
  rw [List.mem_reverse] at h
  obtain ⟨y, hy, rfl⟩ := List.mem_map.1 h
  exact List.fst_mem_of_mem_zipIdx hy
theorem RTp.keepN {b off n : Nat} {l : List Stp} {W W' : World} (h : RTp b off l W) (hb : b < n) (hB : Below n W W') : RTp b off l W' := fun m u hm =>
  (hB.cell (p := ⟨b, off + m, none⟩) hb).trans (h m u hm)
def encI (p : Ist) : Array Value := #[.int .i64 p.1, .agg #[.string p.2.1, .string p.2.2.x, .int .i64 p.2.2.t, .int .i64 p.2.2.f, .slice p.2.2.p p.2.2.n p.2.2.c, .slice p.2.2.q p.2.2.m p.2.2.d]]

set_option maxHeartbeats 1000000 in
set_option maxRecDepth 100000 in
theorem backward_any (p : Option Addr) (n c : Nat) (w : World) : Calls Tryd.prog 73 #[.slice p n c] w fun e w' => e = .returned (.func (.func 91) #[] #[.pointer (some ⟨w.heap.size, 0, none⟩)]) ∧ w' = w.alloc (.cells #[.slice p n c] 73) := by
  go_enter Tryd.func73, Tryd.ntmps73
  go_wp2
  go_ret
  exact ⟨rfl, rfl⟩

/-- What lay before n0 stays, and so does the block Bx. -/
def KpB (n0 Bx : Nat) (W W' : World) : Prop := Below n0 W W' ∧ W'.heap[Bx]? = W.heap[Bx]?
theorem KpB.refl (n0 Bx : Nat) (W : World) : KpB n0 Bx W W := ⟨Below.refl _ _, rfl⟩
theorem KpB.trans {n0 Bx : Nat} {A B C : World} (h : KpB n0 Bx A B) (k : KpB n0 Bx B C) : KpB n0 Bx A C := ⟨h.1.trans k.1, k.2.trans h.2⟩

set_option maxHeartbeats 2000000 in
set_option maxRecDepth 100000 in
theorem backward_in (n : Nat) (hn : 1 ≤ n) (l Bx n0 b off cap : Nat) (L : List Stp) (hL : L.length ≤ 1000000) (hb : b < n0) (J Jx : List (Mst L) → World → Prop)
    (W : World) (hnW : n0 ≤ W.heap.size)
    (hY : ∀ pre x W, J pre W → pre.length < L.length → YieldAt Fence.wide (n - 1) Tryd.prog l (encI x.1) W fun e W' =>
      (e = .returned (.bool true) ∧ J (pre ++ [x]) W' ∧ KpB n0 Bx W W') ∨ (e = .returned (.bool false) ∧ Jx (pre ++ [x]) W'))
    (hbx : W.cell? ⟨Bx, 0, none⟩ = some (.slice (some ⟨b, off, none⟩) L.length cap)) (hR : RTp b off L W) (h0 : J [] W) :
    CallsIn Fence.wide n Tryd.prog 91 #[.func (.yield l) #[] #[], .pointer (some ⟨Bx, 0, none⟩)] W fun e' W' => (∃ v, e' = .returned v) ∧
      ((∃ ys, ys = (revI L).attach ∧ J ys W') ∨ (∃ pre, (∃ r, (revI L).attach = pre ++ r) ∧ Jx pre W')) := by
  have HY := Lib.hid hY
  obtain ⟨m, hm⟩ : ∃ m, L.length = m := ⟨_, rfl⟩
  rw [hm] at hbx hL
  have HM := Lib.hid hm
  have HR := Lib.hid hR
  have HNW := Lib.hid hnW
  have HBX := Lib.hid hbx
  clear hY hm hR
  refine callsIn_of_wp Tryd.func91 rfl trivial ?_ rfl
  simp only [Tryd.ntmps91, List.size_toArray, List.length_cons, List.length_nil, Nat.reduceAdd, Nat.reduceSub, Array.replicate_succ, Array.replicate_zero, List.push_toArray, List.append_toArray, List.nil_append, List.cons_append]
  gi_wp2
  clear hbx
  gi_loopw [3] (fun s3 wr => ∃ j : Nat, s3 = .int .i64 ((m : Int) - 1 - j) ∧ j ≤ m ∧ Hid (KpB n0 Bx W wr) ∧ Hid (J ((revI L).attach.take j) wr)) (fun s3 _ => (intOf s3 + 1).toNat)
  case atStart => exact ⟨0, by congr 1; omega, Nat.zero_le _, Lib.hid (KpB.refl _ _ _), Lib.hid h0⟩
  case round =>
    obtain ⟨j, rfl, hj, HB, HJ⟩ := hrel
    by_cases hlt : j < m
    · have ja : j < L.length := by rw [HM.out]; exact hlt
      obtain ⟨hmem, ga⟩ := revM_at ja
      have ia : L.length - 1 - j < L.length := by omega
      have gi : L[L.length - 1 - j]? = some L[L.length - 1 - j] := List.getElem?_eq_getElem ia
      obtain ⟨c0, c1, c2, c3, c4, c5⟩ := (HR.out.keepN hb HB.out.1).at_ gi
      have HT : Hid ((revI L).attach.take (j + 1) = (revI L).attach.take j ++ [⟨(L.length - 1 - j, L[L.length - 1 - j]), hmem⟩]) := Lib.hid (by rw [List.take_add_one, ga]; rfl)
      have HLen : Hid (((revI L).attach.take j).length < L.length) := Lib.hid (by rw [List.length_take, List.length_attach, revI_len]; omega)
      obtain ⟨fn, tmps, assign, body, hy, hR2⟩ := HY.out _ ⟨(L.length - 1 - j, L[L.length - 1 - j]), hmem⟩ _ HJ.out HLen.out
      unfold encI at hy
      simp only at hy
      generalize (⟨(L.length - 1 - j, L[L.length - 1 - j]), hmem⟩ : Mst L) = xm at *
      generalize L[L.length - 1 - j] = x at *
      obtain ⟨k, hk⟩ : ∃ k, L.length - 1 - j = k := ⟨_, rfl⟩
      rw [hk] at c0 c1 c2 c3 c4 c5 hy
      have hkm : (m : Int) - 1 - j = (k : Int) := by have := HM.out; omega
      have hi1 : (k : Int) < (m : Int) := by omega
      have hi0 : (0 : Int) ≤ (k : Int) := by omega
      have hk1 : j + 1 + k = m := by omega
      rw [hkm]
      have hbx := (World.cell?_of_block HB.out.2).trans HBX.out
      have HK := Lib.hid hkm
      clear ga ia gi hk hkm hmem
      gi_wp2
      refine hR2.mono ?_
      rintro e' W3 (⟨rfl, hJ3, hk3⟩ | ⟨rfl, hJx3⟩)
      · have HJ3 := Lib.hid hJ3
        have HB3 := Lib.hid (HB.out.trans hk3)
        clear hJ3 hk3
        gi_wp2
        go_roundw
        case rel => exact ⟨j + 1, by rw [show (m : Int) - 1 - ((j + 1 : Nat) : Int) = (k : Int) - 1 by have := HK.out; omega], by omega, HB3, Lib.hid (by rw [HT.out]; exact HJ3.out)⟩
        case measure => simp [intOf]
      · have HJ3 := Lib.hid hJx3
        clear hJx3
        gi_wp2
        refine bodyPost_ret (results_none rfl _ _ _) rfl ?_
        exact ⟨⟨_, rfl⟩, .inr ⟨_, ⟨(revI L).attach.drop (j + 1), by rw [← HT.out, List.take_append_drop]⟩, HJ3.out⟩⟩
    · obtain rfl : j = m := by omega
      have hT : (revI L).attach.take j = (revI L).attach := List.take_of_length_le (by rw [List.length_attach, revI_len, HM.out]; exact Nat.le_refl _)
      have HT := Lib.hid hT
      have hneg : ((j : Int) - 1 - (j : Int)) = -1 := by omega
      rw [hneg]
      clear hT hneg
      gi_wp2
      go_end0
      exact ⟨⟨_, rfl⟩, .inl ⟨_, rfl, by have := HJ.out; rwa [HT.out] at this⟩⟩
theorem backward_stops (n : Nat) (hn : 1 ≤ n) (Bx n0 b off cap : Nat) (L : List Stp) (hL : L.length ≤ 1000000) (hb : b < n0) (w : World) (hnw : n0 ≤ w.heap.size) (hBx : Bx < w.heap.size)
    (hbx : w.cell? ⟨Bx, 0, none⟩ = some (.slice (some ⟨b, off, none⟩) L.length cap)) (hR : RTp b off L w) :
    SeqStopsK Fence.wide n Tryd.prog 91 #[.pointer (some ⟨Bx, 0, none⟩)] (fun x : Mst L => encI x.1) (KpB n0 Bx) (fun ys => ys = (revI L).attach) (fun pre => ∃ r, (revI L).attach = pre ++ r) L.length w := fun l J Jx W hW hJ _ hY h0 =>
  backward_in n hn l Bx n0 b off cap L hL hb J Jx W (Nat.le_trans hnw hW.size) hY ((hW.cell (p := ⟨Bx, 0, none⟩) hBx).trans hbx) (hR.keepN (Nat.lt_of_lt_of_le hb hnw) hW) h0
end Go.Proofs.YtkhckgknldiheaaDoor
