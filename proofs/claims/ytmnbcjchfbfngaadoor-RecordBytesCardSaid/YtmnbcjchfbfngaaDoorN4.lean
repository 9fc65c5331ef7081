/- The iterator over the labels of a name, from the last one on; no condition beyond those that each theorem names. -/
import Derived.Test.YtmnbcjchfbfngaaDoorN2
import Derived.Test.YtmnbcjchfbfngaaDoorShelf
import Derived.RangeFuncNested
import Derived.RangeFuncFrom
import Derived.RangeFuncBound
import Derived.RangeFuncCalls
import Derived.RangeFuncLeaves
import Derived.Shelf.Abstract
import Derived.Shelf.RegionOpen
import Derived.OwnWalkIn
import Derived.TacticsInMore
import Derived.LoopNIn
import Derived.LoopIn
namespace Go.Proofs.YtmnbcjchfbfngaaDoor
set_option linter.unusedSimpArgs false
set_option linter.unusedVariables false
open Go.RowKit Go.Shelf
open NmP
attribute [local go_sem] Oper.semAt_some

/-- The labels that end at a place or before it, from the last one on. -/
def pcs (s : ByteArray) : Nat → Nat → List ByteArray
  | 0, fin => [s.extract 0 fin]
  | i + 1, fin => if s.toList[i]? = some 46 then s.extract (i + 1) fin :: pcs s i i else pcs s i fin
def revL (s : ByteArray) : List ByteArray := if s.toList = [46] then [] else pcs s s.size s.size

theorem pcs_labels (s : ByteArray) : ∀ k fin, k ≤ fin → fin ≤ s.size → (∀ j, k ≤ j → j < fin → s.toList[j]? ≠ some 46) → (pcs s k fin).map ByteArray.toList = (splitF (s.toList.take fin)).reverse
  | 0, fin, h, hf, nd => by
    have : (46 : UInt8) ∉ s.toList.take fin := by
      have := no_dot nd
      rwa [List.drop_zero, Nat.sub_zero] at this
    rw [splitF_none _ this]
    simp [pcs, tl_sub]
  | k + 1, fin, h, hf, nd => by
    unfold pcs
    by_cases hd : s.toList[k]? = some 46
    · rw [if_pos hd, List.map_cons, pcs_labels s k k (Nat.le_refl _) (by omega) (fun j a b => by omega)]
      have e : s.toList.take fin = s.toList.take k ++ 46 :: (s.toList.drop (k + 1)).take (fin - (k + 1)) := by
        obtain ⟨h4, h5⟩ := List.getElem?_eq_some_iff.1 hd
        have a1 := (List.take_append_drop k (s.toList.take fin)).symm
        rw [List.take_take, Nat.min_eq_left (by omega), List.drop_take, List.drop_eq_getElem_cons h4, h5, show fin - k = (fin - (k + 1)) + 1 by omega, List.take_succ_cons] at a1
        exact a1
      have nd2 : (46 : UInt8) ∉ (s.toList.drop (k + 1)).take (fin - (k + 1)) := no_dot nd
      rw [e, splitF_dot, splitF_none _ nd2, List.reverse_append, tl_sub]
      rfl
    · rw [if_neg hd]
      exact pcs_labels s k fin (by omega) hf (fun j a b => by
        rcases Nat.lt_or_ge k j with q | q
        · exact nd j (by omega) b
        · obtain rfl : j = k := by omega
          exact hd)
theorem revL_labels (s : ByteArray) : (revL s).map ByteArray.toList = (labs s.toList).reverse := by
  unfold revL labs
  split
  · rfl
  · rw [pcs_labels s s.size s.size (Nat.le_refl _) (Nat.le_refl _) (fun j a b => by omega), List.take_of_length_le (by rw [tl_len]; omega)]

/-- What the iterator asks of a round that goes on: its own box stays. -/
def KB (Bn : Nat) (W W' : World) : Prop := ∀ v, W.cell? ⟨Bn, 0, none⟩ = some v → W'.cell? ⟨Bn, 0, none⟩ = some v
theorem KB.t {Bn : Nat} {A B C : World} (h : KB Bn A B) (k : KB Bn B C) : KB Bn A C := fun v q => k v (h v q)
theorem KB.b {Bn : Nat} {w : World} (W : World) (l : Nat) (o o' : Obj) (_ : w.heap.size ≤ l) (h : W.heap[l]? = some o) (hc : o.isCells = false) (_ : o.isWalk = false) : KB Bn W (W.putObj l o') :=
  fun _ q => cell_kept q (grownBy_putObj' W l o') (fun r e => by cases e; exact ⟨o, h, hc⟩)

set_option maxHeartbeats 2000000 in
set_option maxRecDepth 100000 in
theorem iter_in (F : Fence) (n : Nat) (h58 : F.fn 94) (hro : F.round = none) (hn : 1 ≤ n) (l Bn : Nat) (s : ByteArray) (hs : s.size ≤ maxLen) (J Jx : List ByteArray → World → Prop)
    (hY : ∀ pre x W, J pre W → pre.length < (revL s).length → YieldAt F (n - 1) Tryd.prog l #[.string x] W fun e W' =>
      (e = .returned (.bool true) ∧ J (pre ++ [x]) W' ∧ KB Bn W W') ∨ (e = .returned (.bool false) ∧ Jx (pre ++ [x]) W'))
    (W : World) (hBn : W.cell? ⟨Bn, 0, none⟩ = some (.string s)) (h0 : J [] W) :
    CallsIn F n Tryd.prog 94 #[.func (.yield l) #[] #[], .pointer (some ⟨Bn, 0, none⟩)] W fun e W' => (∃ v, e = .returned v) ∧
      ((∃ ys, ys = revL s ∧ J ys W') ∨ (∃ pre, pre <+: revL s ∧ Jx pre W')) := by
  unfold maxLen at hs
  refine callsIn_of_wp Tryd.func94 rfl h58 ?_ hro
  simp only [Tryd.ntmps94, List.size_toArray, List.length_cons, List.length_nil, Nat.reduceAdd, Nat.reduceSub, Array.replicate_succ, Array.replicate_zero, List.push_toArray, List.append_toArray, List.nil_append, List.cons_append]
  by_cases hr : s.toList = [46]
  · have h2 : (s.toList == [46]) = true := by simpa using hr
    have HR : Hid (revL s = []) := Lib.hid (if_pos hr)
    clear hr
    gi_wp2
    refine bodyPost_ret (results_none rfl _ _ _) rfl ?_
    exact ⟨⟨_, rfl⟩, .inl ⟨[], HR.out.symm, h0⟩⟩
  · have h2 : (s.toList == [46]) = false := by simpa using hr
    have HR : Hid (revL s = pcs s s.size s.size) := Lib.hid (if_neg hr)
    have HY := Lib.hid hY
    clear hr hY
    gi_wp2
    gi_loopw [3, 4] (fun s3 s4 wr => ∃ (pre : List ByteArray) (k fin : Nat) (i : Int), s3 = .int .i64 fin ∧ s4 = .int .i64 i ∧ Hid (i = (k : Int) - 1) ∧ -1 ≤ i ∧ i < s.size ∧ k ≤ fin ∧ fin ≤ s.size ∧ wr.cell? ⟨Bn, 0, none⟩ = some (.string s) ∧ Hid (revL s = pre ++ pcs s k fin) ∧ Hid (J pre wr))
      (fun _ s4 _ => (intOf s4 + 1).toNat)
    case atStart =>
      exact ⟨[], s.size, s.size, (s.size : Int) - 1, rfl, rfl, Lib.hid rfl, by omega, by omega, Nat.le_refl _, Nat.le_refl _, hBn, HR, Lib.hid h0⟩
    case round =>
      obtain ⟨pre, k, fin, i, rfl, rfl, HK, hi1, hi2, hkf, hfs, hc, HX, HJ⟩ := hrel
      cases k with
      | zero =>
        have hk := HK.out
        obtain rfl : i = -1 := by simpa using hk
        clear hk
        obtain ⟨fn, tmps, assign, body, hy, hR⟩ := HY.out pre (s.extract 0 fin) wr HJ.out (by rw [HX.out]; simp [pcs])
        have HE : Hid (revL s = pre ++ [s.extract 0 fin]) := Lib.hid (by rw [HX.out]; simp [pcs])
        gi_wp2
        refine hR.mono ?_
        rintro e W3 (⟨rfl, hJ3, hk3⟩ | ⟨rfl, hJx3⟩)
        · have HJ3 := Lib.hid hJ3
          clear hJ3
          gi_wp2
          go_end0
          exact ⟨⟨_, rfl⟩, .inl ⟨_, HE.out.symm, HJ3.out⟩⟩
        · have HJ3 := Lib.hid hJx3
          clear hJx3
          gi_wp2
          go_end0
          exact ⟨⟨_, rfl⟩, .inr ⟨_, by rw [HE.out]; exact List.prefix_refl _, HJ3.out⟩⟩
      | succ k =>
        have hk := HK.out
        obtain rfl : i = (k : Int) := by omega
        clear hk
        have hks : k < s.size := by omega
        have hg := tl_get s k hks
        by_cases hd : (s[k]).toNat = 46
        · have hd2 : s.toList[k]? = some 46 := by rw [hg]; congr 1; exact UInt8.toNat_inj.1 hd
          have HE : Hid (revL s = (pre ++ [s.extract (k + 1) fin]) ++ pcs s k k) := Lib.hid (by rw [HX.out]; simp [pcs, hd2])
          have hq1 : ((s[k].toNat : Int) == 46) = true := by rw [beq_iff_eq]; omega
          obtain ⟨fn, tmps, assign, body, hy, hR⟩ := HY.out pre (s.extract (k + 1) fin) wr HJ.out (by rw [HE.out]; simp; try omega)
          clear hd2 hg
          gi_wp2
          refine hR.mono ?_
          rintro e W3 (⟨rfl, hJ3, hk3⟩ | ⟨rfl, hJx3⟩)
          · have HJ3 := Lib.hid hJ3
            have hc3 : W3.cell? ⟨Bn, 0, none⟩ = some (.string s) := hk3 _ hc
            clear hJ3 hk3
            gi_wp2
            go_roundw
            case rel => exact ⟨pre ++ [s.extract (k + 1) fin], k, k, (k : Int) - 1, rfl, rfl, Lib.hid rfl, by omega, by omega, Nat.le_refl _, by omega, hc3, HE, HJ3⟩
            case measure => simp [intOf] <;> omega
          · have HJ3 := Lib.hid hJx3
            clear hJx3
            gi_wp2
            refine bodyPost_ret (results_none rfl _ _ _) rfl ?_
            exact ⟨⟨_, rfl⟩, .inr ⟨_, ⟨_, HE.out.symm⟩, HJ3.out⟩⟩
        · have hd2 : s.toList[k]? ≠ some 46 := by rw [hg]; intro q; exact hd (by rw [Option.some.inj q]; rfl)
          have HE : Hid (revL s = pre ++ pcs s k fin) := Lib.hid (by rw [HX.out]; unfold pcs; rw [if_neg hd2]; cases k <;> rfl)
          have hq1 : ((s[k].toNat : Int) == 46) = false := beq_eq_false_iff_ne.2 (by omega)
          clear hd2 hg
          gi_wp2
          go_roundw
          case rel => exact ⟨pre, k, fin, (k : Int) - 1, rfl, rfl, Lib.hid rfl, by omega, by omega, by omega, hfs, hc, HE, HJ⟩
          case measure => simp [intOf] <;> omega
theorem iter_stops (F : Fence) (n : Nat) (h58 : F.fn 94) (hro : F.round = none) (hn : 1 ≤ n) (Bn : Nat) (s : ByteArray) (hs : s.size ≤ maxLen) (w : World) (hlt : Bn < w.heap.size)
    (hc : w.cell? ⟨Bn, 0, none⟩ = some (.string s)) :
    SeqStopsK F n Tryd.prog 94 #[.pointer (some ⟨Bn, 0, none⟩)] (fun x : ByteArray => #[Value.string x]) (KB Bn) (fun ys => ys = revL s) (fun pre => pre <+: revL s) (revL s).length w := fun l J Jx W hW _ _ hY h0 =>
  iter_in F n h58 hro hn l Bn s hs J Jx hY W ((hW.cell (p := ⟨Bn, 0, none⟩) hlt).trans hc) h0

set_option maxHeartbeats 400000 in
theorem fromLast_any (s : ByteArray) (w : World) :
    Calls Tryd.prog 79 #[.string s] w fun e w' => e = .returned (.func (.func 94) #[] #[.pointer (some ⟨w.heap.size, 0, none⟩)]) ∧ w.alloc (.cells #[.string s] 90) = w' := by
  go_enter Tryd.func79, Tryd.ntmps79
  go_wp2
  go_ret
  exact ⟨rfl, rfl⟩

/-- What the array of split holds at a place, when some labels have come. -/
def lst (pre : List ByteArray) (j : Nat) : ByteArray := if 8 ≤ j + pre.length then pre.getD (7 - j) ⟨#[]⟩ else ⟨#[]⟩
theorem lst_nil (j : Nat) (h : j < 8) : lst [] j = ⟨#[]⟩ := by unfold lst; rw [if_neg (by simp; omega)]
theorem lst_snoc (pre : List ByteArray) (x : ByteArray) (j : Nat) (h : pre.length < 8) (hj : j < 8) : lst (pre ++ [x]) j = if j = 7 - pre.length then x else lst pre j := by
  unfold lst
  by_cases e : j = 7 - pre.length
  · rw [if_pos e, if_pos (by simp; omega), show 7 - j = pre.length by omega]
    simp
  · rw [if_neg e]
    by_cases q : 8 ≤ j + pre.length
    · rw [if_pos q, if_pos (by simp; omega), List.getD_eq_getElem?_getD, List.getD_eq_getElem?_getD, List.getElem?_append_left (by omega)]
    · rw [if_neg q, if_neg (by simp; omega)]

theorem blk_ne {b c o p : Nat} (h : b ≠ c) : (⟨b, o, none⟩ : Addr) ≠ ⟨c, p, none⟩ := fun e => h (congrArg Addr.block e)
theorem off_ne {b c o p : Nat} (h : o ≠ p) : (⟨b, o, none⟩ : Addr) ≠ ⟨c, p, none⟩ := fun e => h (congrArg Addr.off e)
def IS (b : Nat) (pre : List ByteArray) (W : World) : Prop :=
  (∀ j, j < 8 → W.cell? ⟨b + 1, j, none⟩ = some (.string (lst pre j)) ∧ W.frozen? ⟨b + 1, j, none⟩ = false) ∧
  (W.cell? ⟨b + 1 + 1, 0, none⟩ = some (.int .i64 ((8 - pre.length : Nat) : Int)) ∧ W.frozen? ⟨b + 1 + 1, 0, none⟩ = false) ∧
  (∀ j, j < 8 → W.cell? ⟨b, j, none⟩ = some (.string ⟨#[]⟩) ∧ W.frozen? ⟨b, j, none⟩ = false)

theorem IS.own (b : Nat) : Own (IS b) := fun _ _ _ _ hs hg hr =>
  ⟨fun j hj => ⟨cell_kept (hs.1 j hj).1 hg hr, (frozen_kept (hs.1 j hj).1 hg hr).trans (hs.1 j hj).2⟩,
   ⟨cell_kept hs.2.1.1 hg hr, (frozen_kept hs.2.1.1 hg hr).trans hs.2.1.2⟩,
   fun j hj => ⟨cell_kept (hs.2.2 j hj).1 hg hr, (frozen_kept (hs.2.2 j hj).1 hg hr).trans (hs.2.2 j hj).2⟩⟩

theorem cell_blk {W : World} {b : Nat} {c : Array Value} {t : TypeId} (h : W.heap[b]? = some (.cells c t (0, 0))) (j : Nat) (v : Value) (hj : c[j]? = some v) : W.cell? ⟨b, j, none⟩ = some v ∧ W.frozen? ⟨b, j, none⟩ = false := by
  constructor <;> simp [World.cell?, World.frozen?, h, hj]
theorem box_l (W : World) (v : Value) (t : TypeId) : (W.alloc (.cells #[v] t)).cell? ⟨W.heap.size, 0, none⟩ = some v ∧ (W.alloc (.cells #[v] t)).frozen? ⟨W.heap.size, 0, none⟩ = false :=
  cell_blk (World.alloc_heap_new W _) 0 v rfl
abbrev Z8 : Array Value := #[.string ⟨#[]⟩, .string ⟨#[]⟩, .string ⟨#[]⟩, .string ⟨#[]⟩, .string ⟨#[]⟩, .string ⟨#[]⟩, .string ⟨#[]⟩, .string ⟨#[]⟩]
theorem zeros_l (W : World) (t : TypeId) (j : Nat) (hj : j < 8) : (W.alloc (.cells Z8 t)).cell? ⟨W.heap.size, j, none⟩ = some (.string ⟨#[]⟩) ∧ (W.alloc (.cells Z8 t)).frozen? ⟨W.heap.size, j, none⟩ = false := by
  refine cell_blk (World.alloc_heap_new W _) j _ ?_
  have : j = 0 ∨ j = 1 ∨ j = 2 ∨ j = 3 ∨ j = 4 ∨ j = 5 ∨ j = 6 ∨ j = 7 := by omega
  rcases this with rfl | rfl | rfl | rfl | rfl | rfl | rfl | rfl <;> rfl
theorem keep_l {W : World} {b k : Nat} {v : Value} (o : Obj) (h : W.cell? ⟨b, k, none⟩ = some v ∧ W.frozen? ⟨b, k, none⟩ = false) : (W.alloc o).cell? ⟨b, k, none⟩ = some v ∧ (W.alloc o).frozen? ⟨b, k, none⟩ = false :=
  ⟨cell_kept h.1 (World.grownBy_alloc W o none) (fun r e => by cases e), (frozen_kept h.1 (World.grownBy_alloc W o none) (fun r e => by cases e)).trans h.2⟩

theorem set8 (W : World) (b : Nat) (v0 v1 v2 v3 v4 v5 v6 v7 : Value) (u : Value) (h : ∀ j, j < 8 → W.cell? ⟨b, j, none⟩ = some u) :
    (((((((((W.setCell ⟨b, 0, none⟩ v0).setCell ⟨b, 1, none⟩ v1).setCell ⟨b, 2, none⟩ v2).setCell ⟨b, 3, none⟩ v3).setCell ⟨b, 4, none⟩ v4).setCell ⟨b, 5, none⟩ v5).setCell ⟨b, 6, none⟩ v6).setCell ⟨b, 7, none⟩ v7).cell? ⟨b, 0, none⟩ = some v0 ∧ ((((((((W.setCell ⟨b, 0, none⟩ v0).setCell ⟨b, 1, none⟩ v1).setCell ⟨b, 2, none⟩ v2).setCell ⟨b, 3, none⟩ v3).setCell ⟨b, 4, none⟩ v4).setCell ⟨b, 5, none⟩ v5).setCell ⟨b, 6, none⟩ v6).setCell ⟨b, 7, none⟩ v7).cell? ⟨b, 1, none⟩ = some v1 ∧ ((((((((W.setCell ⟨b, 0, none⟩ v0).setCell ⟨b, 1, none⟩ v1).setCell ⟨b, 2, none⟩ v2).setCell ⟨b, 3, none⟩ v3).setCell ⟨b, 4, none⟩ v4).setCell ⟨b, 5, none⟩ v5).setCell ⟨b, 6, none⟩ v6).setCell ⟨b, 7, none⟩ v7).cell? ⟨b, 2, none⟩ = some v2 ∧ ((((((((W.setCell ⟨b, 0, none⟩ v0).setCell ⟨b, 1, none⟩ v1).setCell ⟨b, 2, none⟩ v2).setCell ⟨b, 3, none⟩ v3).setCell ⟨b, 4, none⟩ v4).setCell ⟨b, 5, none⟩ v5).setCell ⟨b, 6, none⟩ v6).setCell ⟨b, 7, none⟩ v7).cell? ⟨b, 3, none⟩ = some v3 ∧ ((((((((W.setCell ⟨b, 0, none⟩ v0).setCell ⟨b, 1, none⟩ v1).setCell ⟨b, 2, none⟩ v2).setCell ⟨b, 3, none⟩ v3).setCell ⟨b, 4, none⟩ v4).setCell ⟨b, 5, none⟩ v5).setCell ⟨b, 6, none⟩ v6).setCell ⟨b, 7, none⟩ v7).cell? ⟨b, 4, none⟩ = some v4 ∧ ((((((((W.setCell ⟨b, 0, none⟩ v0).setCell ⟨b, 1, none⟩ v1).setCell ⟨b, 2, none⟩ v2).setCell ⟨b, 3, none⟩ v3).setCell ⟨b, 4, none⟩ v4).setCell ⟨b, 5, none⟩ v5).setCell ⟨b, 6, none⟩ v6).setCell ⟨b, 7, none⟩ v7).cell? ⟨b, 5, none⟩ = some v5 ∧ ((((((((W.setCell ⟨b, 0, none⟩ v0).setCell ⟨b, 1, none⟩ v1).setCell ⟨b, 2, none⟩ v2).setCell ⟨b, 3, none⟩ v3).setCell ⟨b, 4, none⟩ v4).setCell ⟨b, 5, none⟩ v5).setCell ⟨b, 6, none⟩ v6).setCell ⟨b, 7, none⟩ v7).cell? ⟨b, 6, none⟩ = some v6 ∧ ((((((((W.setCell ⟨b, 0, none⟩ v0).setCell ⟨b, 1, none⟩ v1).setCell ⟨b, 2, none⟩ v2).setCell ⟨b, 3, none⟩ v3).setCell ⟨b, 4, none⟩ v4).setCell ⟨b, 5, none⟩ v5).setCell ⟨b, 6, none⟩ v6).setCell ⟨b, 7, none⟩ v7).cell? ⟨b, 7, none⟩ = some v7) ∧ KeepsOthers W ((((((((W.setCell ⟨b, 0, none⟩ v0).setCell ⟨b, 1, none⟩ v1).setCell ⟨b, 2, none⟩ v2).setCell ⟨b, 3, none⟩ v3).setCell ⟨b, 4, none⟩ v4).setCell ⟨b, 5, none⟩ v5).setCell ⟨b, 6, none⟩ v6).setCell ⟨b, 7, none⟩ v7) ∧ (∀ B, B ≤ b → Below B W ((((((((W.setCell ⟨b, 0, none⟩ v0).setCell ⟨b, 1, none⟩ v1).setCell ⟨b, 2, none⟩ v2).setCell ⟨b, 3, none⟩ v3).setCell ⟨b, 4, none⟩ v4).setCell ⟨b, 5, none⟩ v5).setCell ⟨b, 6, none⟩ v6).setCell ⟨b, 7, none⟩ v7)) := by
  have d0 := h 0 (by omega)
  have d1 := h 1 (by omega)
  have d2 := h 2 (by omega)
  have d3 := h 3 (by omega)
  have d4 := h 4 (by omega)
  have d5 := h 5 (by omega)
  have d6 := h 6 (by omega)
  have d7 := h 7 (by omega)
  refine ⟨?_, ?_, ?_⟩
  · refine ⟨?_, ?_, ?_, ?_, ?_, ?_, ?_, ?_⟩
    all_goals go_simp
  · exact ((((((((KeepsOthers.setCell _ _ _).trans (KeepsOthers.setCell _ _ _)).trans (KeepsOthers.setCell _ _ _)).trans (KeepsOthers.setCell _ _ _)).trans (KeepsOthers.setCell _ _ _)).trans (KeepsOthers.setCell _ _ _)).trans (KeepsOthers.setCell _ _ _)).trans (KeepsOthers.setCell _ _ _))
  · intro B hB
    exact ((((((((Below.refl B W).setCell (p := ⟨b, 0, none⟩) hB _).setCell (p := ⟨b, 1, none⟩) hB _).setCell (p := ⟨b, 2, none⟩) hB _).setCell (p := ⟨b, 3, none⟩) hB _).setCell (p := ⟨b, 4, none⟩) hB _).setCell (p := ⟨b, 5, none⟩) hB _).setCell (p := ⟨b, 6, none⟩) hB _).setCell (p := ⟨b, 7, none⟩) hB _

set_option maxHeartbeats 1000000 in
set_option maxRecDepth 100000 in
theorem split_any (s : ByteArray) (w : World) (hs : s.size ≤ maxLen) (h8 : (revL s).length ≤ 8) :
    Calls Tryd.prog 78 #[.func (.func 79) #[.string s] #[]] w fun e w' => e = .returned (.tuple #[.agg #[.string (lst (revL s) 0), .string (lst (revL s) 1), .string (lst (revL s) 2), .string (lst (revL s) 3), .string (lst (revL s) 4), .string (lst (revL s) 5), .string (lst (revL s) 6), .string (lst (revL s) 7)], .int .i64 ((8 - (revL s).length : Nat) : Int)]) ∧ Below w.heap.size w w' := by
  refine (callsIn_wide (n := 5)).1 ?_
  refine callsIn_of_wp_marks Tryd.func78 rfl trivial ?_ rfl
  simp only [Tryd.ntmps78, List.size_toArray, List.length_cons, List.length_nil, Nat.reduceAdd, Nat.reduceSub, Array.replicate_succ, Array.replicate_zero, List.push_toArray, List.append_toArray, List.nil_append, List.cons_append]
  gi_wp2
  refine ⟨trivial, ?_⟩
  refine (callsIn_wide.2 (fromLast_any s _)).mono ?_
  rintro e w' ⟨rfl, rfl⟩
  gi_wp2
  have z1 := fun j hj => zeros_l w 105 j hj
  have z2 := fun j hj => zeros_l (w.alloc (.cells Z8 105)) 105 j hj
  have z3 := box_l ((w.alloc (.cells Z8 105)).alloc (.cells Z8 105)) (.int .i64 8) 3
  have z4 := box_l (((w.alloc (.cells Z8 105)).alloc (.cells Z8 105)).alloc (.cells #[.int .i64 8] 3)) (.string s) 90
  simp only [World.size_alloc] at z2 z3 z4
  have hB0 : Below w.heap.size w ((((w.alloc (.cells Z8 105)).alloc (.cells Z8 105)).alloc (.cells #[.int .i64 8] 3)).alloc (.cells #[.string s] 90)) := ((((Below.refl _ w).alloc (Nat.le_refl _) _).alloc (by simp) _).alloc (by simp; omega) _).alloc (by simp; omega) _
  have hI0 : IS w.heap.size [] ((((w.alloc (.cells Z8 105)).alloc (.cells Z8 105)).alloc (.cells #[.int .i64 8] 3)).alloc (.cells #[.string s] 90)) :=
    ⟨fun j hj => by rw [lst_nil j hj]; exact keep_l _ (keep_l _ (z2 j hj)), keep_l _ z3, fun j hj => keep_l _ (keep_l _ (keep_l _ (z1 j hj)))⟩
  have hsz : ((((w.alloc (.cells Z8 105)).alloc (.cells Z8 105)).alloc (.cells #[.int .i64 8] 3)).alloc (.cells #[.string s] 90)).heap.size = w.heap.size + 1 + 1 + 1 + 1 := by simp
  generalize hW0 : ((((w.alloc (.cells Z8 105)).alloc (.cells Z8 105)).alloc (.cells #[.int .i64 8] 3)).alloc (.cells #[.string s] 90)) = W0 at *
  refine wpIn_rangeFunc_ownF rfl (by omega) (gf := 94) (lb := #[.pointer (some ⟨w.heap.size + 1 + 1 + 1, 0, none⟩)]) rfl trivial (enters_of Tryd.func94 (by kernel_rfl) rfl)
    (iter_stops Fence.wide 4 trivial rfl (by omega) (w.heap.size + 1 + 1 + 1) s hs W0 (by omega) z4.1) KB.t KB.b (Below.refl _ _) (fun _ => rfl)
    (fun pre W => IS w.heap.size pre W ∧ Below w.heap.size w W)
    (fun _ _ _ => False)
    (OwnFrom.and (Own.from (IS.own _) _) (ownFrom_below (Nat.le_refl _) (by omega)))
    (fun _ _ _ _ _ hs _ _ => hs)
    ⟨hI0, hB0⟩
    (fun x => { tmps := #[.func (.func 79) #[.string s] #[], undef, .pointer (some ⟨w.heap.size, 0, none⟩), .int .i64 0, .pointer (some ⟨w.heap.size + 1, 0, none⟩), .pointer (some ⟨w.heap.size + 1 + 1, 0, none⟩), .string x, .func (.func 79) #[.string s] #[], .func (.func 94) #[] #[.pointer (some ⟨w.heap.size + 1 + 1 + 1, 0, none⟩)], .string x, undef, undef, undef, undef, undef, undef, undef], defers := [] }) ?assign ?body ?done ?stop
  case assign =>
    intro l x W K hK
    gi_wp2
    exact hK
  case body =>
    rintro l pre x W ⟨hI, hB⟩ hlen
    obtain ⟨m, hm⟩ : ∃ m, 8 - pre.length = m + 1 := ⟨7 - pre.length, by omega⟩
    have c2 : W.cell? ⟨w.heap.size + 1 + 1, 0, none⟩ = some (.int .i64 ((m : Int) + 1)) := by rw [hI.2.1.1, hm]; rfl
    have f2 := hI.2.1.2
    have c1 := (hI.1 m (by omega)).1
    have f1 := (hI.1 m (by omega)).2
    have hm7 : m < 8 := by omega
    have HI := Lib.hid hI
    have HM := Lib.hid hm
    have HB := Lib.hid hB
    have HL := Lib.hid hlen
    clear hI hm hB hlen
    gi_wp2
    refine ⟨(KeepsOthers.setCell _ _ _).trans (KeepsOthers.setCell _ _ _), ?_, ?_, (HB.out.setCell (p := ⟨w.heap.size + 1 + 1, 0, none⟩) (show w.heap.size ≤ w.heap.size + 1 + 1 by omega) _).setCell (p := ⟨w.heap.size + 1, m, none⟩) (show w.heap.size ≤ w.heap.size + 1 by omega) _⟩
    · intro v hv
      rw [World.cell?_setCell_other, World.cell?_setCell_other]
      · exact hv
      · exact blk_ne (by omega)
      · exact blk_ne (by omega)
    · have c3 : (W.setCell ⟨w.heap.size + 1 + 1, 0, none⟩ (.int .i64 (m : Int))).cell? ⟨w.heap.size + 1, m, none⟩ = some (.string (lst pre m)) := by
        rw [World.cell?_setCell_other (h := blk_ne (by omega))]; exact c1
      refine ⟨fun j hj => ⟨?_, ?_⟩, ⟨?_, ?_⟩, fun j hj => ⟨?_, ?_⟩⟩
      · rw [lst_snoc pre x j (by have := HL.out; omega) hj]
        by_cases e : j = 7 - pre.length
        · rw [if_pos e]
          have : j = m := by have := HM.out; omega
          subst this
          exact World.cell?_setCell_same _ _ _ c3
        · rw [if_neg e, World.cell?_setCell_other, World.cell?_setCell_other]
          · exact (HI.out.1 j hj).1
          · exact blk_ne (by omega)
          · exact off_ne (by have := HM.out; omega)
      · rw [World.frozen?_setCell, World.frozen?_setCell]; exact (HI.out.1 j hj).2
      · rw [World.cell?_setCell_other]
        · rw [World.cell?_setCell_same (h := c2)]
          have := HM.out
          simp; omega
        · exact blk_ne (by omega)
      · rw [World.frozen?_setCell, World.frozen?_setCell]; exact f2
      · rw [World.cell?_setCell_other, World.cell?_setCell_other]
        · exact (HI.out.2.2 j hj).1
        · exact blk_ne (by omega)
        · exact blk_ne (by omega)
      · rw [World.frozen?_setCell, World.frozen?_setCell]; exact (HI.out.2.2 j hj).2
  case done =>
    rintro D ys W hD rfl ⟨hI, hB⟩ hK
    have c0 := (hI.1 0 (by omega)).1
    have c1 := (hI.1 1 (by omega)).1
    have c2 := (hI.1 2 (by omega)).1
    have c3 := (hI.1 3 (by omega)).1
    have c4 := (hI.1 4 (by omega)).1
    have c5 := (hI.1 5 (by omega)).1
    have c6 := (hI.1 6 (by omega)).1
    have c7 := (hI.1 7 (by omega)).1
    have cf := hI.2.1.1
    have d0 := (hI.2.2 0 (by omega)).1
    have g0 := (hI.2.2 0 (by omega)).2
    have d1 := (hI.2.2 1 (by omega)).1
    have g1 := (hI.2.2 1 (by omega)).2
    have d2 := (hI.2.2 2 (by omega)).1
    have g2 := (hI.2.2 2 (by omega)).2
    have d3 := (hI.2.2 3 (by omega)).1
    have g3 := (hI.2.2 3 (by omega)).2
    have d4 := (hI.2.2 4 (by omega)).1
    have g4 := (hI.2.2 4 (by omega)).2
    have d5 := (hI.2.2 5 (by omega)).1
    have g5 := (hI.2.2 5 (by omega)).2
    have d6 := (hI.2.2 6 (by omega)).1
    have g6 := (hI.2.2 6 (by omega)).2
    have d7 := (hI.2.2 7 (by omega)).1
    have g7 := (hI.2.2 7 (by omega)).2
    have HI := Lib.hid hI
    have HB := Lib.hid hB
    have HK := Lib.hid hK
    clear hI hB hK
    gi_wp2
    gi_region
    gi_wp2
    have hset := set8 W w.heap.size (.string (lst (revL s) 0)) (.string (lst (revL s) 1)) (.string (lst (revL s) 2)) (.string (lst (revL s) 3)) (.string (lst (revL s) 4)) (.string (lst (revL s) 5)) (.string (lst (revL s) 6)) (.string (lst (revL s) 7)) _ (fun j hj => (HI.out.2.2 j hj).1)
    obtain ⟨⟨e0, e1, e2, e3, e4, e5, e6, e7⟩, hKO, hBl⟩ := hset
    generalize ((((((((W.setCell ⟨w.heap.size, 0, none⟩ (.string (lst (revL s) 0))).setCell ⟨w.heap.size, 1, none⟩ (.string (lst (revL s) 1))).setCell ⟨w.heap.size, 2, none⟩ (.string (lst (revL s) 2))).setCell ⟨w.heap.size, 3, none⟩ (.string (lst (revL s) 3))).setCell ⟨w.heap.size, 4, none⟩ (.string (lst (revL s) 4))).setCell ⟨w.heap.size, 5, none⟩ (.string (lst (revL s) 5))).setCell ⟨w.heap.size, 6, none⟩ (.string (lst (revL s) 6))).setCell ⟨w.heap.size, 7, none⟩ (.string (lst (revL s) 7))) = W8 at *
    have hK8 : W8.drew.heap[D]? = some (.deferred (some [])) := hKO.same D _ HK.out rfl
    refine ⟨by simp, .inl ⟨_, _, rfl, run_takeDeferred hK8, ?_⟩⟩
    have hg := grownBy_putObj' W8.drew D (.deferred none)
    have q := fun (j : Nat) (v : Value) (hv : W8.cell? ⟨w.heap.size, j, none⟩ = some v) => cell_kept (W := W8.drew) (a := ⟨w.heap.size, j, none⟩) hv hg (fun r e => by cases e; exact ⟨_, hK8, rfl⟩)
    have k0 := q 0 _ e0
    have k1 := q 1 _ e1
    have k2 := q 2 _ e2
    have k3 := q 3 _ e3
    have k4 := q 4 _ e4
    have k5 := q 5 _ e5
    have k6 := q 6 _ e6
    have k7 := q 7 _ e7
    refine ⟨_, ?_, rfl, (((HB.out.trans (hBl _ (Nat.le_refl _))).drew)).trans (belowK_b (w := w) (Nat.le_refl _) W8.drew D _ _ (by omega) hK8 rfl rfl)⟩
    simp [results, Tryd.f78, go_sem, k0, k1, k2, k3, k4, k5, k6, k7]
  case stop =>
    rintro D c pre W _ _ h _
    exact h.elim
end Go.Proofs.YtmnbcjchfbfngaaDoor
