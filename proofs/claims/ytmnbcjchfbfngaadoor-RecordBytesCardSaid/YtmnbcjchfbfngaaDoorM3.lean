/- slices.Values, AppendSeq and Collect at sets; no condition beyond those that each theorem names. -/
import Derived.Test.YtmnbcjchfbfngaaDoorM2
import Derived.RangeFuncNested
import Derived.RangeFuncFrom
import Derived.RangeFuncBound
import Derived.RangeFuncCalls
import Derived.RangeFuncLeaves
import Derived.RangeFuncBox
import Derived.Shelf.Abstract
import Derived.Shelf.RegionOpen
import Derived.OwnWalkIn
import Derived.TacticsInMore
import Derived.LoopNIn
import Derived.LoopIn
namespace Go.Proofs.YtmnbcjchfbfngaaDoor
set_option linter.unusedSimpArgs false
set_option linter.unusedVariables false
open Go.RowKit Go.Shelf
open NmP
attribute [local go_sem] Oper.semAt_some

/-- A set's cells. -/
structure Ss where
  x : ByteArray
  t : Int
  f : Int
  p : Option Addr
  n : Nat
  c : Nat
def Ss.vals (s : Ss) : List Value := [.string s.x, .int .i64 s.t, .int .i64 s.f, .slice s.p s.n s.c]
def rowT (l : List Ss) : List Value := l.flatMap Ss.vals
theorem rowT_cons (t : Ss) (l : List Ss) : rowT (t :: l) = t.vals ++ rowT l := rfl
theorem rowT_append (a b : List Ss) : rowT (a ++ b) = rowT a ++ rowT b := by simp [rowT]
theorem rowT_len (l : List Ss) : (rowT l).length = 4 * l.length := by
  induction l with
  | nil => rfl
  | cons s r ih => rw [rowT_cons, List.length_append, ih]; simp [Ss.vals]; omega
theorem rowT_get : ∀ (l : List Ss) (i f : Nat) (t : Ss), l[i]? = some t → f < 4 → (rowT l)[i * 4 + f]? = t.vals[f]?
  | [], _, _, _, h, _ => by simp at h
  | a :: r, 0, f, t, h, hf => by
    simp at h; subst h
    rw [rowT_cons, List.getElem?_append_left (by simp [Ss.vals]; omega), Nat.zero_mul, Nat.zero_add]
  | a :: r, i + 1, f, t, h, hf => by
    rw [rowT_cons, List.getElem?_append_right (by simp [Ss.vals]; omega), show (i + 1) * 4 + f - a.vals.length = i * 4 + f by simp [Ss.vals]; omega]
    exact rowT_get r i f t (by simpa using h) hf
def RT (b off : Nat) (l : List Ss) (W : World) : Prop := ∀ (m : Nat) (u : Value), (rowT l)[m]? = some u → W.cell? ⟨b, off + m, none⟩ = some u
structure TAt (W : World) (b off : Nat) (t : Ss) : Prop where
  c0 : W.cell? ⟨b, off, none⟩ = some (.string t.x)
  c1 : W.cell? ⟨b, off + 1, none⟩ = some (.int .i64 t.t)
  c2 : W.cell? ⟨b, off + 2, none⟩ = some (.int .i64 t.f)
  c3 : W.cell? ⟨b, off + 3, none⟩ = some (.slice t.p t.n t.c)
theorem RT.at_ {b off : Nat} {l : List Ss} {W : World} (h : RT b off l W) {i : Nat} {t : Ss} (hi : l[i]? = some t) : TAt W b (off + i * 4) t := by
  have k : ∀ (f : Nat) (u : Value), f < 4 → t.vals[f]? = some u → W.cell? ⟨b, off + i * 4 + f, none⟩ = some u := fun f u hf hu => by
    have := h (i * 4 + f) u (by rw [rowT_get l i f t hi hf]; exact hu)
    rw [← Nat.add_assoc] at this; exact this
  exact ⟨k 0 _ (by omega) rfl, k 1 _ (by omega) rfl, k 2 _ (by omega) rfl, k 3 _ (by omega) rfl⟩
theorem RT.keep {b off n : Nat} {l : List Ss} {W W' : World} (h : RT b off l W) (hb : b < n) (hB : Below n W W') : RT b off l W' := fun m u hm =>
  (hB.cell (p := ⟨b, off + m, none⟩) hb).trans (h m u hm)

set_option maxHeartbeats 2000000 in
set_option maxRecDepth 100000 in
/-- The iterator of slices.Values over sets. -/
theorem values1_in (n : Nat) (hn : 1 ≤ n) (l Bx n0 b off cap : Nat) (L : List Ss) (hL : L.length ≤ 1000000) (hb : b < n0) (hBx : Bx < n0) (J Jx : List Ss → World → Prop)
    (W : World) (hnW : n0 ≤ W.heap.size) (hJ : AbidesFrom W.heap.size J)
    (hY : ∀ pre x W, J pre W → pre.length < L.length → YieldAt Fence.wide (n - 1) Tryd.prog l #[.agg #[.string x.x, .int .i64 x.t, .int .i64 x.f, .slice x.p x.n x.c]] W fun e W' =>
      (e = .returned (.bool true) ∧ J (pre ++ [x]) W' ∧ Below n0 W W') ∨ (e = .returned (.bool false) ∧ Jx (pre ++ [x]) W'))
    (hbx : W.cell? ⟨Bx, 0, none⟩ = some (.slice (some ⟨b, off, none⟩) L.length cap)) (hR : RT b off L W) (h0 : J [] W) :
    CallsIn Fence.wide n Tryd.prog 56 #[.func (.yield l) #[] #[], .pointer (some ⟨Bx, 0, none⟩)] W fun e' W' => (∃ v, e' = .returned v) ∧
      ((∃ ys, ys = L ∧ J ys W') ∨ (∃ pre, True ∧ Jx pre W')) := by
  have HY := Lib.hid hY
  have HJA := Lib.hid hJ
  obtain ⟨m, hm⟩ : ∃ m, L.length = m := ⟨_, rfl⟩
  rw [hm] at hbx hL
  have HM := Lib.hid hm
  have HR := Lib.hid hR
  have HNW := Lib.hid hnW
  clear hY hJ hm hR
  refine callsIn_of_wp Tryd.func56 rfl trivial ?_ rfl
  simp only [Tryd.ntmps56, List.size_toArray, List.length_cons, List.length_nil, Nat.reduceAdd, Nat.reduceSub, Array.replicate_succ, Array.replicate_zero, List.push_toArray, List.append_toArray, List.nil_append, List.cons_append]
  gi_wp2
  clear hbx
  gi_loopw [7] (fun s7 wr => ∃ i : Nat, s7 = .int .i64 i ∧ i ≤ m ∧ Hid (Below n0 W wr) ∧ Hid (J (L.take i) wr)) (fun s7 _ => m - (intOf s7).toNat)
  case atStart => exact ⟨0, rfl, Nat.zero_le _, Lib.hid (Below.refl _ _), Lib.hid h0⟩
  case round =>
    obtain ⟨i, rfl, hi, HB, HJ⟩ := hrel
    by_cases hlt : i < m
    · have ia : i < L.length := by rw [HM.out]; exact hlt
      have ga : L[i]? = some L[i] := List.getElem?_eq_getElem ia
      obtain ⟨c0, c1, c2, c3⟩ := (HR.out.keep hb HB.out).at_ ga
      have HT : Hid (L.take (i + 1) = L.take i ++ [L[i]]) := Lib.hid (by rw [List.take_add_one, ga]; rfl)
      have HLen : Hid ((L.take i).length < L.length) := Lib.hid (by rw [List.length_take]; omega)
      generalize L[i] = x at *
      have hi1 : (i : Int) < (m : Int) := by omega
      have hi0 : (0 : Int) ≤ (i : Int) := by omega
      have hJ1 : J (L.take i) (wr.alloc (.cells #[.string x.x, .int .i64 x.t, .int .i64 x.f, .slice x.p x.n x.c] 24)) :=
        HJA.out _ wr _ none HJ.out (World.grownBy_alloc _ _ _) (fun r e => by cases e)
      obtain ⟨fn, tmps, assign, body, hy, hR2⟩ := HY.out _ x _ hJ1 HLen.out
      have HB2 := Lib.hid (HB.out.alloc (Nat.le_trans HNW.out HB.out.size) (.cells #[.string x.x, .int .i64 x.t, .int .i64 x.f, .slice x.p x.n x.c] 24))
      clear ga ia hJ1
      gi_wp2
      refine hR2.mono ?_
      rintro e' W3 (⟨rfl, hJ3, hk3⟩ | ⟨rfl, hJx3⟩)
      · have HJ3 := Lib.hid hJ3
        have HB3 := Lib.hid (HB2.out.trans hk3)
        clear hJ3 hk3
        gi_wp2
        go_roundw
        case rel => exact ⟨i + 1, by go_num, by omega, HB3, Lib.hid (by rw [HT.out]; exact HJ3.out)⟩
        case measure => simp [intOf]; omega
      · have HJ3 := Lib.hid hJx3
        clear hJx3
        gi_wp2
        refine bodyPost_ret (results_none rfl _ _ _) rfl ?_
        exact ⟨⟨_, rfl⟩, .inr ⟨_, trivial, HJ3.out⟩⟩
    · obtain rfl : i = m := by omega
      have hT : L.take i = L := List.take_of_length_le (by rw [HM.out]; exact Nat.le_refl _)
      have HT := Lib.hid hT
      clear hT
      gi_wp2
      go_end0
      exact ⟨⟨_, rfl⟩, .inl ⟨L, rfl, by have := HJ.out; rwa [HT.out] at this⟩⟩
theorem values_stops (n : Nat) (hn : 1 ≤ n) (Bx n0 b off cap : Nat) (L : List Ss) (hL : L.length ≤ 1000000) (hb : b < n0) (hBx : Bx < n0) (w : World) (hnw : n0 ≤ w.heap.size)
    (hbx : w.cell? ⟨Bx, 0, none⟩ = some (.slice (some ⟨b, off, none⟩) L.length cap)) (hR : RT b off L w) :
    SeqStopsK Fence.wide n Tryd.prog 56 #[.pointer (some ⟨Bx, 0, none⟩)] (fun x : Ss => #[.agg #[.string x.x, .int .i64 x.t, .int .i64 x.f, .slice x.p x.n x.c]]) (Below n0) (fun ys => ys = L) (fun _ => True) L.length w := fun l J Jx W hW hJ _ hY h0 =>
  values1_in n hn l Bx n0 b off cap L hL hb hBx J Jx W (Nat.le_trans hnw hW.size) hJ hY ((hW.cell (p := ⟨Bx, 0, none⟩) (Nat.lt_of_lt_of_le hBx hnw)).trans hbx) (hR.keep (Nat.lt_of_lt_of_le hb hnw) hW) h0
end Go.Proofs.YtmnbcjchfbfngaaDoor
