/- Plain facts for SignDamage of layer 8: a lifetime or a number changed in one byte, and a signature's sum; no condition beyond those that each theorem names. -/
import Derived.Test.YtpkjpogkimjpoaaGreatDoorD2
import Derived.Test.YtpkjpogkimjpoaaGreatDoorDI
import Derived.Laws.BitsAllLaws
import Derived.Laws.AppendOwn
namespace Go.Proofs.YtpkjpogkimjpoaaGreatDoor
set_option linter.unusedSimpArgs false
set_option linter.unusedVariables false
open Go.RowKit
open NmP

theorem bits_xor_i64 (a b : Nat) (ha : a < 9223372036854775808) (hb : b < 9223372036854775808) : bits .xor .i64 (a : Int) (b : Int) = ((a ^^^ b : Nat) : Int) := by
  have hx : a ^^^ b < 2 ^ 63 := Nat.xor_lt_two_pow (by omega) (by omega)
  have h1 : (BitVec.ofInt 64 (a : Int)).toNat = a := by
    rw [BitVec.ofInt_natCast, BitVec.toNat_ofNat]; exact Nat.mod_eq_of_lt (by omega)
  have h2 : (BitVec.ofInt 64 (b : Int)).toNat = b := by
    rw [BitVec.ofInt_natCast, BitVec.toNat_ofNat]; exact Nat.mod_eq_of_lt (by omega)
  show IntKind.i64.wrap ((BitVec.ofInt 64 (a : Int) ^^^ BitVec.ofInt 64 (b : Int)).toNat : Int) = _
  rw [BitVec.toNat_xor, h1, h2]
  exact IntWalk.i64_in _ (by omega)
/-- The numbers of a valid set's first fields. -/
theorem num_cast {s : St} (h : s.ok = true) {i : Nat} {d : Dt} (hd : s.l[i]? = some d) : ∃ k : Nat, d.2.1 = (k : Int) ∧ k ≤ 1000000 := by
  have g := setB_facts h
  have := okD_facts (g.2.2.2.2.2.2.2 d (List.mem_of_getElem? hd))
  exact ⟨d.2.1.toNat, by omega, by omega⟩
theorem life_cast {s : St} (h : s.ok = true) : ∃ k : Nat, s.life = (k : Int) ∧ k ≤ 100000 := by
  have g := setB_facts h
  exact ⟨s.life.toNat, by omega, by omega⟩
theorem texts_small {s : St} (h : s.ok = true) : s.l.length < 256 ∧ ∀ d ∈ s.l, d.1.size < 256 := by
  have g := setB_facts h
  exact ⟨by omega, fun d hd => by have := (okD_facts (g.2.2.2.2.2.2.2 d hd)).1; omega⟩
/-- The datum i with another first number. -/
def chg (l : List Dt) (i : Nat) (N : Int) : List Dt := match l[i]? with
  | some d => l.set i (d.1, N, d.2.2)
  | none => l
theorem chg_some {l : List Dt} {i : Nat} {d : Dt} (h : l[i]? = some d) (N : Int) : chg l i N = l.set i (d.1, N, d.2.2) := by
  unfold chg
  rw [h]
theorem split_at {l : List Dt} {i : Nat} {d : Dt} (h : l[i]? = some d) (e : Dt) : l = l.take i ++ d :: l.drop (i + 1) ∧ l.set i e = l.take i ++ e :: l.drop (i + 1) := by
  have hi := (List.getElem?_eq_some_iff.1 h).1
  have hd : l[i] = d := (List.getElem?_eq_some_iff.1 h).2
  refine ⟨?_, ?_⟩
  · rw [← hd, ← List.drop_eq_getElem_cons hi, List.take_append_drop]
  · rw [List.set_eq_take_append_cons_drop, if_pos hi]
theorem rowD_set (l : List Dt) (i : Nat) (d : Dt) (N : Int) (h : l[i]? = some d) : rowD (l.set i (d.1, N, d.2.2)) = (rowD l).set (i * 3 + 1) (.int .i64 N) := by
  obtain ⟨h1, h2⟩ := split_at h (d.1, N, d.2.2)
  have hi := (List.getElem?_eq_some_iff.1 h).1
  have hl : (rowD (l.take i)).length = i * 3 := by rw [rowD_len, List.length_take]; omega
  rw [h2]
  conv => rhs; rw [h1]
  rw [rowD_append, rowD_append, rowD_cons, rowD_cons, List.set_append_right _ _ (by omega), hl, show i * 3 + 1 - i * 3 = 1 by omega]
  rfl
/-- The sum of a set with another lifetime is another one. -/
theorem sum_life {s : St} {z : ByteArray} {n a f u : Int} (h : s.ok = true) (hz : z.size < 256) {k c : Nat} (hk : s.life = (k : Int)) (hc : c < 256) (h0 : c ≠ 0) :
    sigSum ⟨s.x, s.typ, ((k ^^^ c : Nat) : Int), s.v, s.l⟩ z n a f u ≠ sigSum s z n a f u := fun e => by
  obtain ⟨t1, t2⟩ := texts_small h
  have e2 : sumN (setC s.x s.typ.toNat (k ^^^ c) s.l) z [n.toNat, a.toNat, f.toNat, u.toNat] = sumN (setC s.x s.typ.toNat k s.l) z [n.toNat, a.toNat, f.toNat, u.toNat] := by
    have e3 : ((sumN (setC s.x s.typ.toNat (((k ^^^ c : Nat) : Int)).toNat s.l) z [n.toNat, a.toNat, f.toNat, u.toNat] : Nat) : Int) = ((sumN (setC s.x s.typ.toNat s.life.toNat s.l) z [n.toNat, a.toNat, f.toNat, u.toNat] : Nat) : Int) := e
    rw [hk, Int.toNat_natCast, Int.toNat_natCast] at e3
    exact Int.ofNat.inj e3
  exact dig_life t1 t2 hc h0 (sumN_inj hz e2).symm
theorem sum_datum {s : St} {z : ByteArray} {n a f u : Int} (h : s.ok = true) (hz : z.size < 256) {i : Nat} {d : Dt} (hd : s.l[i]? = some d) {k c : Nat} (hk : d.2.1 = (k : Int)) (hc : c < 256) (h0 : c ≠ 0) (v : Value) :
    sigSum ⟨s.x, s.typ, s.life, v, chg s.l i ((k ^^^ c : Nat) : Int)⟩ z n a f u ≠ sigSum s z n a f u := fun e => by
  obtain ⟨t1, t2⟩ := texts_small h
  rw [chg_some hd] at e
  obtain ⟨h1, h2⟩ := split_at hd (d.1, ((k ^^^ c : Nat) : Int), d.2.2)
  have e3 : ((sumN (setC s.x s.typ.toNat s.life.toNat (s.l.set i (d.1, ((k ^^^ c : Nat) : Int), d.2.2))) z [n.toNat, a.toNat, f.toNat, u.toNat] : Nat) : Int) = ((sumN (setC s.x s.typ.toNat s.life.toNat s.l) z [n.toNat, a.toNat, f.toNat, u.toNat] : Nat) : Int) := e
  have e4 := sumN_inj hz (Int.ofNat.inj e3)
  have key := dig_datum (x := s.x) (t := s.typ.toNat) (lf := s.life.toNat) (pre := s.l.take i) (post := s.l.drop (i + 1)) (s := d.1) (n := k) (m := d.2.2) (fun e he => t2 e (List.mem_of_mem_drop he)) hc h0
  rw [← h2, ← hk] at key
  have h3 : s.l.take i ++ (d.1, d.2.1, d.2.2) :: s.l.drop (i + 1) = s.l := h1.symm
  rw [h3] at key
  exact key e4.symm
/-- Data that the call owns, laid open. -/
theorem own_data {W : World} {B : Nat} {v : Value} {l : List Dt} (h : W.ownsRow B 38 3 v l.length (rowD l)) (h1 : 1 ≤ l.length) :
    ∃ g cap cur, v = .slice (some ⟨g, 0, none⟩) l.length cap ∧ B ≤ g ∧ l.length ≤ cap ∧ W.heap[g]? = some (Obj.cells cur 38 (0, 0)) ∧ cur.toList.take (l.length * 3) = rowD l := by
  rcases h.2 with ⟨_, h0⟩ | ⟨g, cap, cur, rfl, hb, hg, hn, _, _, ht⟩
  · omega
  · exact ⟨g, cap, cur, rfl, hb, hn, hg, ht⟩
theorem own_num {W : World} {g : Nat} {cur : Array Value} {l : List Dt} {i : Nat} {d : Dt} (hg : W.heap[g]? = some (Obj.cells cur 38 (0, 0))) (ht : cur.toList.take (l.length * 3) = rowD l) (hd : l[i]? = some d) :
    cur[i * 3 + 1]? = some (.int .i64 d.2.1) := by
  have h1 := rowD_get l i 1 d hd (by omega)
  have hi := (List.getElem?_eq_some_iff.1 hd).1
  rw [← ht, List.getElem?_take, if_pos (by omega)] at h1
  rw [← Array.getElem?_toList, h1]
  rfl
theorem data_changed {W : World} {g cap : Nat} {cur : Array Value} {l : List Dt} {i : Nat} {d : Dt} (hg : W.heap[g]? = some (Obj.cells cur 38 (0, 0))) (ht : cur.toList.take (l.length * 3) = rowD l) (hd : l[i]? = some d) (N : Int) :
    SlD (.slice (some ⟨g, 0, none⟩) l.length cap) (chg l i N) (W.setCell ⟨g, i * 3 + 1, none⟩ (.int .i64 N)) := by
  have hi := (List.getElem?_eq_some_iff.1 hd).1
  have h2 := heap_setCell_same W g (i * 3 + 1) _ _ (.int .i64 N) hg
  have hn := own_num hg ht hd
  have hlt : i * 3 + 1 < cur.size := (Array.getElem?_eq_some_iff.1 hn).1
  refine .inr ⟨g, 0, cap, ?_, (Array.getElem?_eq_some_iff.1 h2).1, fun m u hm => ?_⟩
  · rw [chg_some hd, List.length_set]
  · rw [chg_some hd, rowD_set l i d N hd] at hm
    have hml : m < l.length * 3 := by
      have := (List.getElem?_eq_some_iff.1 hm).1
      rw [List.length_set, rowD_len] at this
      omega
    refine cell_of_blk h2 (0 + m) u ?_
    rw [Nat.zero_add]
    rw [← ht] at hm
    by_cases e : m = i * 3 + 1
    · subst e
      rw [List.getElem?_set_self (by rw [ht, rowD_len]; omega)] at hm
      rw [← hm]
      simp [hlt]
    · rw [List.getElem?_set_ne (by omega), List.getElem?_take, if_pos hml] at hm
      rw [← hm]
      simp [Array.set!_eq_setIfInBounds, Ne.symm e]
/-- Whose sum is another one is not accepted. -/
theorem check_sum {s : St} {g : Sg} {n a : Int} (h : sigSum s g.z n a g.f g.u ≠ g.m) : checkB s g n a = false := by
  unfold checkB
  rw [decide_eq_false h, Bool.and_false, Bool.and_false]
end Go.Proofs.YtpkjpogkimjpoaaGreatDoor
