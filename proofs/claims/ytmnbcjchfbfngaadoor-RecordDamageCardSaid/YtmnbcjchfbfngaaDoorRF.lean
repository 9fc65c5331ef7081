/- Data that a call owns, written anew; no condition beyond those that each theorem names. -/
import Derived.Test.YtmnbcjchfbfngaaDoorRE
namespace Go.Proofs.YtmnbcjchfbfngaaDoor
set_option linter.unusedSimpArgs false
set_option linter.unusedVariables false
open Go.RowKit
open NmP

theorem split_at {l : List Dt} {i : Nat} {d : Dt} (h : l[i]? = some d) (e : Dt) : l = l.take i ++ d :: l.drop (i + 1) ∧ l.set i e = l.take i ++ e :: l.drop (i + 1) := by
  have hi := (List.getElem?_eq_some_iff.1 h).1
  have hd : l[i] = d := (List.getElem?_eq_some_iff.1 h).2
  refine ⟨?_, ?_⟩
  · rw [← hd, ← List.drop_eq_getElem_cons hi, List.take_append_drop]
  · rw [List.set_eq_take_append_cons_drop, if_pos hi]
theorem rowD_setF {l : List Dt} {i : Nat} {d d' : Dt} {f : Nat} {u : Value} (hf : f < 3) (h : l[i]? = some d) (hu : valsD d' = (valsD d).set f u) : rowD (l.set i d') = (rowD l).set (i * 3 + f) u := by
  obtain ⟨h1, h2⟩ := split_at h d'
  have hi := (List.getElem?_eq_some_iff.1 h).1
  have hl : (rowD (l.take i)).length = i * 3 := by rw [rowD_len, List.length_take]; omega
  rw [h2]
  conv => rhs; rw [h1]
  rw [rowD_append, rowD_append, rowD_cons, rowD_cons, List.set_append_right _ _ (by omega), hl, show i * 3 + f - i * 3 = f by omega, List.set_append_left _ _ (by simp [valsD]; omega), hu]
/-- A block that holds data, and may hold more. -/
def OwnG (W : World) (g : Nat) (l : List Dt) : Prop := ∃ cur, W.heap[g]? = some (Obj.cells cur 48 (0, 0)) ∧ cur.toList.take (l.length * 3) = rowD l
theorem OwnG.cell {W : World} {g : Nat} {l : List Dt} (h : OwnG W g l) {i : Nat} {d : Dt} (hd : l[i]? = some d) :
    W.cell? ⟨g, i * 3, none⟩ = some (.string d.1) ∧ W.cell? ⟨g, i * 3 + 1, none⟩ = some (.int .i64 d.2.1) ∧ W.cell? ⟨g, i * 3 + 2, none⟩ = some (.int .i64 d.2.2) ∧ ∀ j, W.frozen? ⟨g, j, none⟩ = false := by
  obtain ⟨cur, hg, ht⟩ := h
  have hi := (List.getElem?_eq_some_iff.1 hd).1
  have k : ∀ f u, f < 3 → (valsD d)[f]? = some u → W.cell? ⟨g, i * 3 + f, none⟩ = some u := fun f u hf hu => by
    have h1 := rowD_get l i f d hd hf
    rw [← ht, List.getElem?_take, if_pos (by omega), hu] at h1
    refine cell_of_blk hg _ u ?_
    rw [← Array.getElem?_toList]
    exact h1
  exact ⟨k 0 _ (by omega) rfl, k 1 _ (by omega) rfl, k 2 _ (by omega) rfl, fun j => frozen_of_blk hg j⟩
theorem OwnG.set {W : World} {g : Nat} {l : List Dt} (h : OwnG W g l) {i f : Nat} {d d' : Dt} {u : Value} (hd : l[i]? = some d) (hf : f < 3) (hu : valsD d' = (valsD d).set f u) : OwnG (W.setCell ⟨g, i * 3 + f, none⟩ u) g (l.set i d') := by
  obtain ⟨cur, hg, ht⟩ := h
  have hi := (List.getElem?_eq_some_iff.1 hd).1
  have h2 := heap_setCell_same W g (i * 3 + f) _ _ u hg
  refine ⟨_, h2, ?_⟩
  rw [List.length_set, rowD_setF hf hd hu, ← ht]
  simp only [Array.set!_eq_setIfInBounds, Array.toList_setIfInBounds]
  rw [List.take_set]
theorem OwnG.sl {W : World} {g : Nat} {l : List Dt} (h : OwnG W g l) (n cap : Nat) (hn : l.length = n) : SlD (.slice (some ⟨g, 0, none⟩) n cap) l W := by
  obtain ⟨cur, hg, ht⟩ := h
  subst hn
  refine .inr ⟨g, 0, cap, rfl, (Array.getElem?_eq_some_iff.1 hg).1, fun m u hm => ?_⟩
  refine cell_of_blk hg (0 + m) u ?_
  have hml : m < l.length * 3 := by
    have := (List.getElem?_eq_some_iff.1 hm).1
    rw [rowD_len] at this
    omega
  rw [Nat.zero_add, ← Array.getElem?_toList]
  rw [← ht, List.getElem?_take, if_pos hml] at hm
  exact hm
theorem OwnG.put3 {W : World} {g : Nat} {l : List Dt} (h : OwnG W g l) {i : Nat} {d : Dt} (hd : l[i]? = some d) (e : Dt) :
    OwnG (((W.setCell ⟨g, i * 3, none⟩ (.string e.1)).setCell ⟨g, i * 3 + 1, none⟩ (.int .i64 e.2.1)).setCell ⟨g, i * 3 + 2, none⟩ (.int .i64 e.2.2)) g (l.set i e) := by
  have hi := (List.getElem?_eq_some_iff.1 hd).1
  have h1 := h.set (f := 0) (d' := (e.1, d.2.1, d.2.2)) (u := .string e.1) hd (by omega) rfl
  have h2 := h1.set (i := i) (f := 1) (d := (e.1, d.2.1, d.2.2)) (d' := (e.1, e.2.1, d.2.2)) (u := .int .i64 e.2.1) (by rw [List.getElem?_set_self hi]) (by omega) rfl
  have h3 := h2.set (i := i) (f := 2) (d := (e.1, e.2.1, d.2.2)) (d' := e) (u := .int .i64 e.2.2) (by rw [List.getElem?_set_self (by rw [List.length_set]; exact hi)]) (by omega) rfl
  rw [List.set_set, List.set_set] at h3
  exact h3
theorem swapped {l : List Dt} {i : Nat} {p q : Dt} (hp : l[i]? = some p) (hq : l[i + 1]? = some q) : ∃ pre post, l = pre ++ p :: q :: post ∧ (l.set i q).set (i + 1) p = pre ++ q :: p :: post := by
  obtain ⟨h1, h2⟩ := split_at hp q
  have hi := (List.getElem?_eq_some_iff.1 hp).1
  have hj := (List.getElem?_eq_some_iff.1 hq).1
  have hqe : l[i + 1] = q := (List.getElem?_eq_some_iff.1 hq).2
  have h3 : l.drop (i + 1) = q :: l.drop (i + 1 + 1) := by rw [List.drop_eq_getElem_cons hj, hqe]
  refine ⟨l.take i, l.drop (i + 1 + 1), by rw [← h3]; exact h1, ?_⟩
  rw [h2, h3]
  have hl : (l.take i).length = i := by rw [List.length_take]; omega
  rw [List.set_append_right _ _ (by omega), hl, show i + 1 - i = 1 by omega]
  rfl
theorem last_of {l : List Dt} {d : Dt} (h1 : 1 ≤ l.length) (hd : l[l.length - 1]? = some d) : l = l.take (l.length - 1) ++ [d] := by
  have hi := (List.getElem?_eq_some_iff.1 hd).1
  have he : l[l.length - 1] = d := (List.getElem?_eq_some_iff.1 hd).2
  have h := (split_at hd d).1
  rw [show l.length - 1 + 1 = l.length by omega, List.drop_length] at h
  exact h
/-- A datum written over. -/
def put3 (W : World) (g i : Nat) (e : Dt) : World := ((W.setCell ⟨g, i * 3, none⟩ (.string e.1)).setCell ⟨g, i * 3 + 1, none⟩ (.int .i64 e.2.1)).setCell ⟨g, i * 3 + 2, none⟩ (.int .i64 e.2.2)
theorem put3_other (W : World) {g o : Nat} (h : o ≠ g) (i : Nat) (e : Dt) : (put3 W g i e).heap[o]? = W.heap[o]? :=
  ((heap_setCell_other _ ⟨g, i * 3 + 2, none⟩ o _ h).trans (heap_setCell_other _ ⟨g, i * 3 + 1, none⟩ o _ h)).trans (heap_setCell_other W ⟨g, i * 3, none⟩ o _ h)
theorem put3_below {n : Nat} {w W : World} (h : Below n w W) {g : Nat} (hg : n ≤ g) (i : Nat) (e : Dt) : Below n w (put3 W g i e) :=
  ((h.setCell (p := ⟨g, i * 3, none⟩) hg _).setCell (p := ⟨g, i * 3 + 1, none⟩) hg _).setCell (p := ⟨g, i * 3 + 2, none⟩) hg _
end Go.Proofs.YtmnbcjchfbfngaaDoor
