/- The contracts of slices.IndexFunc and slices.DeleteFunc at keys that the call owns; no condition beyond those that each theorem names. -/
import Derived.Test.YtkhckgknldiheaaDoorT2
import Derived.Laws.IdiomCopy
import Derived.Deep.Upon
import Derived.Lib.SliceRun
import Derived.Lib.EndianMore
namespace Go.Proofs.YtkhckgknldiheaaDoor
set_option linter.unusedSimpArgs false
set_option linter.unusedVariables false
open Go.RowKit
open NmP SpP

/-! plain -/
def idxP (P : Sp → Bool) : Nat → List Sp → Int
  | _, [] => -1
  | i, k :: r => if P k = true then i else idxP P (i + 1) r
theorem idxP_spec (P : Sp → Bool) : ∀ (l : List Sp) (i : Nat), (idxP P i l = -1 ∧ ∀ k ∈ l, P k = false) ∨ ∃ j, j < l.length ∧ idxP P i l = ((i + j : Nat) : Int) ∧ (∀ k, l[j]? = some k → P k = true) ∧ ∀ k ∈ l.take j, P k = false
  | [], i => .inl ⟨rfl, fun k h => absurd h List.not_mem_nil⟩
  | a :: r, i => by
    by_cases h : P a = true
    · exact .inr ⟨0, by simp, by simp [idxP, h], fun k hk => by simp at hk; subst hk; exact h, fun k hk => by simp at hk⟩
    · rcases idxP_spec P r (i + 1) with ⟨h1, h2⟩ | ⟨j, h1, h2, h3, h4⟩
      · refine .inl ⟨by simp [idxP, h, h1], fun k hk => ?_⟩
        rcases List.mem_cons.1 hk with rfl | hk
        · simpa using h
        · exact h2 k hk
      · refine .inr ⟨j + 1, by simpa using h1, by simp only [idxP]; rw [if_neg h, h2]; congr 1; omega, fun k hk => h3 k (by simpa using hk), fun k hk => ?_⟩
        rw [List.take_succ_cons] at hk
        rcases List.mem_cons.1 hk with rfl | hk
        · simpa using h
        · exact h4 k hk
theorem filter_all {P : Sp → Bool} {l : List Sp} (h : ∀ k ∈ l, P k = false) : l.filter (fun k => !P k) = l := by
  rw [List.filter_eq_self]
  intro k hk
  rw [h k hk]; rfl
theorem split_atK {l : List Sp} {i : Nat} {d : Sp} (h : l[i]? = some d) (e : Sp) : l = l.take i ++ d :: l.drop (i + 1) ∧ l.set i e = l.take i ++ e :: l.drop (i + 1) := by
  have hi := (List.getElem?_eq_some_iff.1 h).1
  have hd : l[i] = d := (List.getElem?_eq_some_iff.1 h).2
  refine ⟨?_, ?_⟩
  · rw [← hd, ← List.drop_eq_getElem_cons hi, List.take_append_drop]
  · rw [List.set_eq_take_append_cons_drop, if_pos hi]
theorem rowS_setF {l : List Sp} {i : Nat} {d d' : Sp} {f : Nat} {u : Value} (hf : f < 2) (h : l[i]? = some d) (hu : valsS d' = (valsS d).set f u) : rowS (l.set i d') = (rowS l).set (i * 2 + f) u := by
  obtain ⟨h1, h2⟩ := split_atK h d'
  have hi := (List.getElem?_eq_some_iff.1 h).1
  have hl : (rowS (l.take i)).length = i * 2 := by rw [rowS_len, List.length_take]; omega
  rw [h2]
  conv => rhs; rw [h1]
  rw [rowS_append, rowS_append, rowS_cons, rowS_cons, List.set_append_right _ _ (by omega), hl, show i * 2 + f - i * 2 = f by omega, List.set_append_left _ _ (by simp [valsS]; omega), hu]
/-- A block that holds keys, and may hold more. -/
def OwnKG (W : World) (g : Nat) (l : List Sp) : Prop := ∃ cur, W.heap[g]? = some (Obj.cells cur 44 (0, 0)) ∧ cur.toList.take (l.length * 2) = rowS l
theorem OwnKG.lt {W : World} {g : Nat} {l : List Sp} (h : OwnKG W g l) : g < W.heap.size := by
  obtain ⟨cur, hg, _⟩ := h
  exact (Array.getElem?_eq_some_iff.1 hg).1
theorem OwnKG.keep {W W' : World} {g : Nat} {l : List Sp} (h : OwnKG W g l) (hb : W'.heap[g]? = W.heap[g]?) : OwnKG W' g l := by
  obtain ⟨cur, hg, ht⟩ := h
  exact ⟨cur, hb.trans hg, ht⟩
theorem OwnKG.cell {W : World} {g : Nat} {l : List Sp} (h : OwnKG W g l) {i : Nat} {d : Sp} (hd : l[i]? = some d) :
    W.cell? ⟨g, i * 2, none⟩ = some (.int .i64 d.1) ∧ W.cell? ⟨g, i * 2 + 1, none⟩ = some (.int .i64 d.2) ∧ ∀ j, W.frozen? ⟨g, j, none⟩ = false := by
  obtain ⟨cur, hg, ht⟩ := h
  have hi := (List.getElem?_eq_some_iff.1 hd).1
  have k : ∀ f u, f < 2 → (valsS d)[f]? = some u → W.cell? ⟨g, i * 2 + f, none⟩ = some u := fun f u hf hu => by
    have h1 := rowS_get l i f d hd hf
    rw [← ht, List.getElem?_take, if_pos (by omega), hu] at h1
    refine cell_of_blk hg _ u ?_
    rw [← Array.getElem?_toList]
    exact h1
  exact ⟨k 0 _ (by omega) rfl, k 1 _ (by omega) rfl, fun j => frozen_of_blk hg j⟩
theorem OwnKG.set {W : World} {g : Nat} {l : List Sp} (h : OwnKG W g l) {i f : Nat} {d d' : Sp} {u : Value} (hd : l[i]? = some d) (hf : f < 2) (hu : valsS d' = (valsS d).set f u) : OwnKG (W.setCell ⟨g, i * 2 + f, none⟩ u) g (l.set i d') := by
  obtain ⟨cur, hg, ht⟩ := h
  have hi := (List.getElem?_eq_some_iff.1 hd).1
  have h2 := heap_setCell_same W g (i * 2 + f) _ _ u hg
  refine ⟨_, h2, ?_⟩
  rw [List.length_set, rowS_setF hf hd hu, ← ht]
  simp only [Array.set!_eq_setIfInBounds, Array.toList_setIfInBounds]
  rw [List.take_set]
theorem OwnKG.put {W : World} {g : Nat} {l : List Sp} (h : OwnKG W g l) {i : Nat} {d : Sp} (hd : l[i]? = some d) (a b : Int) : OwnKG ((W.setCell ⟨g, i * 2, none⟩ (.int .i64 a)).setCell ⟨g, i * 2 + 1, none⟩ (.int .i64 b)) g (l.set i (a, b)) := by
  have hi := (List.getElem?_eq_some_iff.1 hd).1
  have h1 := h.set (f := 0) (d' := (a, d.2)) (u := .int .i64 a) hd (by omega) rfl
  have h2 := h1.set (i := i) (f := 1) (d := (a, d.2)) (d' := (a, b)) (u := .int .i64 b) (by rw [List.getElem?_set_self hi]) (by omega) rfl
  rw [List.set_set] at h2
  exact h2
theorem OwnKG.sl {W : World} {g : Nat} {l : List Sp} (h : OwnKG W g l) (n cap : Nat) (hn : l.length = n) : SlS (.slice (some ⟨g, 0, none⟩) n cap) l W := by
  obtain ⟨cur, hg, ht⟩ := h
  subst hn
  refine .inr ⟨g, 0, cap, rfl, (Array.getElem?_eq_some_iff.1 hg).1, fun m u hm => ?_⟩
  refine cell_of_blk hg (0 + m) u ?_
  have hml : m < l.length * 2 := by
    have := (List.getElem?_eq_some_iff.1 hm).1
    rw [rowS_len] at this
    omega
  rw [Nat.zero_add, ← Array.getElem?_toList]
  rw [← ht, List.getElem?_take, if_pos hml] at hm
  exact hm
theorem OwnKG.sized {W : World} {g : Nat} {l : List Sp} (h : OwnKG W g l) (j : Nat) (hj : j < l.length * 2) : (W.cell? ⟨g, j, none⟩).isSome = true ∧ W.frozen? ⟨g, j, none⟩ = false := by
  obtain ⟨cur, hg, ht⟩ := h
  refine ⟨?_, frozen_of_blk hg j⟩
  have h1 : j < cur.size := by
    have := congrArg List.length ht
    simp only [rowS_len, List.length_take, Array.length_toList] at this
    omega
  rw [cell_of_blk hg j cur[j] (Array.getElem?_eq_getElem h1)]
  rfl
theorem zeroK (w : World) : (zeroValue 44).run Tryd.prog w = .ok zKey w := by kernel_rfl
theorem run_clear_keys (w : World) (ty : TypeId) (b o n c : Nat) (hn : 0 < n) (hc : ∀ j, j < n * 2 → (w.cell? ⟨b, o + j, none⟩).isSome = true) (hf : ∀ j, j < n * 2 → w.frozen? ⟨b, o + j, none⟩ = false) :
    (Builtin.clear_ #[26] ty #[.slice (some ⟨b, o, none⟩) n c]).run Tryd.prog w = .ok (.tuple #[]) (w.setCells b o (List.replicate (n * 2) (.int .i64 0))) := by
  have hzc : (Builtin.zeroCells zKey.cells n).toList = List.replicate (n * 2) (.int .i64 0) := by
    apply List.ext_getElem
    · simp [Builtin.zeroCells, zKey, Value.cells]
    · intro i h1 h2
      simp only [Builtin.zeroCells, zKey, Value.cells, Array.toList_map, Array.toList_range, List.getElem_map, List.getElem_range, List.getElem_replicate]
      have hm : i % 2 = 0 ∨ i % 2 = 1 := by omega
      rcases hm with hm | hm <;> simp [hm]
  have hst := run_storeCells_cells (P := Tryd.prog) b o (List.replicate (n * 2) (.int .i64 0)) 0 w (by simpa using hc) (by simpa using hf) (by intro v hv'; rw [List.eq_of_mem_replicate hv']; rfl)
  simp only [Nat.add_zero] at hst
  obtain ⟨m, rfl⟩ : ∃ m, n = m + 1 := ⟨n - 1, by omega⟩
  unfold zKey at hzc
  simp [Builtin.clear_, run_underlying Tryd.underlying26, zeroK, hzc, hst]

set_option maxHeartbeats 2000000 in
set_option maxRecDepth 100000 in
theorem indexP_any (B : Nat) (v : Value) (l : List Sp) (P : Sp → Bool) (w : World) (hv : SlS v l w) (hn : l.length ≤ maxLen)
    (hc : ∀ k W, Below w.heap.size w W → Calls Tryd.prog 42 #[.agg #[.int .i64 k.1, .int .i64 k.2], .pointer (some ⟨B, 0, none⟩)] W fun e w' => e = .returned (.bool (P k)) ∧ Below W.heap.size W w') :
    Calls Tryd.prog 74 #[v, .func (.func 42) #[] #[.pointer (some ⟨B, 0, none⟩)]] w (IdxTo (idxP P 0 l) w) := by
  obtain ⟨p, c, rfl⟩ := hv.form
  obtain ⟨m, hm⟩ : ∃ m, l.length = m := ⟨_, rfl⟩
  rw [hm] at hv hn ⊢
  unfold maxLen at hn
  have HL := Lib.hid hm
  have HV := Lib.hid hv
  have HC := Lib.hid hc
  obtain ⟨R, hR⟩ : ∃ R, idxP P 0 l = R := ⟨_, rfl⟩
  rw [hR]
  have HR := Lib.hid hR
  clear hv hm hR hc
  go_enter Tryd.func74, Tryd.ntmps74
  go_wp2
  go_loopw [8] (fun s8 wr => ∃ i : Nat, i ≤ m ∧ s8 = .int .i64 i ∧ Hid (idxP P i (l.drop i) = R) ∧ Hid (Below w.heap.size w wr)) (fun s8 _ => m - (intOf s8).toNat)
  case atStart => exact ⟨0, Nat.zero_le _, rfl, HR, Lib.hid (Below.refl _ _)⟩
  case round =>
    obtain ⟨i, hi, rfl, H1, HW⟩ := hrel
    by_cases hlt : i < m
    · have ia : i < l.length := by rw [HL.out]; exact hlt
      have ga : l[i]? = some l[i] := List.getElem?_eq_getElem ia
      have hv1 := HV.out.keep HW.out
      obtain ⟨b, off, rfl, hb, hR1⟩ := hv1.at_ (by omega)
      obtain ⟨a0, a1⟩ := hR1.at_ ga
      have h1 := H1.out
      rw [drop_of ga] at h1
      have HC1 := Lib.hid (HC.out l[i] wr HW.out)
      generalize l[i] = kk at *
      obtain ⟨x, y⟩ := kk
      simp only at a0 a1 HC1
      have hi1 : (i : Int) < (m : Int) := by omega
      have h2 : (if P (x, y) = true then (i : Int) else idxP P (i + 1) (l.drop (i + 1))) = R := h1
      clear h1 ga hR1 hv1 H1 HR
      generalize P (x, y) = pb at *
      cases pb
      · rw [if_neg (by simp)] at h2
        have H2 := Lib.hid h2
        clear h2
        go_wp2_with (go_at_call 42; (with_reducible refine (HC1.out).mono ?_); rintro e w1 ⟨rfl, hb⟩; have HW1 := Lib.hid (HW.out.trans (hb.mono HW.out.size)); clear hb)
        go_roundw
        case rel => exact ⟨i + 1, hlt, by go_num, H2, HW1⟩
        case measure =>
          simp [intOf]
          omega
      · rw [if_pos rfl] at h2
        subst h2
        go_wp2_with (go_at_call 42; (with_reducible refine (HC1.out).mono ?_); rintro e w1 ⟨rfl, hb⟩; have HW1 := Lib.hid (HW.out.trans (hb.mono HW.out.size)); clear hb)
        go_ret
        exact ⟨rfl, HW1.out⟩
    · obtain rfl : i = m := by omega
      have h1 := H1.out
      rw [List.drop_eq_nil_of_le (by have := HL.out; omega)] at h1
      have h2 : (-1 : Int) = R := h1
      subst h2
      clear h1
      go_wp2
      go_ret
      exact ⟨rfl, HW.out⟩
end Go.Proofs.YtkhckgknldiheaaDoor
