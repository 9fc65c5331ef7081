/- Arguments that are slices of stretches, and what all laws of package span ask of the contracts; no condition beyond those that each theorem names. -/
import Derived.Test.YtojofkjnakiliaaS13
import Derived.Deep.SlicePairs
import Derived.ProofKit
import Derived.OpenShut
import Derived.ShutString
import Derived.ChangeOld
import Derived.Lib.SmallJoins
namespace Go.Proofs.Ytojofkjnakiliaa
open Go.ChangeShapes Go.WideShapes Go.ChangeAt Go.RowKit Go.Joins Go.Shelf
open SpP

theorem open_spans {H : Type} {enc : TypeId × Value → H} {W : World} {base : Nat} {spare : Nat → Bool} {held : Bool} {a : Option Addr} {len cap : Nat} {d : DataW H} {p : List MemPlace} (h : DataW.Trod enc Try.prog W base spare held 22 (.slice a len cap) d p) :
    ∃ l : List Sp, l.length = len ∧ SlS (.slice a len cap) l W ∧ l.length ≤ maxLen := by
  obtain ⟨fuel, hf⟩ := h
  rcases Go.Deep.open_slice_pairs Try.underlying22 Try.underlying34 (by kernel_rfl) rfl rfl (by kernel_rfl) (by kernel_rfl) hf with ⟨hcs, _⟩ | ⟨x, len', cap', m, n, V0, V1, D0, D1, P0, P1, hcs, _, hl, hm, hmm, _, hi⟩
  · simp [Value.cells] at hcs
    obtain ⟨rfl, rfl, rfl⟩ := hcs
    exact ⟨[], rfl, SlS.nil none 0 W, Nat.zero_le _⟩
  · simp [Value.cells] at hcs
    obtain ⟨rfl, rfl, rfl⟩ := hcs
    have hlm : len ≤ m := by rw [hmm]; split <;> omega
    have hv : ∀ i, i < len → W.cell? (x.add (i * 2)) = some (.int .i64 (intOf (V0 i))) ∧ W.cell? (x.add (i * 2 + 1)) = some (.int .i64 (intOf (V1 i))) := fun i hil => by
      obtain ⟨c0, c1, t0, t1⟩ := hi i (by omega)
      obtain ⟨z0, e0, _⟩ := DataW.trod_int Try.underlying3 t0
      obtain ⟨z1, e1, _⟩ := DataW.trod_int Try.underlying3 t1
      simp at e0 e1
      rw [c0, c1, e0, e1]
      exact ⟨rfl, rfl⟩
    refine ⟨(List.range len).map fun i => (intOf (V0 i), intOf (V1 i)), by simp, ?_, by simp; omega⟩
    by_cases h0 : len = 0
    · subst h0
      exact SlS.nil _ _ W
    · obtain ⟨b, off, spot⟩ := x
      have hspot : spot = none := by simpa [Addr.add] using World.cell?_spot (hv 0 (by omega)).1
      subst hspot
      have hb : b < W.heap.size := by
        have := World.block_lt_of_cell? W _ (hv 0 (by omega)).1
        simpa [Addr.add] using this
      refine .inr ⟨b, off, cap, by simp, hb, fun j u hj => ?_⟩
      have hjl : j < len * 2 := by
        have := (List.getElem?_eq_some_iff.1 hj).1
        rw [rowS_len, List.length_map, List.length_range] at this
        omega
      have hg : ((List.range len).map fun i => (intOf (V0 i), intOf (V1 i)))[j / 2]? = some (intOf (V0 (j / 2)), intOf (V1 (j / 2))) := by
        rw [List.getElem?_map, List.getElem?_range (by omega)]; rfl
      have hr := rowS_get _ (j / 2) (j % 2) _ hg (by omega)
      rw [show j / 2 * 2 + j % 2 = j by omega, hj] at hr
      obtain ⟨q0, q1⟩ := hv (j / 2) (by omega)
      rw [Go.WideShapes.add_plain] at q0 q1
      have hm : j % 2 = 0 ∨ j % 2 = 1 := by omega
      rcases hm with hm | hm
      · rw [hm] at hr
        rw [show off + j = off + j / 2 * 2 by omega, q0]
        exact hr.symm
      · rw [hm] at hr
        rw [show off + j = off + (j / 2 * 2 + 1) by omega, q1]
        exact hr.symm

theorem few_sl {v : Value} {l : List Sp} {w : World} (h : SlS v l w) (hn : l.length ≤ maxLen) : Calls Try.prog 10 #[v] w fun e w' => e = .returned (.bool (decide (l.length ≤ 60))) ∧ RowKit.Below w.heap.size w w' := by
  obtain ⟨p, c, rfl⟩ := h.form
  exact few_any p l.length c w hn
theorem len60 {n : Nat} (h : n ≤ 60) : n ≤ maxLen := by unfold maxLen; omega
theorem both_ok {c : Int → Int → Bool} (h0 : c 0 0 = false) {a b : List Sp} (ha : Val a) (hb : Val b) (la : a.length ≤ 1000) (lb : b.length ≤ 1000) : bothR c a b = (swp c a b, 0) ∧ (swp c a b).length ≤ 2 * a.length + 2 * b.length ∧ Val (swp c a b) := by
  have hl := swp_len (c := c) h0 ha.inR hb.inR
  have va := (validB_iff a).2 ⟨by omega, ha⟩
  have vb := (validB_iff b).2 ⟨by omega, hb⟩
  refine ⟨?_, hl, swp_val h0 ha.inR hb.inR⟩
  unfold bothR
  rw [if_pos ⟨va, vb⟩, if_pos (by omega)]
theorem val_ok {l : List Sp} (h : Val l) (hl : l.length ≤ 20000) : validB l = true := (validB_iff l).2 ⟨hl, h⟩
theorem lenS {l : List Sp} {n : Nat} (h : l.length ≤ n) (hn : n ≤ 20000) : l.length ≤ maxLen := by unfold maxLen; omega
end Go.Proofs.Ytojofkjnakiliaa
