/- What the head of layer 2's laws needs of each function at its literals; no condition beyond those that each theorem names. -/
import Derived.Test.YtmnbcjchfbfngaaDoorM8
import Derived.Test.YtmnbcjchfbfngaaDoorQ3
namespace Go.Proofs.YtmnbcjchfbfngaaDoor
set_option linter.unusedSimpArgs false
set_option linter.unusedVariables false
open Go.RowKit
open NmP

theorem OwnBuf.slb {B n : Nat} {v : Value} {bs : Bs} {W0 w : World} (h : Lib.OwnBuf B 5 v n (bs.map (fun b => Value.int .u8 (b.toNat : Int))) W0 w) : SlB w.heap.size v bs w := by
  have hn := own_len h
  subst hn
  rw [List.length_map] at h
  rcases h.1.2 with ⟨rfl, h2⟩ | ⟨g, cap, cur, fz, rfl, h2, h3, h8, h4, h5, h6, h7⟩
  · exact .inl ⟨List.length_eq_zero_iff.1 h2, none, 0, rfl⟩
  · have hg := (Array.getElem?_eq_some_iff.1 h3).1
    refine .inr ⟨g, 0, cap, rfl, by omega, hg, fun j u hj => ?_⟩
    rw [Nat.zero_add]
    have hk : (bs.map (fun b => Value.int .u8 (b.toNat : Int)))[j]? = some (.int .u8 (u.toNat : Int)) := by rw [List.getElem?_map, hj]; rfl
    rw [← h7, List.getElem?_take] at hk
    split at hk
    · have h9 : cur[j]? = some (.int .u8 (u.toNat : Int)) := by simpa using hk
      simp [World.cell?, h3, h9]
    · cases hk

def bsA : Bs := [1, 120, 0, 0, 0, 0, 0, 0, 0, 1, 0, 0, 0, 0, 0, 0, 0, 5, 1, 0, 0, 0, 0, 0, 0, 0, 0, 7, 0, 0, 0, 0, 0, 0, 0, 0]
theorem bsA_set : setC sX (1 : Int).toNat (5 : Int).toNat [ad1 7] = bsA.map (fun b => Value.int .u8 (b.toNat : Int)) := by rfl
theorem ok_one (n : Int) (h : 1 ≤ n ∧ n ≤ 1000000) : okFrom 1 none [ad1 n] = true := by
  simp [okFrom, okD, fitsB, ruleOf, textB, ad1, h.1, h.2]
theorem setB_one (f n : Int) (hf : 0 ≤ f ∧ f ≤ 100000) (h : 1 ≤ n ∧ n ≤ 1000000) : setB sX.toList 1 f [ad1 n] = true := by
  have hv : validB sX.toList = true := by rw [tl]; rfl
  have hw : wildB sX.toList = false := by rw [tl]; rfl
  have h1 : (ruleOf 1).one = false := rfl
  unfold setB
  rw [hv, hw, show (1 : Int).toNat = 1 from rfl, ok_one n h, h1]
  simp [hf.1, hf.2]
theorem rdA : rdX (bsA, false) = sX ∧ rdTyp (bsA, false) = 1 ∧ rdLife (bsA, false) = 5 ∧ rdD (bsA, false) = [ad1 7] := by
  refine ⟨rfl, by kernel_rfl, by kernel_rfl, ?_⟩
  have h1 : rdN (bsA, false) = 1 := rfl
  have h2 : datV (rdC (bsA, false)) = ad1 7 := Prod.ext rfl (Prod.ext (by kernel_rfl) (by kernel_rfl))
  unfold rdD
  rw [h1]
  show [datV (rdC (bsA, false))] = _
  rw [h2]
theorem readOkA : readOk bsA = true := by
  obtain ⟨h1, h2, h3, h4⟩ := rdA
  have h5 : (rdE (bsA, false)).2 = false ∧ (rdE (bsA, false)).1 = [] := ⟨rfl, rfl⟩
  unfold readOk
  rw [h1, h2, h3, h4, h5.1, h5.2, setB_one 5 7 (by omega) (by omega)]
  rfl
theorem readOk0 : readOk [] = false := by
  have h5 : (rdE (([] : Bs), false)).2 = true := rfl
  unfold readOk
  rw [h5]
  rfl
end Go.Proofs.YtmnbcjchfbfngaaDoor
