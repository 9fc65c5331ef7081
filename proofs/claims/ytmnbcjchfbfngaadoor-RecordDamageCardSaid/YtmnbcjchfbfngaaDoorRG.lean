/- The last datum of a row that a call owns, put behind it once more; no condition beyond those that each theorem names. -/
import Derived.Test.YtmnbcjchfbfngaaDoorRF
namespace Go.Proofs.YtmnbcjchfbfngaaDoor
set_option linter.unusedSimpArgs false
set_option linter.unusedVariables false
open Go.RowKit
open NmP

/-- The last datum stands there twice. -/
def Twice (w : World) (o : Nat) (x : ByteArray) (t f : Int) (v : Value) (l : List Dt) (e : Dt) (gg cap2 : Nat) (W : World) : Prop :=
  RBx w W x t f v ∧ W.heap[o]? = some (Obj.cells #[.string x, .int .i64 t, .int .i64 f, .slice (some ⟨gg, 0, none⟩) (l.length + 1) cap2] 24 (0, 0)) ∧ SlD (.slice (some ⟨gg, 0, none⟩) (l.length + 1) cap2) (l ++ [e]) W
theorem twice_of {w W8 w9 : World} {o gg cap2 : Nat} {x : ByteArray} {t f : Int} {v v3 : Value} {l : List Dt} {e : Dt} (hAB : RBx w W8 x t f v) (hB : Below (o + 1) W8 w9) (ho : w.heap.size < o)
    (h9 : w9.heap[o]? = some (Obj.cells #[.string x, .int .i64 t, .int .i64 f, v3] 24 (0, 0)))
    (hown : w9.ownsRow (o + 1) 48 3 (.slice (some ⟨gg, 0, none⟩) (l.length + 1) cap2) (l.length + 1) (rowD l ++ [.string e.1, .int .i64 e.2.1, .int .i64 e.2.2])) :
    Twice w o x t f v l e gg cap2 (w9.setCell ⟨o, 3, none⟩ (.slice (some ⟨gg, 0, none⟩) (l.length + 1) cap2)) := by
  have h1 : rowD (l ++ [e]) = rowD l ++ [.string e.1, .int .i64 e.2.1, .int .i64 e.2.2] := by rw [rowD_append]; rfl
  have h2 : (l ++ [e]).length = l.length + 1 := by simp
  have hown2 := own1 (j := 3) hown (Nat.lt_succ_self o) (.slice (some ⟨gg, 0, none⟩) (l.length + 1) cap2)
  rw [← h1, ← h2] at hown2
  refine ⟨⟨?_, ?_⟩, heap_setCell_same w9 o 3 _ _ _ h9, ?_⟩
  · exact (hAB.bel.trans (hB.mono (by omega))).setCell (p := ⟨o, 3, none⟩) (Nat.le_of_lt ho) _
  · exact (heap_setCell_other w9 ⟨o, 3, none⟩ _ _ (Nat.ne_of_lt ho)).trans ((hB.block _ (by omega)).trans hAB.sx)
  · have k := own_SlD hown2
    rw [h2] at k
    exact k
theorem Twice.bad {x : Bs} {typ life : Int} {l : List Dt} {e : Dt} {n : Nat} (hn : l.length = n + 1) (he : l[n]? = some e) : setB x typ life (l ++ [e]) = false := by
  have h := last_of (l := l) (d := e) (by omega) (by rw [hn]; exact he)
  rw [h]
  exact bad_twice
end Go.Proofs.YtmnbcjchfbfngaaDoor
