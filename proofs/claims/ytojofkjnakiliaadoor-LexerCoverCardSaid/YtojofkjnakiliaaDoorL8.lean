/- Whole rows of classes, for the contract of classes of package lexer; no condition beyond those that each theorem names. -/
import Derived.Test.YtojofkjnakiliaaDoorZ0
import Derived.Laws.Rows
import Derived.Laws.Tables
import Derived.Laws.RangeString
namespace Go.Proofs.YtojofkjnakiliaaDoor
open Go.RowKit
open NmP

/-- A whole row of 256 classes. -/
def KR (g : Nat → Nat) (b : Nat) (W : World) : Prop := ∃ cs : Array Value, W.heap[b]? = some (.cells cs 35 (0, 0)) ∧ cs.size = 256 ∧ ∀ n, n < 256 → cs[n]? = some (.int .i64 (g n : Int))
theorem KR.cell {g : Nat → Nat} {b : Nat} {W : World} (h : KR g b W) (n : Nat) (hn : n < 256) : W.cell? ⟨b, n, none⟩ = some (.int .i64 (g n : Int)) := by
  obtain ⟨cs, h1, h2, h3⟩ := h
  rw [cell_of_row W b n cs 35 _ h1]; exact h3 n hn
theorem KR.free {g : Nat → Nat} {b : Nat} {W : World} (h : KR g b W) (n : Nat) : W.frozen? ⟨b, n, none⟩ = false := by
  obtain ⟨cs, h1, _⟩ := h
  exact frozen_of_row W b n cs 35 h1
theorem KR.set {g : Nat → Nat} {b : Nat} {W : World} (h : KR g b W) (m v : Nat) (hm : m < 256) (g' : Nat → Nat) (hg : ∀ n, n < 256 → g' n = if n = m then v else g n) : KR g' b (W.setCell ⟨b, m, none⟩ (.int .i64 (v : Int))) := by
  obtain ⟨cs, h1, h2, h3⟩ := h
  refine ⟨cs.setIfInBounds m (.int .i64 (v : Int)), heap_setCell_same W b m cs 35 _ h1, by simp [h2], fun n hn => ?_⟩
  rw [hg n hn]
  by_cases e : n = m
  · subst e; simp [h2, hm]
  · rw [if_neg e, Array.getElem?_setIfInBounds_ne (Ne.symm e)]; exact h3 n hn
theorem KR.other {g : Nat → Nat} {b : Nat} {W W' : World} (h : KR g b W) (hh : W'.heap[b]? = W.heap[b]?) : KR g b W' := by
  unfold KR; rw [hh]; exact h
theorem KR.zero (W : World) : KR (fun _ => 0) W.heap.size (W.alloc (.cells Tryd.zeroCells35 35)) := by
  refine ⟨Tryd.zeroCells35, heap_alloc_new W _, Tryd.zeroCells35_size, fun n hn => ?_⟩
  have h : ∀ m : Fin 256, Tryd.zeroCells35[m.val]? = some (.int .i64 0) := by
    intro m
    have e : Tryd.zeroCells35 = Array.replicate 256 (.int .i64 0) := by kernel_rfl
    rw [e]; simp
  exact h ⟨n, hn⟩

def g1 (c n : Nat) : Nat := if 97 ≤ n ∧ n < c then 4 else 0
def g2 (c n : Nat) : Nat := if 97 ≤ n ∧ n < 123 then 4 else if 48 ≤ n ∧ n < c then 3 else 0

/-- The signs. -/
def sgS : ByteArray := ⟨#[123, 125, 59, 44, 61, 64]⟩
def g3 (p n : Nat) : Nat := if ([123, 125, 59, 44, 61, 64].take p).contains n then 8 else g2 58 n
def posOf (k : Nat) (W : World) : Nat := match W.heap[k]? with | some (.stringIter _ p) => p | _ => 0
theorem posOf_iter (W : World) (s : ByteArray) (p k : Nat) (h : W.heap.size = k) : posOf k (W.iter s p) = p := by
  subst h; unfold posOf; rw [World.iter_heap]
theorem iter_setCell (W : World) (s : ByteArray) (p b o : Nat) (v : Value) (h : b < W.heap.size) : (W.iter s p).setCell ⟨b, o, none⟩ v = (W.setCell ⟨b, o, none⟩ v).iter s p := by
  have hm : ∀ (a : Array Obj) (x : Obj) (f : Obj → Obj), b < a.size → (a.push x).modify b f = (a.modify b f).push x := by
    intro a x f hb
    apply Array.ext
    · simp
    · intro i h1 h2
      simp only [Array.getElem_modify, Array.getElem_push, Array.size_modify]
      by_cases e : i < a.size
      · simp [e]
      · have : b ≠ i := by omega
        simp [e, this]
  unfold World.iter World.setCell
  show ({ W with heap := (W.heap.push _).modify b _ } : World) = _
  rw [hm _ _ _ h]
  rfl

def marks (V : World) (b : Nat) : World :=
  (((((((V.setCell ⟨b, 32, none⟩ (.int .i64 1)).setCell ⟨b, 9, none⟩ (.int .i64 1)).setCell ⟨b, 10, none⟩ (.int .i64 1)).setCell ⟨b, 35, none⟩ (.int .i64 2)).setCell ⟨b, 45, none⟩ (.int .i64 5)).setCell ⟨b, 46, none⟩ (.int .i64 5)).setCell ⟨b, 42, none⟩ (.int .i64 6)).setCell ⟨b, 34, none⟩ (.int .i64 7)
def upd (g : Nat → Nat) (m v : Nat) : Nat → Nat := fun n => if n = m then v else g n
theorem KR.up {g : Nat → Nat} {b : Nat} {W : World} (h : KR g b W) (m v : Nat) (hm : m < 256) : KR (upd g m v) b (W.setCell ⟨b, m, none⟩ (.int .i64 (v : Int))) := h.set m v hm _ (fun _ _ => rfl)
set_option maxRecDepth 100000 in
theorem kind_all : ∀ n, n < 256 → upd (upd (upd (upd (upd (upd (upd (upd (g3 6) 32 1) 9 1) 10 1) 35 2) 45 5) 46 5) 42 6) 34 7 n = kindN n := by decide
theorem kinds_eq {cs : Array Value} (h : cs.size = 256) (h2 : ∀ n, n < 256 → cs[n]? = some (.int .i64 (kindN n : Int))) : cs = kindsA := by
  apply Array.ext_getElem?
  intro i
  by_cases hi : i < 256
  · rw [h2 i hi, kindsA_get hi]
  · rw [Array.getElem?_eq_none (by omega), Array.getElem?_eq_none (by rw [kindsA_size]; omega)]
theorem marks_row (V : World) (b : Nat) (h : KR (g3 6) b V) : (marks V b).heap[b]? = some (.cells kindsA 35 (0, 0)) := by
  obtain ⟨cs, h1, h2, h3⟩ := ((((((((h.up 32 1 (by omega)).up 9 1 (by omega)).up 10 1 (by omega)).up 35 2 (by omega)).up 45 5 (by omega)).up 46 5 (by omega)).up 42 6 (by omega)).up 34 7 (by omega))
  rw [kinds_eq h2 (fun n hn => by rw [h3 n hn, kind_all n hn])] at h1
  exact h1
theorem marks_zero (V : World) (b z : Nat) (hz : z ≠ b) (h : KR (fun _ => 0) z V) : KR (fun _ => 0) z (marks V b) := by
  refine h.other ?_
  unfold marks
  rw [heap_setCell_other (h := hz), heap_setCell_other (h := hz), heap_setCell_other (h := hz), heap_setCell_other (h := hz), heap_setCell_other (h := hz), heap_setCell_other (h := hz), heap_setCell_other (h := hz), heap_setCell_other (h := hz)]
theorem marks_below (V : World) (b : Nat) (w : World) (hb : w.heap.size ≤ b) (h : Below w.heap.size w V) : Below w.heap.size w (marks V b) :=
  (((((((h.setCell (p := ⟨b, 32, none⟩) hb _).setCell (p := ⟨b, 9, none⟩) hb _).setCell (p := ⟨b, 10, none⟩) hb _).setCell (p := ⟨b, 35, none⟩) hb _).setCell (p := ⟨b, 45, none⟩) hb _).setCell (p := ⟨b, 46, none⟩) hb _).setCell (p := ⟨b, 42, none⟩) hb _).setCell (p := ⟨b, 34, none⟩) hb _
theorem info62 : (Tryd.prog.info? 35).map (·.size) = some kindsA.size := by rw [kindsA_size]; kernel_rfl
theorem kindsA_one : kindsA.all (·.oneCell') = true := by rw [Array.all_eq_true]; intro i hi; simp [kindsA]; rfl

end Go.Proofs.YtojofkjnakiliaaDoor
