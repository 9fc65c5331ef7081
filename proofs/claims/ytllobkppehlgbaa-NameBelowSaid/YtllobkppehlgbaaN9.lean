/- The statements' own names, called with two, three and four texts; no condition beyond those that each theorem names. -/
import Derived.Test.YtllobkppehlgbaaN8
import Derived.ProofKit
import Derived.OpenShut
import Derived.ShutString
import Derived.ChangeOld
import Derived.Lib.SmallJoins
namespace Go.Proofs.Ytllobkppehlgbaa
open Go.RowKit
open NmP
theorem names2 (a b : ByteArray) (W : World) (ha : a.size ≤ maxLen) (hb : b.size ≤ maxLen) :
    Calls Try.prog 18 #[.slice (some ⟨W.heap.size, 0, none⟩) 2 2] (W.alloc (.cells #[.string a, .string b] 9)) fun e w' => e = .returned (.bool (validB a.toList && validB b.toList)) ∧ (W.alloc (.cells #[.string a, .string b] 9)) = w' := by
  have h := names_any [a, b] W.heap.size 2 (W.alloc (.cells #[.string a, .string b] 9)) (by simp) (by intro x hx; simp at hx; rcases hx with rfl | rfl <;> assumption) (fun j hj => by
    have hj' : j < 2 := hj
    have : j = 0 ∨ j = 1 := by omega
    rcases this with rfl | rfl <;> exact (cell_blk (World.alloc_heap_new W _) _ _ rfl).1)
  simpa [List.all_cons, Bool.and_assoc] using h
theorem names3 (a b c : ByteArray) (W : World) (ha : a.size ≤ maxLen) (hb : b.size ≤ maxLen) (hc : c.size ≤ maxLen) :
    Calls Try.prog 18 #[.slice (some ⟨W.heap.size, 0, none⟩) 3 3] (W.alloc (.cells #[.string a, .string b, .string c] 9)) fun e w' => e = .returned (.bool (validB a.toList && validB b.toList && validB c.toList)) ∧ (W.alloc (.cells #[.string a, .string b, .string c] 9)) = w' := by
  have h := names_any [a, b, c] W.heap.size 3 (W.alloc (.cells #[.string a, .string b, .string c] 9)) (by simp) (by intro x hx; simp at hx; rcases hx with rfl | rfl | rfl <;> assumption) (fun j hj => by
    have hj' : j < 3 := hj
    have : j = 0 ∨ j = 1 ∨ j = 2 := by omega
    rcases this with rfl | rfl | rfl <;> exact (cell_blk (World.alloc_heap_new W _) _ _ rfl).1)
  simpa [List.all_cons, Bool.and_assoc] using h
theorem names4 (a b c d : ByteArray) (W : World) (ha : a.size ≤ maxLen) (hb : b.size ≤ maxLen) (hc : c.size ≤ maxLen) (hd : d.size ≤ maxLen) :
    Calls Try.prog 18 #[.slice (some ⟨W.heap.size, 0, none⟩) 4 4] (W.alloc (.cells #[.string a, .string b, .string c, .string d] 9)) fun e w' => e = .returned (.bool (validB a.toList && validB b.toList && validB c.toList && validB d.toList)) ∧ (W.alloc (.cells #[.string a, .string b, .string c, .string d] 9)) = w' := by
  have h := names_any [a, b, c, d] W.heap.size 4 (W.alloc (.cells #[.string a, .string b, .string c, .string d] 9)) (by simp) (by intro x hx; simp at hx; rcases hx with rfl | rfl | rfl | rfl <;> assumption) (fun j hj => by
    have hj' : j < 4 := hj
    have : j = 0 ∨ j = 1 ∨ j = 2 ∨ j = 3 := by omega
    rcases this with rfl | rfl | rfl | rfl <;> exact (cell_blk (World.alloc_heap_new W _) _ _ rfl).1)
  simpa [List.all_cons, Bool.and_assoc] using h
theorem beq_str (a b : ByteArray) : (a.toList == b.toList) = true ↔ a = b := by
  rw [beq_iff_eq]; exact ⟨ba_ext, fun h => by rw [h]⟩
end Go.Proofs.Ytllobkppehlgbaa
