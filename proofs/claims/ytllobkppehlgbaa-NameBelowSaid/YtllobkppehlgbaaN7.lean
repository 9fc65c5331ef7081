/- The contract of Labels of package name; no condition beyond those that it names. -/
import Derived.Test.YtllobkppehlgbaaN6
namespace Go.Proofs.Ytllobkppehlgbaa
open Go.RowKit
open NmP

/-- What Labels answers for a name whose labels, from the last one on, are A: a slice of them in their order. -/
def LabR (A : List ByteArray) (w : World) (e : Ending) (w' : World) : Prop :=
  (∃ b : Nat, e = .returned (.tuple #[.slice (some ⟨b, 0, none⟩) A.length A.length, .int .i64 0]) ∧ ∀ j, j < A.length → w'.cell? ⟨b, j, none⟩ = some (.string (lst A (8 - A.length + j)))) ∧ Below w.heap.size w w'

theorem two_new (W : World) (o : Obj) (c : Array Value) (t : TypeId) : ((W.alloc o).alloc (.cells c t)).heap[W.heap.size + 1]? = some (.cells c t) := by
  have := World.alloc_heap_new (W.alloc o) (.cells c t)
  rwa [World.size_alloc] at this

set_option maxHeartbeats 4000000 in
set_option maxRecDepth 100000 in
theorem Labels_any (s : ByteArray) (w : World) (hs : s.size ≤ maxLen) (hv : validB s.toList = true) :
    Calls Try.prog 16 #[.string s] w (LabR (revL s) w) := by
  have hmk : ∀ W : World, (Instr.makeSlice 22 (.int .i64 0) (.int .i64 8)).run Try.prog W = .ok (.slice (some ⟨W.heap.size, 0, none⟩) 0 8) (W.alloc (.cells Z8 9)) := fun _ => by kernel_rfl
  have h8 := revL_len hv
  have hsp := fun W => split_any s W hs h8
  have h1 := fun W => valid_any s W hs
  rw [hv] at h1
  generalize revL s = A at *
  have H1 := Lib.hid h1
  clear hv h1
  obtain ⟨n, hn⟩ : ∃ n, n = A.length := ⟨_, rfl⟩
  have : n = 0 ∨ n = 1 ∨ n = 2 ∨ n = 3 ∨ n = 4 ∨ n = 5 ∨ n = 6 ∨ n = 7 ∨ n = 8 := by omega
  have HN := Lib.hid hn
  rw [← hn] at hsp
  clear hn
  rcases this with rfl | rfl | rfl | rfl | rfl | rfl | rfl | rfl | rfl
  all_goals
    simp only [Nat.reduceSub] at hsp
    have HS := Lib.hid hsp
    clear hsp
    go_enter Try.func16, Try.ntmps16
    go_wp2_with (first | (go_at_call 15; refine (H1.out _).mono ?_; rintro e w4 ⟨rfl, rfl⟩) | (go_at_call 37; refine (HS.out _).mono ?_; rintro e w1 ⟨rfl, hb⟩))
    go_ret2
    refine ⟨⟨w1.heap.size + 1, by rw [← HN.out]; rfl, fun j hj => ?_⟩, (hb.trans (((Below.refl _ w1).alloc hb.size _).alloc (by have := hb.size; simp; omega) _))⟩
    rw [← HN.out] at hj
    rw [← HN.out]
    have : j = 0 ∨ j = 1 ∨ j = 2 ∨ j = 3 ∨ j = 4 ∨ j = 5 ∨ j = 6 ∨ j = 7 := by omega
    rcases this with rfl | rfl | rfl | rfl | rfl | rfl | rfl | rfl
    all_goals first | omega | exact (cell_blk (two_new _ _ _ _) _ _ rfl).1
end Go.Proofs.Ytllobkppehlgbaa
