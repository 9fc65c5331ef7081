/- The contracts of what finds the end of a word, a sign and a run in package lexer; no condition beyond those that each theorem names. -/
import Derived.Test.YtojofkjnakiliaaDoorL2
namespace Go.Proofs.YtojofkjnakiliaaDoor
open Go.RowKit
open NmP

/-- A token as the program holds it. -/
def tokV (k : Nat) (x : ByteArray) (n a : Nat) : Value := .agg #[.int .i64 (k : Int), .string x, .int .i64 (n : Int), .int .i64 (a : Int)]
/-- What the functions that find ends return: a token without its place, the end, and what is wrong. -/
structure TkR where
  k : Nat
  x : ByteArray
  n : Nat
  next : Nat
  e : Nat
def TkR.val (r : TkR) : Value := .tuple #[tokV r.k r.x r.n 0, .int .i64 (r.next : Int), .int .i64 (r.e : Int)]

def wordR (x : ByteArray) (next : Nat) : TkR := if x.size ≤ 60 then ⟨1, x, 0, next, 0⟩ else ⟨0, ⟨#[]⟩, 0, next, 3⟩

set_option maxHeartbeats 400000 in
theorem word_any (x : ByteArray) (next : Nat) (w : World) (hx : x.size ≤ maxLen) :
    Calls Tryd.prog 23 #[.string x, .int .i64 next] w fun e w' => e = .returned (wordR x next).val ∧ Below w.heap.size w w' := by
  unfold maxLen at hx
  by_cases h : x.size ≤ 60
  · have HR : Hid (wordR x next = ⟨1, x, 0, next, 0⟩) := Lib.hid (if_pos h)
    go_enter Tryd.func23, Tryd.ntmps23
    go_wp2
    refine bodyPost_ret (v := .tuple #[.agg #[.int .i64 1, .string x, .int .i64 0, .int .i64 0], .int .i64 next, .int .i64 0]) (by simp [results, Tryd.f23, go_sem]) rfl ⟨by rw [HR.out]; rfl, ?_⟩
    exact (Below.refl _ w).alloc (Nat.le_refl _) _
  · have HR : Hid (wordR x next = ⟨0, ⟨#[]⟩, 0, next, 3⟩) := Lib.hid (if_neg h)
    go_enter Tryd.func23, Tryd.ntmps23
    go_wp2
    refine bodyPost_ret (v := .tuple #[.agg #[.int .i64 0, .string ⟨#[]⟩, .int .i64 0, .int .i64 0], .int .i64 next, .int .i64 3]) (by simp [results, Tryd.f23, go_sem]) rfl ⟨by rw [HR.out]; rfl, ?_⟩
    exact (Below.refl _ w).alloc (Nat.le_refl _) _
end Go.Proofs.YtojofkjnakiliaaDoor
