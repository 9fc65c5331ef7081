/- The zero value of an array of 256 numbers, as a name that no step opens; no condition. -/
import Derived.Test.YtojofkjnakiliaaDoorL7
namespace Go.Proofs.YtojofkjnakiliaaDoor
open Go.RowKit

@[irreducible] def Tryd.zeroCells35 : Array Value := Array.replicate 256 (.int .i64 0)
@[go_sem] theorem zeroValue35 (w : World) : (zeroValue 35).run Tryd.prog w = .ok (.agg Tryd.zeroCells35) w := by kernel_rfl
theorem Tryd.zeroCells35_size : Tryd.zeroCells35.size = 256 := by kernel_rfl
@[simp] theorem Tryd.zeroCells35_ne : Tryd.zeroCells35 ≠ #[] := fun h => by
  have := congrArg Array.size h
  rw [Tryd.zeroCells35_size] at this
  cases this
end Go.Proofs.YtojofkjnakiliaaDoor
