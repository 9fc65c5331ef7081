/- Small facts on the bytes of strings; no condition beyond those that each theorem names. -/
import Derived.Test.YtojofkjnakiliaaDoorRows
import Derived.WalkKit
import Derived.WalkSpells
import Derived.WalkLawsBesides
import Derived.WalkSmall
import Derived.Deep.QuietTactic
import Derived.BigQuiet
import Derived.Deep.LoopGhost
import Derived.Lib.Hide
import Derived.Lib.Bytealg
import Derived.Lib.IndexLaws
namespace Go.Proofs.YtojofkjnakiliaaDoor
open Go.RowKit
namespace NmP
abbrev Bs := List UInt8
end NmP
theorem tl (s : ByteArray) : s.toList = s.data.toList := Lib.toList_data s
theorem tl_len (s : ByteArray) : s.toList.length = s.size := by rw [tl]; rfl
theorem tl_get (s : ByteArray) (i : Nat) (h : i < s.size) : s.toList[i]? = some s[i] := by
  rw [tl]; simp [h]; rfl
theorem tl_sub (s : ByteArray) (a b : Nat) : (s.extract a b).toList = (s.toList.drop a).take (b - a) := by
  rw [tl, tl, Lib.extract_data]
theorem some_c (c d : UInt8) : (some c == some d) = decide (c.toNat = d.toNat) := by
  rw [Bool.eq_iff_iff]; simp [UInt8.toNat_inj]
end Go.Proofs.YtojofkjnakiliaaDoor
