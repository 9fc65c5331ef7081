/- The classes of bytes, what a gap and a run are, and the contract of skip of package lexer; no condition beyond those that each theorem names. -/
import Derived.Test.YtojofkjnakiliaaDoorL0
namespace Go.Proofs.YtojofkjnakiliaaDoor
open Go.RowKit
open NmP

/-- The class of a byte, by its number. -/
def kindN (n : Nat) : Nat :=
  if 97 ≤ n ∧ n ≤ 122 then 4 else if 48 ≤ n ∧ n ≤ 57 then 3
  else if n = 123 ∨ n = 125 ∨ n = 59 ∨ n = 44 ∨ n = 61 ∨ n = 64 then 8
  else if n = 32 ∨ n = 9 ∨ n = 10 then 1 else if n = 35 then 2 else if n = 45 ∨ n = 46 then 5
  else if n = 42 then 6 else if n = 34 then 7 else 0
def kindsA : Array Value := (Array.range 256).map fun i => Value.int .i64 (kindN i : Int)
theorem kindsA_size : kindsA.size = 256 := by simp [kindsA]
theorem kindsA_get {n : Nat} (h : n < 256) : kindsA[n]? = some (.int .i64 (kindN n : Int)) := by
  simp [kindsA, h]

/-- How many bytes at the front belong to gaps; cm: within a comment. -/
def skipG : Bool → Bs → Nat
  | _, [] => 0
  | cm, c :: t =>
    if cm = true ∧ c.toNat ≠ 10 then 1 + skipG true t
    else if kindN c.toNat = 1 then 1 + skipG false t
    else if kindN c.toNat = 2 then 1 + skipG true t else 0
theorem skipG_le : ∀ (cm : Bool) (l : Bs), skipG cm l ≤ l.length
  | _, [] => Nat.le_refl _
  | cm, c :: t => by
    have h1 := skipG_le true t
    have h2 := skipG_le false t
    unfold skipG
    repeat' split
    all_goals simp only [List.length_cons]; omega
theorem drop_cons {s : ByteArray} {i : Nat} (h : i < s.size) : s.toList.drop i = s[i] :: s.toList.drop (i + 1) := by
  have h2 := tl_get s i h
  obtain ⟨h4, h5⟩ := List.getElem?_eq_some_iff.1 h2
  rw [List.drop_eq_getElem_cons h4, h5]
theorem drop_all (s : ByteArray) : s.toList.drop s.size = [] := List.drop_eq_nil_of_le (by rw [tl_len]; omega)

/-- Where a gap that begins at a place ends. -/
def gapAt (s : ByteArray) (cm : Bool) (i : Nat) : Nat := i + skipG cm (s.toList.drop i)
theorem gapAt_end (s : ByteArray) (cm : Bool) : gapAt s cm s.size = s.size := by unfold gapAt; rw [drop_all]; simp [skipG]
theorem gapAt_in {s : ByteArray} {i : Nat} (h : i < s.size) (hc : s[i].toNat ≠ 10) : gapAt s true i = gapAt s true (i + 1) := by
  unfold gapAt; rw [drop_cons h]; simp [skipG, hc]; omega
theorem gapAt_line {s : ByteArray} {i : Nat} (h : i < s.size) (hc : s[i].toNat = 10) : gapAt s true i = gapAt s false i := by
  unfold gapAt; rw [drop_cons h]; simp [skipG, hc]
theorem gapAt_1 {s : ByteArray} {i : Nat} (h : i < s.size) (hc : kindN s[i].toNat = 1) : gapAt s false i = gapAt s false (i + 1) := by
  unfold gapAt; rw [drop_cons h]; simp [skipG, hc]; omega
theorem gapAt_2 {s : ByteArray} {i : Nat} (h : i < s.size) (hc : kindN s[i].toNat = 2) : gapAt s false i = gapAt s true i := by
  unfold gapAt; rw [drop_cons h]
  have h2 : s[i].toNat ≠ 10 := by intro e; rw [e] at hc; revert hc; decide
  simp [skipG, hc, h2]
theorem gapAt_0 {s : ByteArray} {i : Nat} (h : i < s.size) (h1 : kindN s[i].toNat ≠ 1) (h2 : kindN s[i].toNat ≠ 2) : gapAt s false i = i := by
  unfold gapAt; rw [drop_cons h]; simp [skipG, h1, h2]
theorem gapAt_ge (s : ByteArray) (cm : Bool) (i : Nat) : i ≤ gapAt s cm i := by unfold gapAt; omega
theorem gapAt_le {s : ByteArray} (cm : Bool) {i : Nat} (h : i ≤ s.size) : gapAt s cm i ≤ s.size := by
  have := skipG_le cm (s.toList.drop i)
  rw [List.length_drop, tl_len] at this
  unfold gapAt; omega

/-- The cells of the classes. -/
def KC (b : Nat) (W : World) : Prop := ∀ n, n < 256 → W.cell? ⟨b, n, none⟩ = some (.int .i64 (kindN n : Int))
theorem KC_alloc (W : World) (t : TypeId) : KC W.heap.size (W.alloc (.cells kindsA t)) := by
  intro n hn
  rw [World.cell?_alloc_at _ _ _ _ rfl]
  exact kindsA_get hn
end Go.Proofs.YtojofkjnakiliaaDoor
