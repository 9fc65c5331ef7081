/- The first error of a text, and what stands behind its line, as plain facts on lists of bytes; no condition beyond those that each theorem names. -/
import Derived.Test.YtojofkjnakiliaaDoorL17
import Derived.Lib.IndexLaws
namespace Go.Proofs.YtojofkjnakiliaaDoor
set_option linter.unusedSimpArgs false
set_option linter.unusedVariables false
open Go.RowKit Go.Maps Go.Shelf
open NmP

theorem lexR_bad {l : Bs} {ts : List Tok} {f at_ : Nat} (h : lexR l = (ts, f, at_)) (h0 : f ≠ 0) (h2 : f ≠ 2) : l.length ≤ 8000 ∧ ts = [] ∧ ∃ pre z, lexA l 0 = .bad pre z f at_ := by
  unfold lexR at h
  by_cases h8 : 8000 < l.length
  · rw [if_pos h8] at h
    cases h
    exact absurd rfl h2
  · rw [if_neg h8] at h
    cases hO : lexO (l.length + 1) l 0 with
    | ok us =>
      rw [hO] at h
      simp only [res] at h
      split at h
      · cases h; exact absurd rfl h0
      · cases h; exact absurd rfl h2
    | bad pre z e a =>
      rw [hO] at h
      simp only [res] at h
      split at h
      · cases h; exact absurd rfl h2
      · split at h
        · cases h; exact absurd rfl h2
        · cases h
          exact ⟨by omega, rfl, pre, z, hO⟩
theorem lexA_bad {l : Bs} {o : Nat} {pre : List PTok} {z : Bool} {e a : Nat} (h : lexA l o = .bad pre z e a) : e ≠ 0 ∧ o ≤ a ∧ a < o + l.length ∧ pre.length + o ≤ a := lexO_bad _ _ _ _ _ _ _ (Nat.lt_succ_self _) h
/-- The line of the error, alone, has the same error. -/
theorem line_bad {line rest : Bs} {pre : List PTok} {z : Bool} {e a : Nat} (h : lexA (line ++ 10 :: rest) 0 = .bad pre z e a) (ha : a ≤ line.length) : lexA line 0 = .bad pre z e a := by
  rw [lexA_join] at h
  cases hl : lexA line 0 with
  | bad pre' z' e' a' => rw [hl] at h; exact h
  | ok ts =>
    rw [hl] at h
    cases hr : lexA rest (0 + line.length + 1) with
    | ok us => rw [hr] at h; cases h
    | bad pre' z' e' a' =>
      rw [hr] at h
      have := lexA_bad hr
      cases h
      omega
/-- A text without an error, a line with one, and whatever stands behind it. -/
theorem lexR_after {a line c : Bs} {ts : List PTok} {pre : List PTok} {z : Bool} {e k : Nat} (ha : lexA a 0 = .ok ts) (hl : lexA line 0 = .bad pre z e k) (h8 : (a ++ 10 :: (line ++ 10 :: c)).length ≤ 8000) (h2 : ts.length + line.length ≤ 2000) :
    lexR (a ++ 10 :: (line ++ 10 :: c)) = ([], e, a.length + 1 + k) := by
  have hb := lexA_bad hl
  have h1 : lexA (line ++ 10 :: c) (a.length + 1) = .bad (pre.map (PTok.up (a.length + 1))) z e (k + (a.length + 1)) := by
    have := lexA_up (line ++ 10 :: c) 0 (a.length + 1)
    rw [Nat.zero_add] at this
    rw [this, lexA_join, hl]
    rfl
  have hA : lexA (a ++ 10 :: (line ++ 10 :: c)) 0 = .bad (ts ++ pre.map (PTok.up (a.length + 1))) z e (k + (a.length + 1)) := by
    rw [lexA_join, ha, Nat.zero_add, h1]
    rfl
  unfold lexR
  rw [if_neg (by omega), show lexO ((a ++ 10 :: (line ++ 10 :: c)).length + 1) (a ++ 10 :: (line ++ 10 :: c)) 0 = _ from hA]
  simp only [res, List.length_nil, List.length_append, List.length_map, Nat.zero_add]
  rw [if_neg (by omega), if_neg (by omega), Nat.add_comm k]

/-- Where the first line feed stands, the text falls into the line and the rest. -/
theorem cut_at {l : Bs} {i o : Nat} (h : Lib.indexByte (l.drop i) 10 = (o : Int)) : l = l.take (i + o) ++ 10 :: l.drop (i + o + 1) ∧ i + o < l.length := by
  have h1 := (Lib.indexByte_some h).1
  rw [List.getElem?_drop] at h1
  obtain ⟨hlt, hg⟩ := List.getElem?_eq_some_iff.1 h1
  refine ⟨?_, hlt⟩
  rw [← hg, ← List.drop_eq_getElem_cons hlt, List.take_append_drop]
theorem fails_true (s : ByteArray) (f a : Nat) (y : Int) (w : World) (hs : s.size ≤ maxLen) (h : lexR s.toList = ([], f, a)) (hy : y = a) :
    Calls Tryd.prog 12 #[.string s, .int .i64 (f : Int), .int .i64 y] w fun e w' => e = .returned (.bool true) ∧ Below w.heap.size w w' := by
  subst hy
  have := fails_any s f a w hs (by rw [h]; simp)
  rw [h] at this
  simpa using this
end Go.Proofs.YtojofkjnakiliaaDoor
