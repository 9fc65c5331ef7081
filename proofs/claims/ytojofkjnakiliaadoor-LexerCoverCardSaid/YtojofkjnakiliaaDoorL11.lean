/- What Lex of package lexer returns, as a plain function of the source, and the contracts of what finds the end of a token; no condition beyond those that each theorem names. -/
import Derived.Test.YtojofkjnakiliaaDoorL10
import Derived.Shelf.Abstract
namespace Go.Proofs.YtojofkjnakiliaaDoor
open Go.RowKit Go.Maps Go.Shelf
open NmP

structure Tok where
  k : Nat
  x : ByteArray
  n : Nat
  a : Nat
def Tok.vals (t : Tok) : List Value := [.int .i64 (t.k : Int), .string t.x, .int .i64 (t.n : Int), .int .i64 (t.a : Int)]
def rowT (l : List Tok) : List Value := l.flatMap Tok.vals
theorem rowT_len (l : List Tok) : (rowT l).length = l.length * 4 := by
  induction l with
  | nil => rfl
  | cons t r ih => simp [rowT, Tok.vals] at *; omega
theorem rowT_snoc (l : List Tok) (t : Tok) : rowT (l ++ [t]) = rowT l ++ t.vals := by simp [rowT]

def byteAt (s : ByteArray) (i : Nat) : Nat := (s.toList.getD i 0).toNat
theorem byteAt_eq {s : ByteArray} {i : Nat} (h : i < s.size) : byteAt s i = s[i].toNat := by
  unfold byteAt
  rw [List.getD_eq_getElem?_getD, tl_get s i h]
  rfl

/-- The token that begins at a place, its end, and what is wrong with it. -/
noncomputable def endR (s : ByteArray) (i : Nat) : TkR :=
  if kindN (byteAt s i) = 3 then digitR s i
  else if kindN (byteAt s i) = 4 ∨ kindN (byteAt s i) = 6 then wordR (s.extract i (runAt s i)) (runAt s i)
  else if kindN (byteAt s i) = 5 then markR s i
  else if kindN (byteAt s i) = 7 then textR s i
  else if kindN (byteAt s i) = 8 then ⟨3, s.extract i (i + 1), 0, i + 1, 0⟩
  else ⟨0, ⟨#[]⟩, 0, 0, 10⟩

/-- The tokens from a place on, behind those that were found; or what is wrong, and where. -/
noncomputable def lexL (s : ByteArray) : Nat → Nat → List Tok → List Tok × Nat × Nat
  | 0, i, _ => ([], 10, i)
  | n + 1, i, out =>
    if i < s.size then
      if (endR s i).next = 0 then ([], 10, i)
      else if out.length = 2000 then ([], 2, i)
      else if (endR s i).e ≠ 0 then ([], (endR s i).e, i)
      else lexL s n (gapAt s false (endR s i).next) (out ++ [⟨(endR s i).k, (endR s i).x, (endR s i).n, i⟩])
    else (out, 0, 0)
noncomputable def lexF (s : ByteArray) : List Tok × Nat × Nat := if 8000 < s.size then ([], 2, 0) else lexL s (s.size + 1) (gapAt s false 0) []

theorem kind_le (n : Nat) : kindN n < 9 := by
  unfold kindN
  repeat' split
  all_goals omega

theorem end_le {s : ByteArray} {i : Nat} (h : i < s.size) : (endR s i).next ≠ 0 → i < (endR s i).next ∧ (endR s i).next ≤ s.size := by
  intro hn
  have hr := runAt_le (s := s) (i := i) (by omega)
  have hx := byteAt_eq h
  unfold endR at hn ⊢
  by_cases k3 : kindN (byteAt s i) = 3
  · rw [if_pos k3] at hn ⊢
    have h1 : i < runAt s i := by rw [runAt_in h (by rw [← hx]; omega)]; exact runAt_ge s (i + 1)
    unfold digitR numR wordR at hn ⊢
    repeat' split
    all_goals exact ⟨h1, hr⟩
  · rw [if_neg k3] at hn ⊢
    by_cases k4 : kindN (byteAt s i) = 4 ∨ kindN (byteAt s i) = 6
    · rw [if_pos k4] at hn ⊢
      have h1 : i < runAt s i := by rw [runAt_in h (by rw [← hx]; omega)]; exact runAt_ge s (i + 1)
      unfold wordR at hn ⊢
      split
      all_goals exact ⟨h1, hr⟩
    · rw [if_neg k4] at hn ⊢
      by_cases k5 : kindN (byteAt s i) = 5
      · rw [if_pos k5] at hn ⊢
        have h1 : i < runAt s i := by rw [runAt_in h (by rw [← hx]; omega)]; exact runAt_ge s (i + 1)
        unfold markR wordR at hn ⊢
        repeat' split
        all_goals first | exact ⟨h1, hr⟩ | skip
        all_goals simp_all
      · rw [if_neg k5] at hn ⊢
        by_cases k7 : kindN (byteAt s i) = 7
        · rw [if_pos k7] at hn ⊢
          have hq : ∀ (l : Bs) (j q : Nat), quoteL l j = some q → j ≤ q ∧ q < j + l.length := by
            intro l
            induction l with
            | nil => intro j q h; cases h
            | cons c t ih =>
              intro j q h
              unfold quoteL at h
              repeat' split at h
              · cases h
              · cases h; simp
              · have := ih (j + 1) q h
                simp; omega
          unfold textR at hn ⊢
          cases e : quoteL (s.toList.drop (i + 1)) (i + 1) with
          | none => rw [e] at hn; simp at hn
          | some q =>
            have := hq _ _ _ e
            rw [List.length_drop, tl_len] at this
            rw [e] at hn
            simp only at hn ⊢
            repeat' split
            all_goals first | (simp_all; done) | (simp only; omega)
        · rw [if_neg k7] at hn ⊢
          by_cases k8 : kindN (byteAt s i) = 8
          · rw [if_pos k8]
            exact ⟨by simp, by simp; omega⟩
          · rw [if_neg k8] at hn
            simp at hn

/-- What the call of the closure that the map gives hands back. -/
def EndCall (f : Nat) (cb : Array Value) (s : ByteArray) (i b c : Nat) : Prop :=
  (∀ args w, (callFunc f args).run Tryd.prog w = .ok (.enter f args) w) ∧
  ∀ W, KC b W → RC c b W → Calls Tryd.prog f (#[.string s, .int .i64 (i : Int)] ++ cb) W fun e w' => e = .returned (endR s i).val ∧ Below W.heap.size W w'

theorem end_any (s : ByteArray) (i b c : Nat) (hs : s.size ≤ 8000) (hi : i < s.size) (h3 : 3 ≤ kindN s[i].toNat) :
    ∃ f cb, fnOf b c (kindN s[i].toNat) = (.func (.func f) #[] cb, true) ∧ EndCall f cb s i b c := by
  have hx := byteAt_eq hi
  have hm : s.size ≤ maxLen := by unfold maxLen; omega
  have h9 := kind_le s[i].toNat
  have hE : endR s i = endR s i := rfl
  conv at hE => rhs; unfold endR
  rw [hx] at hE
  rcases (show kindN s[i].toNat = 3 ∨ kindN s[i].toNat = 4 ∨ kindN s[i].toNat = 5 ∨ kindN s[i].toNat = 6 ∨ kindN s[i].toNat = 7 ∨ kindN s[i].toNat = 8 by omega) with k | k | k | k | k | k
  all_goals rw [k] at hE ⊢
  all_goals simp only [fnOf, fWord, fMark, fDigit, fText, fSign, EndCall, hE, reduceIte, Nat.reduceEqDiff, or_true, true_or, or_self]
  · exact ⟨25, _, rfl, enters_of Tryd.func25 (by kernel_rfl) rfl, fun W hK hC => digit_any s i b c W hs hi (by omega) hK hC⟩
  · exact ⟨22, _, rfl, enters_of Tryd.func22 (by kernel_rfl) rfl, fun W hK hC => wordAt_any s i b c W hm (by omega) hK hC⟩
  · exact ⟨24, _, rfl, enters_of Tryd.func24 (by kernel_rfl) rfl, fun W hK hC => mark_any s i b c W hm (by omega) hK hC⟩
  · exact ⟨22, _, rfl, enters_of Tryd.func22 (by kernel_rfl) rfl, fun W hK hC => wordAt_any s i b c W hm (by omega) hK hC⟩
  · exact ⟨27, _, rfl, enters_of Tryd.func27 (by kernel_rfl) rfl, fun W _ _ => text_any s i W hm hi⟩
  · exact ⟨28, _, rfl, enters_of Tryd.func28 (by kernel_rfl) rfl, fun W _ _ => sign_any s i W hm hi⟩
theorem end_none {s : ByteArray} {i : Nat} (hi : i < s.size) (h3 : kindN s[i].toNat < 3) : (endR s i).next = 0 ∧ ∀ b c, fnOf b c (kindN s[i].toNat) = (.nilFunc, false) := by
  have hx := byteAt_eq hi
  unfold endR
  rw [hx]
  rcases (show kindN s[i].toNat = 0 ∨ kindN s[i].toNat = 1 ∨ kindN s[i].toNat = 2 by omega) with k | k | k <;> rw [k] <;> exact ⟨rfl, fun _ _ => rfl⟩
end Go.Proofs.YtojofkjnakiliaaDoor
