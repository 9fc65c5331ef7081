/- The contracts of Decimal, Text and Alike of the reference of package lexer; no condition beyond those that each theorem names. -/
import Derived.Test.YtojofkjnakiliaaDoorL19
namespace Go.Proofs.YtojofkjnakiliaaDoor
set_option linter.unusedSimpArgs false
set_option linter.unusedVariables false
open Go.RowKit Go.Maps Go.Shelf
open NmP

theorem enc_digit : ∀ d : Fin 10, Utf8.encode (48 + ((d.val : Nat) : Int)) = ofL [UInt8.ofNat (48 + d.val)] := by decide
theorem enc_dig (d : Nat) (h : d < 10) : Utf8.encode (48 + (d : Int)) = ofL [UInt8.ofNat (48 + d)] := enc_digit ⟨d, h⟩
theorem ofL_append (a b : Bs) : ofL a ++ ofL b = ofL (a ++ b) := by
  apply toList_inj
  rw [ofL_toList, tl, ByteArray.data_append]
  simp [ofL]
theorem decL_len : ∀ (k n : Nat), n < 10 ^ (k + 1) → (decL n).length ≤ k + 1
  | 0, n, h => by rw [decL_small (by omega)]; simp
  | k + 1, n, h => by
    by_cases q : n < 10
    · rw [decL_small q]; simp
    · rw [decL_big q, List.length_append]
      have := decL_len k (n / 10) (by rw [Nat.pow_succ] at h; omega)
      simp; omega
theorem dec_one (n : Nat) (q : n < 10) (w : World) : Calls Tryd.prog 16 #[.int .i64 n] w fun e w' => e = .returned (.string (ofL (decL n))) ∧ w = w' := by
  have hq : (n : Int) < 10 := by omega
  rw [decL_small q, ← enc_dig n q]
  go_enter Tryd.func16, Tryd.ntmps16
  go_wp2
  go_ret
  exact ⟨rfl, rfl⟩
theorem dec_more (n : Nat) (q : ¬ n < 10) (hn : n < 10000000000000) (hlen : (decL (n / 10)).length ≤ 13) (hd : ∀ W, Calls Tryd.prog 16 #[.int .i64 ((n / 10 : Nat) : Int)] W fun e w' => e = .returned (.string (ofL (decL (n / 10)))) ∧ W = w') (w : World) :
    Calls Tryd.prog 16 #[.int .i64 n] w fun e w' => e = .returned (.string (ofL (decL n))) ∧ w = w' := by
  have hq : ¬ (n : Int) < 10 := by omega
  have HD : Hid (∀ W, Calls Tryd.prog 16 #[.int .i64 ((n : Int) / 10)] W fun e w' => e = .returned (.string (ofL (decL (n / 10)))) ∧ W = w') := Lib.hid hd
  rw [decL_big q, ← ofL_append, ← enc_dig (n % 10) (by omega)]
  have hs : (ofL (decL (n / 10))).size ≤ 14 := by rw [ofL_size]; omega
  generalize ofL (decL (n / 10)) = X at *
  have he : Utf8.encode (48 + ((n % 10 : Nat) : Int)) = Utf8.encode (48 + (n : Int) % 10) := by congr 1
  have hs2 : (Utf8.encode (48 + (n : Int) % 10)).size ≤ 4 := by
    rw [← he, enc_dig (n % 10) (by omega), ofL_size]; simp
  rw [he]
  clear he hlen hd
  generalize hE : Utf8.encode (48 + (n : Int) % 10) = E at *
  go_enter Tryd.func16, Tryd.ntmps16
  go_wp2_with (go_at_call 16; refine (HD.out _).mono ?_; rintro e w1 ⟨rfl, rfl⟩)
  go_ret
  exact ⟨rfl, rfl⟩
theorem dec_any (k : Nat) : ∀ n : Nat, k ≤ 12 → n < 10 ^ (k + 1) → ∀ w : World, Calls Tryd.prog 16 #[.int .i64 n] w fun e w' => e = .returned (.string (ofL (decL n))) ∧ w = w' := by
  induction k with
  | zero => intro n _ hn w; exact dec_one n (by omega) w
  | succ k ih =>
    intro n hk hn w
    have hn13 : n < 10000000000000 := Nat.lt_of_lt_of_le hn (Nat.le_trans (Nat.pow_le_pow_right (n := 10) (j := 13) (by omega) (by omega)) (by decide))
    by_cases q : n < 10
    · exact dec_one n q w
    · have hd : n / 10 < 10 ^ (k + 1) := by rw [Nat.pow_succ] at hn; omega
      have := decL_len k (n / 10) hd
      exact dec_more n q hn13 (by omega) (ih (n / 10) (by omega) hd) w

theorem text_ref (k : Nat) (x : Bs) (n a : Nat) (w : World) (hn : n ≤ 1000000000) :
    Calls Tryd.prog 6 #[.agg #[.int .i64 (k : Int), .string (ofL x), .int .i64 (n : Int), .int .i64 (a : Int)]] w fun e w' => e = .returned (.string (ofL (textT k x n))) ∧ Below w.heap.size w w' := by
  have HD := Lib.hid (fun W => dec_any 9 n (by omega) (by have : (10 : Nat) ^ (9 + 1) = 10000000000 := by decide
                                                          omega) W)
  by_cases hk : k = 2
  · subst hk
    have ht : textT 2 x n = decL n := if_pos rfl
    rw [ht]
    go_enter Tryd.func6, Tryd.ntmps6
    go_wp2_with (go_at_call 16; refine (HD.out _).mono ?_; rintro e w1 ⟨rfl, rfl⟩)
    go_ret
    exact ⟨rfl, below_1 w _⟩
  · have hq : ((k : Int) == 2) = false := beq_eq_false_iff_ne.2 (by omega)
    have ht : textT k x n = x := if_neg hk
    rw [ht]
    go_enter Tryd.func6, Tryd.ntmps6
    go_wp2
    go_ret
    exact ⟨rfl, below_1 w _⟩
end Go.Proofs.YtojofkjnakiliaaDoor
