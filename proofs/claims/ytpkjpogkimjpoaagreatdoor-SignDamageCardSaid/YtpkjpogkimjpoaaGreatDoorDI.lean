/- Digests of rows of bytes: one to one in where they begin, and in each byte; no condition beyond those that each theorem names. -/
import Derived.Test.YtpkjpogkimjpoaaGreatDoorG5
namespace Go.Proofs.YtpkjpogkimjpoaaGreatDoor
set_option linter.unusedSimpArgs false
set_option linter.unusedVariables false
open Go.RowKit
open NmP

theorem fac_inj {x y : Nat} (hx : x < 18446744073709551616) (hy : y < 18446744073709551616) (h : x * 1099511628211 % 18446744073709551616 = y * 1099511628211 % 18446744073709551616) : x = y := by
  have e : ∀ z : Nat, z < 18446744073709551616 → (z * 1099511628211 % 18446744073709551616) * 14886173955864302971 % 18446744073709551616 = z := fun z hz => by
    rw [Nat.mod_mul_mod, Nat.mul_assoc, ← Nat.mul_mod_mod, show 1099511628211 * 14886173955864302971 % 18446744073709551616 = 1 by decide, Nat.mul_one, Nat.mod_eq_of_lt hz]
  rw [← e x hx, ← e y hy, h]
theorem xor_lt64 {a b : Nat} (ha : a < 18446744073709551616) (hb : b < 18446744073709551616) : a ^^^ b < 18446744073709551616 := Nat.xor_lt_two_pow (n := 64) ha hb
theorem xor_back (a b : Nat) : (a ^^^ b) ^^^ b = a := by rw [Nat.xor_assoc, Nat.xor_self, Nat.xor_zero]
theorem xor_inj_l {a b c : Nat} (h : a ^^^ c = b ^^^ c) : a = b := by rw [← xor_back a c, h, xor_back]
theorem xor_inj_r {a b c : Nat} (h : c ^^^ a = c ^^^ b) : a = b := xor_inj_l (c := c) (by rw [Nat.xor_comm a, Nat.xor_comm b]; exact h)
theorem xor_ne {a b : Nat} (hb : b ≠ 0) : a ^^^ b ≠ a := fun h => hb (by
  have : a ^^^ b = a ^^^ 0 := by rw [Nat.xor_zero]; exact h
  exact xor_inj_r this)
theorem step_inj_h {a b c : Nat} (ha : a < 18446744073709551616) (hb : b < 18446744073709551616) (hc : c < 256) (h : stepN a c = stepN b c) : a = b :=
  xor_inj_l (fac_inj (xor_lt64 ha (by omega)) (xor_lt64 hb (by omega)) h)
theorem step_inj_c {h c d : Nat} (hh : h < 18446744073709551616) (hc : c < 256) (hd : d < 256) (e : stepN h c = stepN h d) : c = d :=
  xor_inj_r (fac_inj (xor_lt64 hh (by omega)) (xor_lt64 hh (by omega)) e)
theorem byteOf_lt {xs : List Value} (h : IsB xs) {v : Value} (hv : v ∈ xs) : byteOf v < 256 := by
  obtain ⟨m, hm, rfl⟩ := h v hv
  simpa [byteOf] using hm
theorem digN_inj : ∀ (xs : List Value) (a b : Nat), IsB xs → a < 18446744073709551616 → b < 18446744073709551616 → digN a xs = digN b xs → a = b
  | [], a, b, _, _, _, h => h
  | v :: r, a, b, hx, ha, hb, h => step_inj_h ha hb (byteOf_lt hx List.mem_cons_self) (digN_inj r _ _ (fun u hu => hx u (List.mem_cons_of_mem _ hu)) (stepN_lt _ _) (stepN_lt _ _) (by simpa [digN_cons] using h))
theorem digN_byte {h : Nat} {pre post : List Value} {c d : Nat} (hh : h < 18446744073709551616) (hp : IsB post) (hc : c < 256) (hd : d < 256) (hne : c ≠ d) :
    digN h (pre ++ .int .u8 c :: post) ≠ digN h (pre ++ .int .u8 d :: post) := fun e => by
  rw [digN_append, digN_append, digN_cons, digN_cons] at e
  have h1 := digN_inj post _ _ hp (stepN_lt _ _) (stepN_lt _ _) e
  exact hne (step_inj_c (digN_lt pre h hh) (by simpa [byteOf] using hc) (by simpa [byteOf] using hd) (by simpa [byteOf] using h1))
theorem isB_nums : ∀ ks : List Nat, IsB (ks.flatMap numC)
  | [] => fun v hv => absurd hv List.not_mem_nil
  | k :: r => by rw [List.flatMap_cons]; exact isB_append (isB_num k) (isB_nums r)
theorem sumN_inj {xs ys : List Value} {z : ByteArray} {ks : List Nat} (hz : z.size < 256) (h : sumN xs z ks = sumN ys z ks) : digN F0 xs = digN F0 ys := by
  have l := fun (a : List Value) => digN_lt a F0 F0_lt
  have h1 := digN_inj _ _ _ (isB_nums ks) (digN_lt _ _ (digN_lt _ _ (l xs))) (digN_lt _ _ (digN_lt _ _ (l ys))) h
  have h2 := digN_inj _ _ _ (isB_cells z) (digN_lt _ _ (l xs)) (digN_lt _ _ (l ys)) h1
  exact digN_inj _ _ _ (isB_one _ hz) (l xs) (l ys) h2

/-- A number whose last byte is another one. -/
theorem numC_last (m : Nat) : numC m = (numC m).take 7 ++ [.int .u8 ((m % 256 : Nat) : Int)] := by
  have := numC_take m 7 (by omega)
  rw [List.take_of_length_le (by rw [numC_len]; omega)] at this
  rw [this]
  congr 2
  unfold numB
  simp
theorem xor_div {m c j : Nat} (hc : c < 256) (hj : 8 ≤ j) : (m ^^^ c) / 2 ^ j = m / 2 ^ j := by
  apply Nat.eq_of_testBit_eq
  intro i
  rw [Nat.testBit_div_two_pow, Nat.testBit_div_two_pow, Nat.testBit_xor, Nat.testBit_lt_two_pow (x := c) (Nat.lt_of_lt_of_le (show c < 2 ^ 8 by omega) (Nat.pow_le_pow_right (by omega) (by omega)))]
  simp
theorem numC_xor (m c : Nat) (hc : c < 256) : numC (m ^^^ c) = (numC m).take 7 ++ [.int .u8 (((m ^^^ c) % 256 : Nat) : Int)] := by
  rw [numC_last (m ^^^ c)]
  congr 1
  apply List.ext_getElem?
  intro k
  rw [List.getElem?_take, List.getElem?_take]
  split
  · rename_i hk
    simp only [numC, List.getElem?_map]
    rw [List.getElem?_range (by omega)]
    simp only [Option.map_some, Option.some.injEq]
    unfold numB
    rw [xor_div hc (by omega)]
  · rfl
theorem xor_mod_ne {m c : Nat} (hc : c < 256) (h0 : c ≠ 0) : m % 256 ≠ (m ^^^ c) % 256 := by
  have e : (m ^^^ c) % 2 ^ 8 = m % 2 ^ 8 ^^^ c % 2 ^ 8 := Nat.xor_mod_two_pow
  rw [Nat.mod_eq_of_lt (show c < 2 ^ 8 by omega)] at e
  intro h
  have h2 : (m ^^^ c) % 256 = m % 256 ^^^ c := e
  rw [h2] at h
  exact xor_ne h0 h.symm
/-- A row with a number in it, and the same with one byte of the number changed. -/
theorem dig_num {h : Nat} {pre post : List Value} {m c : Nat} (hh : h < 18446744073709551616) (hp : IsB post) (hc : c < 256) (h0 : c ≠ 0) :
    digN h (pre ++ (numC m ++ post)) ≠ digN h (pre ++ (numC (m ^^^ c) ++ post)) := by
  rw [numC_xor m c hc]
  conv => lhs; rw [numC_last m]
  have e : ∀ b : Nat, pre ++ ((numC m).take 7 ++ [.int .u8 (b : Int)] ++ post) = (pre ++ (numC m).take 7) ++ .int .u8 (b : Int) :: post := fun b => by simp
  rw [e, e]
  exact digN_byte hh hp (Nat.mod_lt _ (by omega)) (Nat.mod_lt _ (by omega)) (xor_mod_ne hc h0)
/-- Another lifetime by one byte: another digest. -/
theorem dig_life {x : ByteArray} {t lf c : Nat} {l : List Dt} (hl : l.length < 256) (hd : ∀ d ∈ l, d.1.size < 256) (hc : c < 256) (h0 : c ≠ 0) : digN F0 (setC x t lf l) ≠ digN F0 (setC x t (lf ^^^ c) l) := by
  have e : ∀ n, setC x t n l = (textC x ++ numC t) ++ (numC n ++ ([.int .u8 (l.length : Int)] ++ l.flatMap datC)) := fun n => by simp [setC]
  rw [e, e]
  exact dig_num F0_lt (isB_append (isB_one _ hl) (isB_flat l hd)) hc h0
/-- Another first number of one datum by one byte: another digest. -/
theorem dig_datum {x : ByteArray} {t lf c : Nat} {pre post : List Dt} {s : ByteArray} {n : Nat} {m : Int} (hd : ∀ d ∈ post, d.1.size < 256) (hc : c < 256) (h0 : c ≠ 0) :
    digN F0 (setC x t lf (pre ++ (s, (n : Int), m) :: post)) ≠ digN F0 (setC x t lf (pre ++ (s, ((n ^^^ c : Nat) : Int), m) :: post)) := by
  have e : ∀ k : Nat, setC x t lf (pre ++ (s, (k : Int), m) :: post) = (textC x ++ numC t ++ numC lf ++ [.int .u8 ((pre.length + (post.length + 1) : Nat) : Int)] ++ pre.flatMap datC ++ textC s) ++ (numC k ++ (numC m.toNat ++ post.flatMap datC)) := fun k => by simp [setC, datC]
  rw [e, e]
  exact dig_num F0_lt (isB_append (isB_num _) (isB_flat post hd)) hc h0
end Go.Proofs.YtpkjpogkimjpoaaGreatDoor
