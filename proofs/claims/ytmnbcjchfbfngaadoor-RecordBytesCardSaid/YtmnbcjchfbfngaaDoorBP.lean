/- The bytes of a set, and what the reader makes of them: plain; no condition beyond those that each theorem names. -/
import Derived.Test.YtmnbcjchfbfngaaDoorQ3
import Derived.Test.YtmnbcjchfbfngaaDoorB2
namespace Go.Proofs.YtmnbcjchfbfngaaDoor
set_option linter.unusedSimpArgs false
set_option linter.unusedVariables false
open Go.RowKit
open NmP

def encN (m : Nat) : Bs := (List.range 8).map (fun k => UInt8.ofNat (m / 2 ^ (56 - 8 * k) % 256))
def encT (s : Bs) : Bs := UInt8.ofNat s.length :: s
def encD (d : Dt) : Bs := encT d.1.data.toList ++ (encN d.2.1.toNat ++ encN d.2.2.toNat)
def encS (x : ByteArray) (typ life : Nat) (l : List Dt) : Bs := encT x.data.toList ++ (encN typ ++ (encN life ++ (UInt8.ofNat l.length :: l.flatMap encD)))
def cellB (c : UInt8) : Value := .int .u8 c.toNat
theorem toNat_of {n : Nat} (h : n < 256) : (UInt8.ofNat n).toNat = n := by
  rw [UInt8.toNat_ofNat']
  exact Nat.mod_eq_of_lt h
theorem encN_len (m : Nat) : (encN m).length = 8 := by simp [encN]
theorem numC_enc (m : Nat) : numC m = (encN m).map cellB := by
  unfold numC encN
  rw [List.map_map]
  refine List.map_congr_left fun k _ => ?_
  show numB m k = cellB _
  unfold numB cellB
  rw [toNat_of (Nat.mod_lt _ (by decide))]
theorem textC_enc (s : ByteArray) (h : s.size ≤ 255) : textC s = (encT s.data.toList).map cellB := by
  have h1 : s.data.toList.length = s.size := Array.length_toList
  unfold textC encT
  rw [List.map_cons]
  congr 1
  unfold cellB
  rw [h1, toNat_of (by omega)]
theorem datC_enc (d : Dt) (h : d.1.size ≤ 255) : datC d = (encD d).map cellB := by
  unfold datC encD
  rw [textC_enc d.1 h, numC_enc, numC_enc, List.map_append, List.map_append, List.append_assoc]
theorem datCs_enc : ∀ (l : List Dt), (∀ d ∈ l, d.1.size ≤ 255) → l.flatMap datC = (l.flatMap encD).map cellB
  | [], _ => rfl
  | d :: r, h => by
    rw [List.flatMap_cons, List.flatMap_cons, List.map_append, datC_enc d (h d List.mem_cons_self), datCs_enc r (fun e he => h e (List.mem_cons_of_mem _ he))]
theorem setC_enc (x : ByteArray) (typ life : Nat) (l : List Dt) (hx : x.size ≤ 255) (hl : l.length ≤ 255) (hs : ∀ d ∈ l, d.1.size ≤ 255) : setC x typ life l = (encS x typ life l).map cellB := by
  unfold setC encS
  rw [textC_enc x hx, numC_enc, numC_enc, datCs_enc l hs]
  simp only [List.map_append, List.map_cons, List.append_assoc, List.cons_append, List.nil_append]
  unfold cellB
  rw [toNat_of (by omega)]

/-! what is read of bytes -/
theorem tkV_app (a r : Bs) (n : Nat) (h : a.length = n) : tkV n (a ++ r, false) = a := by
  unfold tkV
  rw [if_neg (by simp; omega)]
  subst h
  simp
theorem tkS_app (a r : Bs) (n : Nat) (h : a.length = n) : tkS n (a ++ r, false) = (r, false) := by
  unfold tkS
  rw [if_neg (by simp; omega)]
  subst h
  simp
theorem tkV_one (c : UInt8) (r : Bs) : tkV 1 (c :: r, false) = [c] := tkV_app [c] r 1 rfl
theorem tkS_one (c : UInt8) (r : Bs) : tkS 1 (c :: r, false) = (r, false) := tkS_app [c] r 1 rfl
theorem numV_one (n : Nat) (h : n < 256) : numV [UInt8.ofNat n] = n := by
  show 0 * 256 + _ = n
  rw [toNat_of h]; omega
theorem numV_enc (m : Nat) (h : m < 18446744073709551616) : numV (encN m) = m := by
  unfold encN numV
  simp only [List.range, List.range.loop, List.map_cons, List.map_nil, List.foldl_cons, List.foldl_nil]
  rw [toNat_of (Nat.mod_lt _ (by decide)), toNat_of (Nat.mod_lt _ (by decide)), toNat_of (Nat.mod_lt _ (by decide)), toNat_of (Nat.mod_lt _ (by decide)), toNat_of (Nat.mod_lt _ (by decide)), toNat_of (Nat.mod_lt _ (by decide)), toNat_of (Nat.mod_lt _ (by decide)), toNat_of (Nat.mod_lt _ (by decide))]
  simp only [Nat.mul_zero, Nat.mul_one, Nat.reduceMul, Nat.reduceSub, Nat.reducePow, Nat.zero_mul, Nat.zero_add, Nat.div_one]
  omega
theorem txtV_enc (s r : Bs) (h : s.length ≤ 255) : txtV (encT s ++ r, false) = s := by
  unfold txtV encT
  rw [List.cons_append, tkV_one, tkS_one, numV_one _ (by omega)]
  exact tkV_app s r _ rfl
theorem txtS_enc (s r : Bs) (h : s.length ≤ 255) : txtS (encT s ++ r, false) = (r, false) := by
  unfold txtS encT
  rw [List.cons_append, tkV_one, tkS_one, numV_one _ (by omega)]
  exact tkS_app s r _ rfl
theorem wrap64_nat (n : Nat) (h : n < 9223372036854775808) : wrap64 n = n := by
  unfold wrap64
  omega
theorem ba_list (s : ByteArray) : (⟨s.data.toList.toArray⟩ : ByteArray) = s := by cases s; simp
theorem datV_enc (d : Dt) (r : Bs) (h : d.1.size ≤ 255) (hn : 0 ≤ d.2.1 ∧ d.2.1 < 9223372036854775808) (hm : 0 ≤ d.2.2 ∧ d.2.2 < 9223372036854775808) : datV (encD d ++ r, false) = d ∧ datS (encD d ++ r, false) = (r, false) := by
  have h1 : d.1.data.toList.length ≤ 255 := by rw [Array.length_toList]; exact h
  unfold datV datS encD
  rw [List.append_assoc, List.append_assoc, txtV_enc _ _ h1, txtS_enc _ _ h1, tkV_app _ _ 8 (encN_len _), tkS_app _ _ 8 (encN_len _), tkV_app _ _ 8 (encN_len _), tkS_app _ _ 8 (encN_len _), numV_enc _ (by omega), numV_enc _ (by omega), wrap64_nat _ (by omega), wrap64_nat _ (by omega), ba_list]
  refine ⟨?_, rfl⟩
  obtain ⟨x, n, m⟩ := d
  simp only at hn hm ⊢
  rw [Int.toNat_of_nonneg hn.1, Int.toNat_of_nonneg hm.1]
theorem datL_enc : ∀ (l : List Dt) (r : Bs), (∀ d ∈ l, d.1.size ≤ 255 ∧ (0 ≤ d.2.1 ∧ d.2.1 < 9223372036854775808) ∧ (0 ≤ d.2.2 ∧ d.2.2 < 9223372036854775808)) → datL l.length (l.flatMap encD ++ r, false) = l ∧ datE l.length (l.flatMap encD ++ r, false) = (r, false)
  | [], _, _ => ⟨rfl, rfl⟩
  | d :: t, r, h => by
    obtain ⟨h1, h2, h3⟩ := h d List.mem_cons_self
    obtain ⟨q1, q2⟩ := datV_enc d (t.flatMap encD ++ r) h1 h2 h3
    obtain ⟨q3, q4⟩ := datL_enc t r (fun e he => h e (List.mem_cons_of_mem _ he))
    rw [List.flatMap_cons, List.append_assoc, List.length_cons]
    constructor
    · show datV _ :: datL t.length (datS _) = _
      rw [q1, q2, q3]
    · show datE t.length (datS _) = _
      rw [q2, q4]
/-- What is read of the bytes of a set, with further bytes behind them. -/
theorem read_enc (x : ByteArray) (typ life : Nat) (l : List Dt) (r : Bs) (hx : x.size ≤ 255) (ht : typ < 9223372036854775808) (hf : life < 9223372036854775808) (hl : l.length ≤ 255) (hs : ∀ d ∈ l, d.1.size ≤ 255 ∧ (0 ≤ d.2.1 ∧ d.2.1 < 9223372036854775808) ∧ (0 ≤ d.2.2 ∧ d.2.2 < 9223372036854775808)) :
    rdX (encS x typ life l ++ r, false) = x ∧ rdTyp (encS x typ life l ++ r, false) = typ ∧ rdLife (encS x typ life l ++ r, false) = life ∧ rdD (encS x typ life l ++ r, false) = l ∧ rdE (encS x typ life l ++ r, false) = (r, false) := by
  have h1 : x.data.toList.length ≤ 255 := by rw [Array.length_toList]; exact hx
  have e1 : txtV (encS x typ life l ++ r, false) = x.data.toList := by unfold encS; rw [List.append_assoc]; exact txtV_enc _ _ h1
  have e2 : txtS (encS x typ life l ++ r, false) = (encN typ ++ (encN life ++ (UInt8.ofNat l.length :: (l.flatMap encD ++ r))), false) := by
    unfold encS
    rw [List.append_assoc, txtS_enc _ _ h1]
    simp
  have e3 : rdT (encS x typ life l ++ r, false) = (encN life ++ (UInt8.ofNat l.length :: (l.flatMap encD ++ r)), false) := by
    unfold rdT; rw [e2, tkS_app _ _ 8 (encN_len _)]
  have e4 : rdL (encS x typ life l ++ r, false) = (UInt8.ofNat l.length :: (l.flatMap encD ++ r), false) := by
    unfold rdL; rw [e3, tkS_app _ _ 8 (encN_len _)]
  have e5 : rdC (encS x typ life l ++ r, false) = (l.flatMap encD ++ r, false) := by
    unfold rdC; rw [e4, tkS_one]
  have e6 : rdN (encS x typ life l ++ r, false) = l.length := by
    unfold rdN; rw [e4, tkV_one, numV_one _ (by omega)]
  obtain ⟨q1, q2⟩ := datL_enc l r hs
  refine ⟨?_, ?_, ?_, ?_, ?_⟩
  · unfold rdX; rw [e1, ba_list]
  · unfold rdTyp; rw [e2, tkV_app _ _ 8 (encN_len _), numV_enc _ (by omega), wrap64_nat _ ht]
  · unfold rdLife; rw [e3, tkV_app _ _ 8 (encN_len _), numV_enc _ (by omega), wrap64_nat _ hf]
  · unfold rdD; rw [e5, e6, q1]
  · unfold rdE; rw [e5, e6, q2]
/-- The bytes of a valid set. -/
def bytesOf (x : ByteArray) (typ life : Int) (l : List Dt) : Bs := encS x typ.toNat life.toNat l
theorem valid_data {x : ByteArray} {typ life : Int} {l : List Dt} (h : setB x.toList typ life l = true) : x.size ≤ 255 ∧ (1 ≤ typ ∧ typ ≤ 8) ∧ (0 ≤ life ∧ life ≤ 100000) ∧ (1 ≤ l.length ∧ l.length ≤ 8) ∧ (∀ d ∈ l, d.1.size ≤ 60 ∧ (0 ≤ d.2.1 ∧ d.2.1 < 9223372036854775808) ∧ (0 ≤ d.2.2 ∧ d.2.2 < 9223372036854775808)) := by
  obtain ⟨f1, f2, f3, f4, f5, f6, f7, f8⟩ := setB_facts h
  have hxs := (valid_small f1).2
  rw [tl_len] at hxs
  refine ⟨by omega, ⟨f2, f3⟩, ⟨f4, f5⟩, ⟨f6, f7⟩, fun d hd => ?_⟩
  have := okD_facts (f8 d hd)
  exact ⟨this.1, by omega, by omega⟩
theorem read_valid {x : ByteArray} {typ life : Int} {l : List Dt} (r : Bs) (h : setB x.toList typ life l = true) :
    rdX (bytesOf x typ life l ++ r, false) = x ∧ rdTyp (bytesOf x typ life l ++ r, false) = typ ∧ rdLife (bytesOf x typ life l ++ r, false) = life ∧ rdD (bytesOf x typ life l ++ r, false) = l ∧ rdE (bytesOf x typ life l ++ r, false) = (r, false) := by
  obtain ⟨f1, f2, f3, f4, f5⟩ := valid_data h
  have := read_enc x typ.toNat life.toNat l r f1 (by omega) (by omega) (by omega) (fun d hd => ⟨by have := (f5 d hd).1; omega, (f5 d hd).2⟩)
  rw [Int.toNat_of_nonneg (by omega), Int.toNat_of_nonneg (by omega)] at this
  exact this
theorem readOk_valid {x : ByteArray} {typ life : Int} {l : List Dt} (r : Bs) (h : setB x.toList typ life l = true) : readOk (bytesOf x typ life l ++ r) = r.isEmpty := by
  obtain ⟨q1, q2, q3, q4, q5⟩ := read_valid r h
  unfold readOk
  rw [q1, q2, q3, q4, q5, h]
  simp

/-! what was read without fault -/
theorem tk_back {n : Nat} {s : Rs} (h : (tkS n s).2 = false) : s.2 = false ∧ s.1 = tkV n s ++ (tkS n s).1 ∧ (tkV n s).length = n := by
  unfold tkS at h ⊢
  unfold tkV
  split
  · rename_i h1
    rw [if_pos h1] at h
    cases h
  · rename_i h1
    simp only [not_or] at h1
    refine ⟨by simpa using h1.1, by simp, ?_⟩
    rw [List.length_take]
    omega
theorem txt_back {s : Rs} (h : (txtS s).2 = false) : s.2 = false ∧ s.1 = encT (txtV s) ++ (txtS s).1 := by
  have h1 := tk_back (n := numV (tkV 1 s)) (s := tkS 1 s) h
  have h2 := tk_back (n := 1) (s := s) h1.1
  obtain ⟨c, hc⟩ := List.length_eq_one_iff.1 h2.2.2
  have hn : numV [c] = c.toNat := by show 0 * 256 + c.toNat = _; omega
  refine ⟨h2.1, ?_⟩
  have h3 : (txtV s).length = c.toNat := by
    have := h1.2.2
    rw [hc, hn] at this
    unfold txtV
    rw [hc, hn]; exact this
  unfold encT
  rw [h3, UInt8.ofNat_toNat]
  have e1 := h2.2.1
  rw [hc] at e1
  rw [e1]
  show c :: (tkS 1 s).1 = c :: (txtV s ++ (txtS s).1)
  congr 1
  exact h1.2.1
theorem byte_of (c : UInt8) : UInt8.ofNat c.toNat = c := UInt8.ofNat_toNat
theorem enc_back {l : Bs} (h : l.length = 8) : encN (numV l) = l := by
  match l, h with
  | [a, b, c, d, e, f, g, k], _ =>
    have ha := a.toNat_lt
    have hb := b.toNat_lt
    have hc := c.toNat_lt
    have hd := d.toNat_lt
    have he := e.toNat_lt
    have hf := f.toNat_lt
    have hg := g.toNat_lt
    have hk := k.toNat_lt
    unfold encN numV
    simp only [List.range, List.range.loop, List.map_cons, List.map_nil, List.foldl_cons, List.foldl_nil, Nat.mul_zero, Nat.mul_one, Nat.reduceMul, Nat.reduceSub, Nat.reducePow, Nat.zero_mul, Nat.zero_add, Nat.div_one]
    rw [← byte_of a, ← byte_of b, ← byte_of c, ← byte_of d, ← byte_of e, ← byte_of f, ← byte_of g, ← byte_of k]
    simp only [byte_of]
    refine List.cons_eq_cons.2 ⟨?_, List.cons_eq_cons.2 ⟨?_, List.cons_eq_cons.2 ⟨?_, List.cons_eq_cons.2 ⟨?_, List.cons_eq_cons.2 ⟨?_, List.cons_eq_cons.2 ⟨?_, List.cons_eq_cons.2 ⟨?_, List.cons_eq_cons.2 ⟨?_, rfl⟩⟩⟩⟩⟩⟩⟩⟩
    · rw [← byte_of a]; congr 1; simp only [byte_of]; omega
    · rw [← byte_of b]; congr 1; simp only [byte_of]; omega
    · rw [← byte_of c]; congr 1; simp only [byte_of]; omega
    · rw [← byte_of d]; congr 1; simp only [byte_of]; omega
    · rw [← byte_of e]; congr 1; simp only [byte_of]; omega
    · rw [← byte_of f]; congr 1; simp only [byte_of]; omega
    · rw [← byte_of g]; congr 1; simp only [byte_of]; omega
    · rw [← byte_of k]; congr 1; simp only [byte_of]; omega
theorem num_back {l : Bs} (h : l.length = 8) (hp : 0 ≤ wrap64 (numV l)) : encN (wrap64 (numV l)).toNat = l := by
  have hlt := numV_lt 8 l h
  have e : (wrap64 (numV l)).toNat = numV l := by
    unfold wrap64 at hp ⊢
    omega
  rw [e, enc_back h]
theorem dat_back {s : Rs} (h : (datS s).2 = false) (h1 : 0 ≤ (datV s).2.1) (h2 : 0 ≤ (datV s).2.2) : s.2 = false ∧ s.1 = encD (datV s) ++ (datS s).1 := by
  have k2 := tk_back (n := 8) (s := tkS 8 (txtS s)) h
  have k1 := tk_back (n := 8) (s := txtS s) k2.1
  have k0 := txt_back k1.1
  refine ⟨k0.1, ?_⟩
  have e1 : encN (datV s).2.1.toNat = tkV 8 (txtS s) := num_back k1.2.2 h1
  have e2 : encN (datV s).2.2.toNat = tkV 8 (tkS 8 (txtS s)) := num_back k2.2.2 h2
  have e0 : (datV s).1.data.toList = txtV s := by show (txtV s).toArray.toList = _; simp
  unfold encD
  rw [e0, e1, e2, List.append_assoc, List.append_assoc]
  show s.1 = encT (txtV s) ++ (tkV 8 (txtS s) ++ (tkV 8 (tkS 8 (txtS s)) ++ (tkS 8 (tkS 8 (txtS s))).1))
  rw [← k2.2.1, ← k1.2.1]
  exact k0.2
theorem datL_back : ∀ (k : Nat) (s : Rs), (datE k s).2 = false → (∀ d ∈ datL k s, 0 ≤ d.2.1 ∧ 0 ≤ d.2.2) → s.2 = false ∧ s.1 = (datL k s).flatMap encD ++ (datE k s).1
  | 0, s, h, _ => ⟨h, rfl⟩
  | k + 1, s, h, hd => by
    have q := datL_back k (datS s) h (fun d hm => hd d (List.mem_cons_of_mem _ hm))
    have h1 := hd (datV s) List.mem_cons_self
    have q2 := dat_back q.1 h1.1 h1.2
    refine ⟨q2.1, ?_⟩
    show s.1 = encD (datV s) ++ (datL k (datS s)).flatMap encD ++ (datE k (datS s)).1
    rw [List.append_assoc, ← q.2]
    exact q2.2
/-- Bytes that are read as a set are its bytes. -/
theorem read_back {bs : Bs} (h : readOk bs = true) : setB (rdX (bs, false)).toList (rdTyp (bs, false)) (rdLife (bs, false)) (rdD (bs, false)) = true ∧ bytesOf (rdX (bs, false)) (rdTyp (bs, false)) (rdLife (bs, false)) (rdD (bs, false)) = bs := by
  unfold readOk at h
  rw [Bool.and_eq_true, Bool.and_eq_true] at h
  obtain ⟨⟨h1, h2⟩, h3⟩ := h
  refine ⟨h3, ?_⟩
  obtain ⟨f1, f2, f3, f4, f5⟩ := valid_data h3
  have hE : (rdE (bs, false)).2 = false := by simpa using h1
  have hN : (rdE (bs, false)).1 = [] := by simpa using h2
  have k4 := datL_back (rdN (bs, false)) (rdC (bs, false)) hE (fun d hd => ⟨(f5 d hd).2.1.1, (f5 d hd).2.2.1⟩)
  have k3 := tk_back (n := 1) (s := rdL (bs, false)) k4.1
  have k2 := tk_back (n := 8) (s := rdT (bs, false)) k3.1
  have k1 := tk_back (n := 8) (s := txtS (bs, false)) k2.1
  have k0 := txt_back k1.1
  have e1 : encN (rdTyp (bs, false)).toNat = tkV 8 (txtS (bs, false)) := num_back k1.2.2 (by have := f2.1; unfold rdTyp at this; omega)
  have e2 : encN (rdLife (bs, false)).toNat = tkV 8 (rdT (bs, false)) := num_back k2.2.2 (by have := f3.1; unfold rdLife at this; omega)
  have e0 : (rdX (bs, false)).data.toList = txtV (bs, false) := by show (txtV (bs, false)).toArray.toList = _; simp
  obtain ⟨c, hc⟩ := List.length_eq_one_iff.1 k3.2.2
  have hlen : (rdD (bs, false)).length = c.toNat := by
    unfold rdD
    rw [datL_len]
    unfold rdN
    rw [hc]
    show 0 * 256 + c.toNat = _
    omega
  unfold bytesOf encS
  rw [e0, e1, e2, hlen, byte_of]
  have a4 := k4.2
  have a3 := k3.2.1
  rw [hc] at a3
  have hN' : (datE (rdN (bs, false)) (rdC (bs, false))).1 = [] := hN
  rw [hN', List.append_nil] at a4
  have a0 := k0.2
  have a1 := k1.2.1
  have a2 := k2.2.1
  have b3 : (rdL (bs, false)).1 = c :: (rdD (bs, false)).flatMap encD := by
    rw [a3]
    show c :: (rdC (bs, false)).1 = _
    rw [a4]; rfl
  rw [← b3]
  show encT (txtV (bs, false)) ++ (tkV 8 (txtS (bs, false)) ++ (tkV 8 (rdT (bs, false)) ++ (tkS 8 (rdT (bs, false))).1)) = bs
  rw [← a2]
  show encT (txtV (bs, false)) ++ (tkV 8 (txtS (bs, false)) ++ (tkS 8 (txtS (bs, false))).1) = bs
  rw [← a1]
  exact a0.symm
/-- A beginning of the bytes of a set is not read. -/
theorem readOk_cut {x : ByteArray} {typ life : Int} {l : List Dt} (h : setB x.toList typ life l = true) (k : Nat) (hk : k < (bytesOf x typ life l).length) : readOk ((bytesOf x typ life l).take k) = false := by
  cases hr : readOk ((bytesOf x typ life l).take k) with
  | false => rfl
  | true =>
    obtain ⟨h1, h2⟩ := read_back hr
    have h3 := readOk_valid ((bytesOf x typ life l).drop k) h1
    rw [h2, List.take_append_drop] at h3
    have h4 := readOk_valid [] h
    rw [List.append_nil] at h4
    rw [h4] at h3
    have : ((bytesOf x typ life l).drop k).length = 0 := by
      have := List.isEmpty_iff.1 h3.symm
      rw [this]; rfl
    rw [List.length_drop] at this
    omega
theorem encD_len (d : Dt) : (encD d).length = d.1.size + 17 := by
  have h : d.1.data.toList.length = d.1.size := Array.length_toList
  simp only [encD, encT, List.length_append, List.length_cons, encN_len, h]
theorem encDs_len : ∀ (l : List Dt), (∀ d ∈ l, d.1.size ≤ 60) → (l.flatMap encD).length ≤ 77 * l.length
  | [], _ => by simp
  | a :: r, h => by
    have h1 := encDs_len r (fun d hd => h d (List.mem_cons_of_mem _ hd))
    have h2 := h a List.mem_cons_self
    rw [List.flatMap_cons, List.length_append, encD_len, List.length_cons]
    omega
theorem bytesOf_len {x : ByteArray} {typ life : Int} {l : List Dt} (h : setB x.toList typ life l = true) : 1 ≤ (bytesOf x typ life l).length ∧ (bytesOf x typ life l).length ≤ 1000 := by
  obtain ⟨f1, f2, f3, f4, f5⟩ := valid_data h
  have := encDs_len l (fun d hd => (f5 d hd).1)
  have hx : x.data.toList.length = x.size := Array.length_toList
  unfold bytesOf encS
  simp only [encT, List.length_append, List.length_cons, encN_len, hx]
  omega
theorem setC_bytes {x : ByteArray} {typ life : Int} {l : List Dt} (h : setB x.toList typ life l = true) : setC x typ.toNat life.toNat l = (bytesOf x typ life l).map cellB := by
  obtain ⟨f1, f2, f3, f4, f5⟩ := valid_data h
  exact setC_enc x _ _ l f1 (by omega) (fun d hd => by have := (f5 d hd).1; omega)
end Go.Proofs.YtmnbcjchfbfngaaDoor
