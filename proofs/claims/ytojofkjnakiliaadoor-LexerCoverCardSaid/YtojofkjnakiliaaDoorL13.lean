/- What Lex of package lexer returns, as a plain function of the list of the source's bytes; no condition beyond those that each theorem names. -/
import Derived.Test.YtojofkjnakiliaaDoorL12
namespace Go.Proofs.YtojofkjnakiliaaDoor
set_option linter.unusedSimpArgs false
set_option linter.unusedVariables false
open Go.RowKit Go.Maps Go.Shelf
open NmP

def ofL (l : Bs) : ByteArray := ⟨l.toArray⟩
theorem ofL_toList (l : Bs) : (ofL l).toList = l := by rw [tl]; rfl
theorem ofL_size (l : Bs) : (ofL l).size = l.length := rfl
theorem eq_ofL {s : ByteArray} {l : Bs} (h : s.toList = l) : s = ofL l := by
  subst h
  rw [tl]
  rfl
theorem toList_inj {s t : ByteArray} (h : s.toList = t.toList) : s = t := (eq_ofL h).trans (eq_ofL rfl).symm

/-- A token without its place: its length (0: there is none), and what is wrong with it. -/
structure PT where
  k : Nat
  x : Bs
  n : Nat
  len : Nat
  e : Nat
def badP : PT := ⟨0, [], 0, 0, 10⟩
def wordP (r : Bs) : PT := if r.length ≤ 60 then ⟨1, r, 0, r.length, 0⟩ else ⟨0, [], 0, r.length, 3⟩
def numP (r : Bs) : PT :=
  if 1 < r.length ∧ (r.headD 0).toNat = 48 then ⟨0, [], 0, r.length, 10⟩
  else match numL r 0 with
  | none => ⟨0, [], 0, r.length, 3⟩
  | some n => ⟨2, [], n, r.length, 0⟩
def textP (l : Bs) : PT :=
  match quoteL (l.drop 1) 0 with
  | none => badP
  | some q => if q = 0 then badP else if 40 < q then ⟨0, [], 0, q + 2, 3⟩ else ⟨1, l.take (q + 2), 0, q + 2, 0⟩
def runOf (l : Bs) : Bs := l.take (runL l)
def endK (k : Nat) (l : Bs) : PT :=
  if k = 3 then (if (runOf l).all (fun c => kindN c.toNat = 3) then numP (runOf l) else wordP (runOf l))
  else if k = 4 ∨ k = 6 then wordP (runOf l)
  else if k = 5 then (if runOf l = [46] then wordP [46] else badP)
  else if k = 7 then textP l
  else if k = 8 then ⟨3, l.take 1, 0, 1, 0⟩
  else badP
def endP (l : Bs) : PT := endK (kindN (l.headD 0).toNat) l

/-- The same, at a place. -/
def PT.at_ (p : PT) (i : Nat) : TkR := ⟨p.k, ofL p.x, p.n, if p.len = 0 then 0 else i + p.len, p.e⟩

theorem runOf_len (l : Bs) : (runOf l).length = runL l := by
  unfold runOf
  rw [List.length_take]
  have := runL_le l
  omega
theorem ext_run (s : ByteArray) (i : Nat) : (s.extract i (runAt s i)).toList = runOf (s.toList.drop i) := by
  rw [tl_sub]; unfold runAt runOf; rw [Nat.add_sub_cancel_left]
theorem ext_size {s : ByteArray} {x : Bs} (h : s.toList = x) : s.size = x.length := by rw [← h, tl_len]
theorem quote_shift : ∀ (l : Bs) (i : Nat), quoteL l i = (quoteL l 0).map (· + i)
  | [], _ => rfl
  | c :: t, i => by
    unfold quoteL
    by_cases h : c.toNat = 10
    · rw [if_pos h, if_pos h]; rfl
    · rw [if_neg h, if_neg h]
      by_cases h2 : c.toNat = 34
      · rw [if_pos h2, if_pos h2]; simp
      · rw [if_neg h2, if_neg h2, quote_shift t (i + 1), quote_shift t (0 + 1)]
        cases quoteL t 0 with
        | none => rfl
        | some q => simp; omega

theorem wordR_at (x : ByteArray) (i m : Nat) (hm : x.size = m) (h0 : m ≠ 0) : wordR x (i + m) = (wordP x.toList).at_ i := by
  unfold wordR wordP PT.at_
  rw [tl_len, hm]
  split
  · simp only [if_neg h0]
    rw [← eq_ofL (s := x) rfl]
  · simp only [if_neg h0]
    rfl
theorem numR_at (x : ByteArray) (i m : Nat) (hm : x.size = m) (h0 : m ≠ 0) : numR x (i + m) = (numP x.toList).at_ i := by
  unfold numR numP PT.at_
  rw [tl_len, hm]
  split
  · simp only [if_neg h0]; rfl
  · cases numL x.toList 0 with
    | none => simp only [if_neg h0]; rfl
    | some n => simp only [if_neg h0]; rfl

theorem dotS : (⟨#[46]⟩ : ByteArray).toList = [46] := by rw [tl]
theorem endR_at {s : ByteArray} {i : Nat} (h : i < s.size) : endR s i = (endP (s.toList.drop i)).at_ i := by
  have hx := byteAt_eq h
  have hd := drop_cons h
  have hrl : runAt s i = i + runL (s.toList.drop i) := rfl
  have he := ext_run s i
  have hes : (s.extract i (runAt s i)).size = runL (s.toList.drop i) := by rw [ext_size he, runOf_len]
  have hhead : ((s.toList.drop i).headD 0).toNat = byteAt s i := by rw [hd, hx]; rfl
  have hrun : 3 ≤ kindN (byteAt s i) ∧ kindN (byteAt s i) ≤ 6 → runL (s.toList.drop i) ≠ 0 := by
    intro hk
    rw [hd]
    unfold runL
    rw [if_pos (by rw [← hx]; exact hk)]
    omega
  have hX : ∃ x, s.extract i (runAt s i) = x := ⟨_, rfl⟩
  obtain ⟨x, hX⟩ := hX
  rw [hX] at he hes
  unfold endR endP
  rw [hhead, hX]
  generalize kindN (byteAt s i) = k at *
  unfold endK
  by_cases k3 : k = 3
  · rw [if_pos k3, if_pos k3]
    have h0 := hrun (by omega)
    unfold digitR
    rw [hX]
    have ha : allD x ↔ ((runOf (s.toList.drop i)).all fun c => kindN c.toNat = 3) = true := by
      rw [← he]
      unfold allD
      rw [List.all_eq_true]
      constructor
      · intro q c hc
        obtain ⟨j, hj, rfl⟩ := List.mem_iff_getElem.1 hc
        rw [tl_len] at hj
        have h2 := tl_get _ j hj
        rw [List.getElem?_eq_getElem (by rw [tl_len]; exact hj)] at h2
        rw [Option.some.inj h2]
        simpa using q j hj
      · intro q j hj
        have h2 := tl_get _ j hj
        simpa using q _ (List.mem_of_getElem? h2)
    by_cases hal : allD x
    · rw [if_pos hal, if_pos (ha.1 hal), hrl, numR_at _ i _ hes h0, he]
    · rw [if_neg hal, if_neg (fun q => hal (ha.2 q)), hrl, wordR_at _ i _ hes h0, he]
  · rw [if_neg k3, if_neg k3]
    by_cases k4 : k = 4 ∨ k = 6
    · rw [if_pos k4, if_pos k4, hrl, wordR_at _ i _ hes (hrun (by omega)), he]
    · rw [if_neg k4, if_neg k4]
      by_cases k5 : k = 5
      · rw [if_pos k5, if_pos k5]
        unfold markR
        rw [hX]
        by_cases hm : runOf (s.toList.drop i) = [46]
        · have hm2 : x = ⟨#[46]⟩ := toList_inj (by rw [he, hm, dotS])
          rw [if_pos hm2, if_pos hm]
          have h1 : runL (s.toList.drop i) = 1 := by rw [← runOf_len, hm]; rfl
          rw [hrl, h1, wordR_at _ i 1 rfl (by omega), dotS]
        · have hm2 : x ≠ ⟨#[46]⟩ := fun q => hm (by rw [← he, q, dotS])
          rw [if_neg hm2, if_neg hm]
          rfl
      · rw [if_neg k5, if_neg k5]
        by_cases k7 : k = 7
        · rw [if_pos k7, if_pos k7]
          unfold textR textP
          rw [quote_shift, List.drop_drop]
          cases hq : quoteL (s.toList.drop (i + 1)) 0 with
          | none => rfl
          | some q =>
            simp only [Option.map_some]
            by_cases q0 : q = 0
            · rw [if_pos (by omega)]; simp only [if_pos q0]; rfl
            · rw [if_neg (by omega)]
              simp only [if_neg q0]
              by_cases q4 : 40 < q
              · rw [if_pos (by omega)]; simp only [if_pos q4]
                unfold PT.at_
                simp only [if_neg (show ¬ q + 2 = 0 by omega)]
                rw [show q + (i + 1) + 1 = i + (q + 2) by omega]
                rfl
              · rw [if_neg (by omega)]; simp only [if_neg q4]
                unfold PT.at_
                simp only [if_neg (show ¬ q + 2 = 0 by omega)]
                rw [show q + (i + 1) + 1 = i + (q + 2) by omega, eq_ofL (tl_sub s i (i + (q + 2))), Nat.add_sub_cancel_left]
        · rw [if_neg k7, if_neg k7]
          by_cases k8 : k = 8
          · rw [if_pos k8, if_pos k8]
            unfold PT.at_
            simp only [if_neg (show ¬ 1 = 0 by omega)]
            rw [eq_ofL (tl_sub s i (i + 1)), Nat.add_sub_cancel_left]
          · rw [if_neg k8, if_neg k8]
            rfl

/-- A token, as a list of bytes, with its place. -/
structure PTok where
  k : Nat
  x : Bs
  n : Nat
  a : Nat
deriving DecidableEq
def PTok.tok (t : PTok) : Tok := ⟨t.k, ofL t.x, t.n, t.a⟩
inductive Out where
  | ok (ts : List PTok)
  | bad (pre : List PTok) (z : Bool) (e a : Nat)
deriving DecidableEq
def Out.cons (t : PTok) : Out → Out
  | .ok ts => .ok (t :: ts)
  | .bad pre z e a => .bad (t :: pre) z e a
/-- All tokens of a text whose first byte stands at a place, as many as there are, up to the first error. -/
def lexO : Nat → Bs → Nat → Out
  | 0, _, o => .bad [] true 10 o
  | n + 1, l, o =>
    match l.drop (skipG false l) with
    | [] => .ok []
    | c :: t =>
      if (endP (c :: t)).len = 0 then .bad [] true 10 (o + skipG false l)
      else if (endP (c :: t)).e ≠ 0 then .bad [] false (endP (c :: t)).e (o + skipG false l)
      else (lexO n ((c :: t).drop (endP (c :: t)).len) (o + skipG false l + (endP (c :: t)).len)).cons ⟨(endP (c :: t)).k, (endP (c :: t)).x, (endP (c :: t)).n, o + skipG false l⟩
/-- The result, with at most 2000 tokens. -/
def res (out : List Tok) : Out → List Tok × Nat × Nat
  | .ok ts => if out.length + ts.length ≤ 2000 then (out ++ ts.map PTok.tok, 0, 0) else ([], 2, (ts.map PTok.a).getD (2000 - out.length) 0)
  | .bad pre z e a => if 2000 < out.length + pre.length then ([], 2, (pre.map PTok.a).getD (2000 - out.length) 0) else if out.length + pre.length = 2000 ∧ z = false then ([], 2, a) else ([], e, a)

theorem res_cons (out : List Tok) (t : PTok) (O : Out) (h : out.length < 2000) : res out (O.cons t) = res (out ++ [t.tok]) O := by
  have hg : ∀ ts : List PTok, ((t :: ts).map PTok.a).getD (2000 - out.length) 0 = (ts.map PTok.a).getD (2000 - (out.length + 1)) 0 := fun ts => by
    rw [show 2000 - out.length = (2000 - (out.length + 1)) + 1 by omega]
    rfl
  cases O with
  | ok ts =>
    simp only [Out.cons, res, List.length_append, List.length_cons, List.length_nil, Nat.zero_add]
    rw [hg]
    by_cases q : out.length + (ts.length + 1) ≤ 2000
    · rw [if_pos q, if_pos (by omega)]; simp
    · rw [if_neg q, if_neg (by omega)]
  | bad pre z e a =>
    simp only [Out.cons, res, List.length_append, List.length_cons, List.length_nil, Nat.zero_add]
    rw [hg]
    simp only [show out.length + (pre.length + 1) = out.length + 1 + pre.length by omega]
theorem res_full (out : List Tok) (t : PTok) (O : Out) (h : out.length = 2000) : res out (O.cons t) = ([], 2, t.a) := by
  cases O with
  | ok ts =>
    simp only [Out.cons, res]
    rw [if_neg (by simp; omega), h]
    rfl
  | bad pre z e a =>
    simp only [Out.cons, res]
    rw [if_pos (by simp; omega), h]
    rfl

theorem lexL_res (s : ByteArray) : ∀ (n j : Nat) (out : List Tok), out.length ≤ 2000 → j ≤ s.size → s.size < j + n → lexL s n (gapAt s false j) out = res out (lexO n (s.toList.drop j) j)
  | 0, j, out, h, hj, hn => by omega
  | n + 1, j, out, h, hj, hn => by
    have hg : gapAt s false j = j + skipG false (s.toList.drop j) := rfl
    have hle := gapAt_le (s := s) false hj
    have hdd : (s.toList.drop j).drop (skipG false (s.toList.drop j)) = s.toList.drop (gapAt s false j) := by rw [List.drop_drop, hg]
    unfold lexL lexO
    rw [hdd]
    by_cases h1 : gapAt s false j < s.size
    · rw [if_pos h1]
      have hend := endR_at h1
      have hd := drop_cons h1
      rw [hend]
      rw [hd]
      simp only
      rw [← hd]
      generalize hp : endP (s.toList.drop (gapAt s false j)) = p at *
      rw [← hg]
      by_cases q0 : p.len = 0
      · rw [if_pos (by unfold PT.at_; simp only [if_pos q0]), if_pos q0]
        simp only [res, List.length_nil]
        rw [if_neg (by omega), if_neg (by simp)]
      · have hnx : (p.at_ (gapAt s false j)).next = gapAt s false j + p.len := by unfold PT.at_; simp only [if_neg q0]
        rw [hnx, if_neg (by omega), if_neg q0]
        have hlen := end_le h1 (by rw [hend, hnx]; omega)
        rw [hend, hnx] at hlen
        by_cases q1 : out.length = 2000
        · rw [if_pos q1]
          by_cases q2 : p.e = 0
          · rw [if_neg (by simp [q2]), res_full _ _ _ q1]
          · rw [if_pos q2]
            simp only [res, List.length_nil]
            rw [if_neg (by omega), if_pos ⟨by omega, trivial⟩]
        · rw [if_neg q1]
          by_cases q2 : p.e = 0
          · rw [if_neg (by show ¬ p.e ≠ 0; simp [q2]), if_neg (by simp [q2]), res_cons _ _ _ (by omega), List.drop_drop]
            exact lexL_res s n (gapAt s false j + p.len) (out ++ [⟨p.k, ofL p.x, p.n, gapAt s false j⟩]) (by simp; omega) hlen.2 (by have := gapAt_ge s false j; omega)
          · rw [if_pos (by show p.e ≠ 0; exact q2), if_pos q2]
            simp only [res, List.length_nil]
            rw [if_neg (by omega), if_neg (by omega)]
            rfl
    · rw [if_neg h1, List.drop_eq_nil_of_le (by rw [tl_len]; omega)]
      simp only [res, List.length_nil]
      rw [if_pos (by omega)]
      simp

/-- What Lex returns, out of the list of bytes. -/
def lexR (l : Bs) : List Tok × Nat × Nat := if 8000 < l.length then ([], 2, 0) else res [] (lexO (l.length + 1) l 0)
theorem lexF_eq (s : ByteArray) : lexF s = lexR s.toList := by
  unfold lexF lexR
  rw [tl_len]
  split
  · rfl
  · have := lexL_res s (s.size + 1) 0 [] (by simp) (Nat.zero_le _) (by omega)
    rw [List.drop_zero] at this
    exact this

theorem Lex_big (s : ByteArray) (w : World) (hs : s.size ≤ maxLen) (h8 : 8000 < s.size) :
    Calls Tryd.prog 5 #[.string s] w fun e w' => e = .returned (.tuple #[.slice none 0 0, .int .i64 2, .int .i64 0]) ∧ w = w' := by
  unfold maxLen at hs
  go_enter Tryd.func5, Tryd.ntmps5
  go_wp2
  go_ret3
  exact ⟨rfl, rfl⟩
/-- Lex of a source. -/
theorem Lex_all (s : ByteArray) (w : World) (hs : s.size ≤ maxLen) :
    Calls Tryd.prog 5 #[.string s] w fun e w' => ∃ sl, e = .returned (.tuple #[sl, .int .i64 ((lexR s.toList).2.1 : Int), .int .i64 ((lexR s.toList).2.2 : Int)]) ∧ w'.ownsRow w.heap.size 28 4 sl (lexR s.toList).1.length (rowT (lexR s.toList).1) ∧ Below w.heap.size w w' := by
  rw [← lexF_eq]
  by_cases h8 : s.size ≤ 8000
  · exact Lex_any s w h8
  · refine (Lex_big s w hs (by omega)).mono ?_
    rintro e w' ⟨rfl, rfl⟩
    have : lexF s = ([], 2, 0) := by unfold lexF; rw [if_pos (by omega)]
    rw [this]
    exact ⟨_, rfl, World.ownsRow_nil _ _ _ _, Below.refl _ _⟩
end Go.Proofs.YtojofkjnakiliaaDoor
