/- The contracts of fails and head of the statements about package lexer; no condition beyond those that each theorem names. -/
import Derived.Test.YtojofkjnakiliaaDoorL14
namespace Go.Proofs.YtojofkjnakiliaaDoor
set_option linter.unusedSimpArgs false
set_option linter.unusedVariables false
open Go.RowKit Go.Maps Go.Shelf
open NmP

/-- A slice that holds tokens. -/
def SlT (v : Value) (l : List Tok) (W : World) : Prop := (l = [] ∧ ∃ p c, v = .slice p 0 c) ∨ ∃ b off c, v = .slice (some ⟨b, off, none⟩) l.length c ∧ b < W.heap.size ∧ RT b off l W
theorem SlT.keep {v : Value} {l : List Tok} {W W' : World} (h : SlT v l W) (hb : Below W.heap.size W W') : SlT v l W' := by
  rcases h with h | ⟨b, off, c, h1, h2, h3⟩
  · exact .inl h
  · exact .inr ⟨b, off, c, h1, Nat.lt_of_lt_of_le h2 hb.size, h3.keep h2 hb⟩
theorem SlT.owned {v : Value} {l : List Tok} {W : World} {base : Nat} (h : W.ownsRow base 28 4 v l.length (rowT l)) : SlT v l W := by
  rcases h.2 with ⟨h1, h2⟩ | ⟨g, cap, cur, h1, _, h3, _⟩
  · exact .inl ⟨List.eq_nil_of_length_eq_zero h2, none, 0, h1⟩
  · subst h1
    exact .inr ⟨g, 0, cap, rfl, (Array.getElem?_eq_some_iff.1 h3).1, RT.owned h⟩
theorem SlT.form {v : Value} {l : List Tok} {W : World} (h : SlT v l W) : ∃ p c, v = .slice p l.length c := by
  rcases h with ⟨h, p, c, h2⟩ | ⟨b, off, c, h1, _⟩
  · exact ⟨p, c, by rw [h2, h]; rfl⟩
  · exact ⟨_, c, h1⟩
theorem SlT.built (W : World) (l : List Tok) (cs : Array Value) (h : cs = (rowT l).toArray) (n : Nat) (hn : n = l.length) (c : Nat) : SlT (.slice (some ⟨W.heap.size, 0, none⟩) n c) l (W.alloc (.cells cs 28)) := by
  subst h hn
  refine .inr ⟨W.heap.size, 0, c, rfl, by simp, fun m u hm => ?_⟩
  rw [Nat.zero_add, World.cell?_alloc_at _ _ _ _ rfl]
  simpa using hm
/-- Tokens of a size that all sums of offsets hold. -/
def Small (l : List Tok) : Prop := l.length ≤ 100000 ∧ ∀ t ∈ l, t.a ≤ 1000000

theorem same_any {la lb : List Tok} (y : Nat) {va vb : Value} {w : World} (ha : SlT va la w) (hb : SlT vb lb w) (hn : Small la) (hm : lb.length ≤ 100000) (hy : y ≤ 1000000) :
    Calls Tryd.prog 11 #[va, vb, .int .i64 (y : Int)] w fun e w' => e = .returned (.bool (sameT la lb y)) ∧ Below w.heap.size w w' := by
  by_cases hl : la.length = lb.length
  · rcases ha with ⟨rfl, p, c, rfl⟩ | ⟨b1, o1, c1, rfl, l1, r1⟩
    · rcases hb with ⟨rfl, q, d, rfl⟩ | ⟨b2, o2, c2, rfl, l2, r2⟩
      · exact same_none p q c d y w
      · obtain rfl : lb = [] := List.eq_nil_of_length_eq_zero (by simpa using hl.symm)
        exact same_none p _ c _ y w
    · rcases hb with ⟨rfl, q, d, rfl⟩ | ⟨b2, o2, c2, rfl, l2, r2⟩
      · obtain rfl : la = [] := List.eq_nil_of_length_eq_zero (by simpa using hl)
        exact same_none _ q _ d y w
      · exact same_row la lb y b1 o1 c1 b2 o2 c2 w hn.1 hl hy hn.2 l1 l2 r1 r2
  · obtain ⟨p, c, rfl⟩ := ha.form
    obtain ⟨q, d, rfl⟩ := hb.form
    have h1 := hn.1
    rw [sameT_len hl]
    exact same_diff p q _ _ c d y w (by unfold maxLen; omega) (by unfold maxLen; omega) hl

theorem ret_bool {a b : Bool} (h : a = b) : Ending.returned (.bool a) = .returned (.bool b) := by rw [h]

set_option maxHeartbeats 1000000 in
theorem fails_any (s : ByteArray) (f at_ : Nat) (w : World) (hs : s.size ≤ maxLen) (hlen : (lexR s.toList).1.length ≤ 2000) :
    Calls Tryd.prog 12 #[.string s, .int .i64 (f : Int), .int .i64 (at_ : Int)] w fun e w' => e = .returned (.bool (decide ((lexR s.toList).1 = [] ∧ (lexR s.toList).2.1 = f ∧ (lexR s.toList).2.2 = at_))) ∧ Below w.heap.size w w' := by
  have hL := Lex_all s w hs
  generalize lexR s.toList = R at *
  obtain ⟨ts, er, k⟩ := R
  have HL := Lib.hid hL
  clear hL hs
  simp only at hlen ⊢
  have hR : ∃ R : Bool, R = decide (ts = [] ∧ er = f ∧ k = at_) := ⟨_, rfl⟩
  obtain ⟨R, hR⟩ := hR
  rw [← hR]
  have HR := Lib.hid hR
  clear hR
  go_enter Tryd.func12, Tryd.ntmps12
  go_wp2_with (go_at_call 5; refine HL.out.mono ?_; rintro e w1 ⟨sl, rfl, ho, hb⟩; obtain ⟨p, c, rfl⟩ := row_form ho; have HB := Lib.hid hb; clear hb ho)
  all_goals go_ret
  all_goals refine ⟨?_, HB.out⟩
  all_goals rw [HR.out]
  all_goals refine ret_bool ?_
  all_goals rw [Bool.eq_iff_iff]
  all_goals clear HL HR HB
  all_goals simp_all
  all_goals omega

def mkT (k : Nat) (x : Bs) (a : Nat) : Tok := ⟨k, ofL x, 0, a⟩
theorem word_mk (x : ByteArray) (a : Int) (w : World) : Calls Tryd.prog 9 #[.string x, .int .i64 a] w fun e w' => e = .returned (.agg #[.int .i64 1, .string x, .int .i64 0, .int .i64 a]) ∧ Below w.heap.size w w' := by
  go_enter Tryd.func9, Tryd.ntmps9
  go_wp2
  refine bodyPost_ret (v := .agg #[.int .i64 1, .string x, .int .i64 0, .int .i64 a]) (by simp [results, Tryd.f9, go_sem]) rfl ⟨rfl, ?_⟩
  exact (Below.refl _ w).alloc (Nat.le_refl _) _
theorem sign_mk (x : ByteArray) (a : Int) (w : World) : Calls Tryd.prog 10 #[.string x, .int .i64 a] w fun e w' => e = .returned (.agg #[.int .i64 3, .string x, .int .i64 0, .int .i64 a]) ∧ Below w.heap.size w w' := by
  go_enter Tryd.func10, Tryd.ntmps10
  go_wp2
  refine bodyPost_ret (v := .agg #[.int .i64 3, .string x, .int .i64 0, .int .i64 a]) (by simp [results, Tryd.f10, go_sem]) rfl ⟨rfl, ?_⟩
  exact (Below.refl _ w).alloc (Nat.le_refl _) _

def hs1 : Bs := [122, 111, 110, 101, 32, 120, 46, 32, 123, 32, 64, 32, 116, 101, 120, 116, 32, 34, 97, 32, 98, 34, 59, 32, 125]
def ht1 : List Tok := [⟨1, ofL [122, 111, 110, 101], 0, 0⟩, ⟨1, ofL [120, 46], 0, 5⟩, ⟨3, ofL [123], 0, 8⟩, ⟨3, ofL [64], 0, 10⟩, ⟨1, ofL [116, 101, 120, 116], 0, 12⟩, ⟨1, ofL [34, 97, 32, 98, 34], 0, 17⟩, ⟨3, ofL [59], 0, 22⟩, ⟨3, ofL [125], 0, 24⟩]
def hs2 : Bs := [48, 97, 32, 55, 32, 35, 32, 56, 10, 46, 32, 42, 46, 97]
def ht2 : List Tok := [⟨1, ofL [48, 97], 0, 0⟩, ⟨2, ofL [], 7, 3⟩, ⟨1, ofL [46], 0, 9⟩, ⟨1, ofL [42, 46, 97], 0, 11⟩]
theorem hr1 : lexR hs1 = (ht1, 0, 0) := by kernel_rfl
theorem hr2 : lexR hs2 = (ht2, 0, 0) := by kernel_rfl
theorem hr3 : lexR [45, 97] = ([], 10, 0) := by kernel_rfl
theorem hr4 : lexR [32, 46, 97] = ([], 10, 1) := by kernel_rfl
theorem hr5 : lexR [97, 32, 48, 49] = ([], 10, 2) := by kernel_rfl
theorem hr6 : lexR [49, 48, 48, 48, 48, 48, 48, 48, 48, 49] = ([], 3, 0) := by kernel_rfl
theorem hr7 : lexR [34, 34] = ([], 10, 0) := by kernel_rfl
theorem same_self : ∀ l : List Tok, sameT l l 0 = true
  | [] => rfl
  | t :: r => by unfold sameT same1; rw [same_self r]; simp
theorem fails_lit (l : Bs) (f a : Nat) (h : lexR l = ([], f, a)) (hl : l.length ≤ 100) (w : World) : Calls Tryd.prog 12 #[.string (ofL l), .int .i64 (f : Int), .int .i64 (a : Int)] w fun e w' => e = .returned (.bool true) ∧ Below w.heap.size w w' := by
  have := fails_any (ofL l) f a w (by unfold maxLen; rw [ofL_size]; omega) (by rw [ofL_toList, h]; simp)
  rw [ofL_toList, h] at this
  simpa using this
theorem Lex_lit (l : Bs) (ts : List Tok) (h : lexR l = (ts, 0, 0)) (hl : l.length ≤ 100) (w : World) : Calls Tryd.prog 5 #[.string (ofL l)] w fun e w' => ∃ sl, e = .returned (.tuple #[sl, .int .i64 0, .int .i64 0]) ∧ SlT sl ts w' ∧ Below w.heap.size w w' := by
  have := Lex_all (ofL l) w (by unfold maxLen; rw [ofL_size]; omega)
  rw [ofL_toList, h] at this
  exact this.mono fun e w' ⟨sl, he, ho, hb⟩ => ⟨sl, he, SlT.owned ho, hb⟩

theorem same_lit {l : List Tok} {va vb : Value} {w : World} (ha : SlT va l w) (hb : SlT vb l w) (hn : Small l) : Calls Tryd.prog 11 #[va, vb, .int .i64 0] w fun e w' => e = .returned (.bool true) ∧ Below w.heap.size w w' := by
  have := same_any 0 ha hb hn hn.1 (by omega)
  rw [same_self] at this
  exact this
theorem below_1 (W : World) (o : Obj) : Below W.heap.size W (W.alloc o) := (Below.refl _ _).alloc (Nat.le_refl _) _
theorem small1 : Small ht1 := ⟨by decide, by decide⟩
theorem small2 : Small ht2 := ⟨by decide, by decide⟩
end Go.Proofs.YtojofkjnakiliaaDoor
