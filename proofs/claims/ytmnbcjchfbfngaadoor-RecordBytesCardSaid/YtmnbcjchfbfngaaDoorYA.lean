/- What RecordBytes needs of slices of bytes, of Read and of Bytes2; no condition beyond those that each theorem names. -/
import Derived.Test.YtmnbcjchfbfngaaDoorRE
import Derived.Test.YtmnbcjchfbfngaaDoorBP
import Derived.Laws.AppendOwn
import Derived.Laws.AppendOwnNone
namespace Go.Proofs.YtmnbcjchfbfngaaDoor
set_option linter.unusedSimpArgs false
set_option linter.unusedVariables false
open Go.RowKit
open NmP

theorem SlB.mono {r r' : Nat} {v : Value} {l : Bs} {W : World} (h : SlB r v l W) (hr : r ≤ r') : SlB r' v l W := by
  rcases h with h | ⟨g, off, c, h1, h2, h3, h4⟩
  · exact .inl h
  · exact .inr ⟨g, off, c, h1, h2, by omega, h4⟩
theorem SlB.keepB {v : Value} {l : Bs} {W W' : World} (h : SlB W.heap.size v l W) (hb : Below W.heap.size W W') : SlB W'.heap.size v l W' :=
  (h.keep (fun k hk => hb.block k hk)).mono hb.size
theorem SlB.take {r : Nat} {g off n c : Nat} {l : Bs} {W : World} (h : SlB r (.slice (some ⟨g, off, none⟩) n c) l W) (k : Nat) (hk : k ≤ n) : SlB r (.slice (some ⟨g, off, none⟩) k c) (l.take k) W := by
  rcases h with ⟨rfl, p, c', h2⟩ | ⟨g', off', c', h1, h2, h3, h4⟩
  · cases h2
    obtain rfl : k = 0 := by omega
    exact .inl ⟨rfl, _, _, rfl⟩
  · cases h1
    refine .inr ⟨g, off, c, by rw [List.length_take, Nat.min_eq_left hk], by rw [List.length_take]; omega, h3, fun m u hm => ?_⟩
    rw [List.getElem?_take] at hm
    split at hm
    · exact h4 m u hm
    · cases hm
/-- A row of bytes that the call owns is a slice of bytes. -/
theorem own_SlB {W : World} {B n : Nat} {v : Value} {xs : List Value} {bs : Bs} (h : W.ownsRow B 5 1 v n xs) (hx : xs = bs.map cellB) (hn : n = bs.length) : SlB W.heap.size v bs W := by
  subst hx hn
  rcases h.2 with ⟨rfl, h0⟩ | ⟨g, cap, cur, rfl, hb, hg, hn, _, _, ht⟩
  · exact .inl ⟨List.eq_nil_of_length_eq_zero h0, none, 0, rfl⟩
  · refine .inr ⟨g, 0, cap, rfl, hn, (Array.getElem?_eq_some_iff.1 hg).1, fun j u hj => ?_⟩
    rw [Nat.zero_add]
    have hk : (bs.map cellB)[j]? = some (.int .u8 (u.toNat : Int)) := by rw [List.getElem?_map, hj]; rfl
    rw [← ht, List.getElem?_take] at hk
    split at hk
    · exact cell_of_blk hg j _ (by simpa using hk)
    · cases hk
theorem slb_news {r : Nat} {ad : Addr} {n c : Nat} {l : Bs} {W : World} (h : SlB r (.slice (some ad) n c) l W) : ∀ (j : Nat) (u : Value), (l.map cellB)[j]? = some u → W.cell? (ad.add j) = some u := by
  intro j u hj
  rw [List.getElem?_map, Option.map_eq_some_iff] at hj
  obtain ⟨b, hb, rfl⟩ := hj
  rcases h with ⟨rfl, _⟩ | ⟨g', off', c', h1, h2, h3, h4⟩
  · cases hb
  · cases h1
    rw [Go.WideShapes.add_plain]
    exact h4 j b hb
theorem below_row {W W' : World} {B n k : Nat} {v : Value} {xs : List Value} {e : TypeId} (h : W.ownsRow B e k v n xs) (hg : W.grownBy W' v.ownBlock) {b : Nat} (hb : b < B) (hB : B ≤ W.heap.size) : Below b W W' :=
  ⟨hg.os, hg.tape, hg.output, hg.size, fun j hj => hg.block j (by omega) (fun e => by have := (h.lt _ e.symm).1; omega)⟩
theorem cellB_one (l : Bs) : ∀ u ∈ l.map cellB, u.oneCell' = true := by
  intro u hu
  obtain ⟨b, _, rfl⟩ := List.mem_map.1 hu
  rfl
set_option maxHeartbeats 1000000 in
set_option maxRecDepth 100000 in
theorem bytes2_same (r : Nat) (va vb : Value) (l : Bs) (w : World) (ha : SlB r va l w) (hb : SlB r vb l w) :
    Calls Tryd.prog 20 #[va, vb] w fun e w' => e = .returned (.bool true) ∧ Below w.heap.size w w' := by
  obtain ⟨p, c, rfl⟩ := ha.form
  obtain ⟨q, d, rfl⟩ := hb.form
  have h1 := conv_any ha
  have h2 := conv_any hb
  clear ha hb
  go_enter Tryd.func20, Tryd.ntmps20
  go_wp2
  go_ret
  exact ⟨by simp, Below.refl _ _⟩
/-- What Read returns, in one form. -/
def ReadF (bs : Bs) (w : World) (e : Ending) (w' : World) : Prop := ∃ (X : ByteArray) (T F : Int) (P : Option Addr) (N C : Nat) (E : Int), e = .returned (.tuple #[.agg #[.string X, .int .i64 T, .int .i64 F, .slice P N C], .int .i64 E]) ∧ ((E = 0 ∧ readOk bs = true ∧ X = rdX (bs, false) ∧ T = rdTyp (bs, false) ∧ F = rdLife (bs, false) ∧ SlD (.slice P N C) (rdD (bs, false)) w') ∨ (E = 10 ∧ readOk bs = false)) ∧ Below w.heap.size w w'
theorem read_f (bs : Bs) (v : Value) (w : World) (hv : SlB w.heap.size v bs w) (hl : bs.length ≤ 1000000) (hr : RulesAt w) : Calls Tryd.prog 18 #[v] w (ReadF bs w) :=
  (read_any bs v w hv hl hr).mono fun e w' ⟨h1, h2⟩ => by
    cases hk : readOk bs
    · rw [hk, if_neg (by simp)] at h1
      exact ⟨_, _, _, _, _, _, _, h1, .inr ⟨rfl, hk⟩, h2⟩
    · rw [hk, if_pos rfl] at h1
      obtain ⟨v', rfl, h3⟩ := h1
      obtain ⟨p, c, rfl⟩ := h3.form
      exact ⟨_, _, _, _, _, _, _, rfl, .inl ⟨rfl, hk, rfl, rfl, rfl, h3⟩, h2⟩
/-- What Read returns for the bytes of a valid set, for a beginning of them, and for further bytes behind them. -/
theorem read_set (x : ByteArray) (typ life : Int) (l : List Dt) (v : Value) (w : World) (hk : setB x.toList typ life l = true) (hv : SlB w.heap.size v (bytesOf x typ life l) w) (hr : RulesAt w) :
    Calls Tryd.prog 18 #[v] w fun e w' => ∃ p c, e = .returned (.tuple #[.agg #[.string x, .int .i64 typ, .int .i64 life, .slice p l.length c], .int .i64 0]) ∧ SlD (.slice p l.length c) l w' ∧ Below w.heap.size w w' := by
  obtain ⟨q1, q2, q3, q4, q5⟩ := read_valid [] hk
  have q6 := readOk_valid [] hk
  rw [List.append_nil] at q1 q2 q3 q4 q5 q6
  have := bytesOf_len hk
  refine (read_any _ v w hv (by omega) hr).mono fun e w' ⟨h1, h2⟩ => ?_
  rw [q6, q1, q2, q3, q4, if_pos (by rfl)] at h1
  obtain ⟨v', rfl, h3⟩ := h1
  obtain ⟨p, c, rfl⟩ := h3.form
  exact ⟨p, c, rfl, h3, h2⟩
theorem read_cut (x : ByteArray) (typ life : Int) (l : List Dt) (k : Nat) (v : Value) (w : World) (hk : setB x.toList typ life l = true) (hkl : k < (bytesOf x typ life l).length) (hv : SlB w.heap.size v ((bytesOf x typ life l).take k) w) (hr : RulesAt w) :
    Calls Tryd.prog 18 #[v] w fun e w' => e = .returned (.tuple #[.agg #[.string ⟨#[]⟩, .int .i64 0, .int .i64 0, .slice none 0 0], .int .i64 10]) ∧ Below w.heap.size w w' := by
  have q6 := readOk_cut hk k hkl
  have := bytesOf_len hk
  refine (read_any _ v w hv (by rw [List.length_take]; omega) hr).mono fun e w' ⟨h1, h2⟩ => ?_
  rw [q6, if_neg (by simp)] at h1
  exact ⟨h1, h2⟩
theorem read_more (x : ByteArray) (typ life : Int) (l : List Dt) (m : Bs) (v : Value) (w : World) (hk : setB x.toList typ life l = true) (hm : m.length ≤ 100) (hv : SlB w.heap.size v (bytesOf x typ life l ++ m) w) (hr : RulesAt w) :
    Calls Tryd.prog 18 #[v] w fun e w' => ∃ (X : ByteArray) (T F : Int) (P : Option Addr) (N C : Nat), e = .returned (.tuple #[.agg #[.string X, .int .i64 T, .int .i64 F, .slice P N C], .int .i64 (if m.length = 0 then 0 else 10)]) ∧ Below w.heap.size w w' := by
  have q6 := readOk_valid m hk
  have := bytesOf_len hk
  refine (read_f _ v w hv (by rw [List.length_append]; omega) hr).mono fun e w' ⟨X, T, F, P, N, C, E, h1, h2, h3⟩ => ⟨X, T, F, P, N, C, ?_, h3⟩
  rw [q6] at h2
  rw [h1]
  cases m with
  | nil =>
    rcases h2 with h | h
    · rw [h.1]; rfl
    · exact absurd h.2 (by simp)
  | cons a t =>
    rcases h2 with h | h
    · exact absurd h.2.1 (by simp)
    · rw [h.1]; rfl
/-- The bytes of a valid set. -/
theorem bytes_of (x : ByteArray) (typ life : Int) (v : Value) (l : List Dt) (w : World) (hk : setB x.toList typ life l = true) (hx : x.size ≤ maxLen) (hs : ∀ d ∈ l, d.1.size ≤ maxLen) (hA : SlD v l w) (hr : RulesAt w) :
    Calls Tryd.prog 16 #[.agg #[.string x, .int .i64 typ, .int .i64 life, v]] w fun e w' => ∃ g c, e = .returned (.tuple #[.slice (some ⟨g, 0, none⟩) (bytesOf x typ life l).length c, .int .i64 0]) ∧ (bytesOf x typ life l).length ≤ c ∧ SlB w'.heap.size (.slice (some ⟨g, 0, none⟩) (bytesOf x typ life l).length c) (bytesOf x typ life l) w' ∧ Below w.heap.size w w' := by
  have h0 := bytesOf_len hk
  refine (bytes_set x typ life v l w hk hx hs hA hr).mono fun e w' ⟨v', h1, h2⟩ => ?_
  rw [setC_bytes hk] at h2
  have hb := h2.2.1
  have h3 := OwnBuf.slb h2
  rcases h3 with ⟨h, _⟩ | ⟨g, off, c, h4, h5, h6, h7⟩
  · rw [h] at h0; simp at h0
  · have h8 := h2.1.2
    rcases h8 with ⟨h, _⟩ | ⟨g', cap, cur, fz, h, _⟩
    · rw [h] at h4; cases h4
    · rw [h] at h4
      simp only [Value.slice.injEq, Option.some.injEq, Addr.mk.injEq, and_true] at h4
      obtain ⟨⟨e1, e2⟩, e3, e4⟩ := h4
      subst e1 e2 e4
      rw [e3] at h
      exact ⟨_, _, by rw [h1, h], h5, .inr ⟨_, 0, _, rfl, h5, h6, h7⟩, hb⟩
end Go.Proofs.YtmnbcjchfbfngaaDoor
