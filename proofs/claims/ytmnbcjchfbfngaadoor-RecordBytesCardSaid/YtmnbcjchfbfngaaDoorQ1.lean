/- The contracts of the reader of package record: take, count, number, text; no condition beyond those that each theorem names. -/
import Derived.Test.YtmnbcjchfbfngaaDoorB1
import Derived.Test.YtmnbcjchfbfngaaDoorRD
import Derived.Laws.BitsAllLaws
import Derived.Laws.IdiomStrings
import Derived.Lib.BufferRead
namespace Go.Proofs.YtmnbcjchfbfngaaDoor
set_option linter.unusedSimpArgs false
set_option linter.unusedVariables false
open Go.RowKit
open NmP

theorem cell_of_blk2 {W : World} {b : Nat} {cs : Array Value} {t : TypeId} (h : W.heap[b]? = some (Obj.cells cs t (0, 0))) (j : Nat) (u : Value) (hu : cs[j]? = some u) : W.cell? ⟨b, j, none⟩ = some u := by
  simp [World.cell?, h, hu]
theorem frozen_of_blk {W : World} {b : Nat} {cs : Array Value} {t : TypeId} (h : W.heap[b]? = some (Obj.cells cs t (0, 0))) (j : Nat) : W.frozen? ⟨b, j, none⟩ = false := by
  simp [World.frozen?, h]
/-- Bytes that lie in a block. -/
def RB (g off : Nat) (l : Bs) (W : World) : Prop := ∀ (m : Nat) (c : UInt8), l[m]? = some c → W.cell? ⟨g, off + m, none⟩ = some (.int .u8 c.toNat)
/-- A slice that holds bytes, in a block before r. -/
def SlB (r : Nat) (v : Value) (l : Bs) (W : World) : Prop := (l = [] ∧ ∃ p c, v = .slice p 0 c) ∨ ∃ g off c, v = .slice (some ⟨g, off, none⟩) l.length c ∧ l.length ≤ c ∧ g < r ∧ RB g off l W
theorem SlB.keep {r : Nat} {v : Value} {l : Bs} {W W' : World} (h : SlB r v l W) (hk : ∀ k, k < r → W'.heap[k]? = W.heap[k]?) : SlB r v l W' := by
  rcases h with h | ⟨g, off, c, h1, h2, h3, h4⟩
  · exact .inl h
  · exact .inr ⟨g, off, c, h1, h2, h3, fun m u hm => by rw [World.cell?_of_block (hk g h3)]; exact h4 m u hm⟩
/-- What a reader takes, and what it leaves. -/
abbrev Rs := Bs × Bool
def tkV (n : Nat) (s : Rs) : Bs := if s.2 = true ∨ s.1.length < n then [] else s.1.take n
def tkS (n : Nat) (s : Rs) : Rs := if s.2 = true ∨ s.1.length < n then (s.1, true) else (s.1.drop n, false)
/-- The cells of a reader. -/
structure RdAt (W : World) (r : Nat) (s : Rs) (s0 s1 s2 s3 : Value) : Prop where
  at_ : ∃ v, W.heap[r]? = some (Obj.cells #[v, .bool s.2, s0, s1, s2, s3] 73 (0, 0)) ∧ SlB r v s.1 W
theorem rd_bad {w : World} {r : Nat} {v : Value} {b : Bool} {l : Bs} {st : Rs} {s0 s1 s2 s3 : Value} (hb : w.heap[r]? = some (Obj.cells #[v, .bool b, s0, s1, s2, s3] 73 (0, 0))) (hv : SlB r v l w) (hS : st = (l, true)) :
    RdAt (w.setCell ⟨r, 1, none⟩ (.bool true)) r st s0 s1 s2 s3 := by
  subst hS
  exact ⟨⟨v, heap_setCell_same w r 1 _ _ (.bool true) hb, hv.keep (fun k hk => heap_setCell_other w _ k _ (by simp; omega))⟩⟩
theorem rd_left {w : World} {r : Nat} {v u : Value} {b : Bool} {l : Bs} {st : Rs} {s0 s1 s2 s3 : Value} (hb : w.heap[r]? = some (Obj.cells #[v, .bool b, s0, s1, s2, s3] 73 (0, 0))) (hv : SlB r u l w) (hS : st = (l, b)) :
    RdAt (w.setCell ⟨r, 0, none⟩ u) r st s0 s1 s2 s3 := by
  subst hS
  exact ⟨⟨u, heap_setCell_same w r 0 _ _ u hb, hv.keep (fun k hk => heap_setCell_other w _ k _ (by simp; omega))⟩⟩
/-- A call that changes the reader alone. -/
def TakeTo (r n : Nat) (s : Rs) (s0 s1 s2 s3 : Value) (w : World) (e : Ending) (w' : World) : Prop := ∃ v, e = .returned v ∧ SlB r v (tkV n s) w' ∧ RdAt w' r (tkS n s) s0 s1 s2 s3 ∧ w.grownBy w' (some r)
theorem grown_refl (w : World) (r : Option Nat) : w.grownBy w r := ⟨rfl, rfl, rfl, Nat.le_refl _, fun _ _ _ => rfl⟩
theorem grown_trans {a b c : World} {r : Option Nat} (h : a.grownBy b r) (k : b.grownBy c r) : a.grownBy c r :=
  ⟨k.os.trans h.os, k.tape.trans h.tape, k.output.trans h.output, Nat.le_trans h.size k.size, fun i h1 h2 => (k.block i (Nat.lt_of_lt_of_le h1 h.size) h2).trans (h.block i h1 h2)⟩
theorem grown_set (w : World) (r j : Nat) (v : Value) : w.grownBy (w.setCell ⟨r, j, none⟩ v) (some r) :=
  ⟨rfl, rfl, rfl, by simp, fun k _ h => heap_setCell_other w ⟨r, j, none⟩ k v (fun e => h (by simp [e]))⟩
theorem grown_below {w w' : World} {r : Nat} (h : w.grownBy w' (some r)) {k : Nat} (hk : k < r) (hr : r < w.heap.size) : w'.heap[k]? = w.heap[k]? := h.block k (by omega) (by simp; omega)

set_option maxHeartbeats 1000000 in
set_option maxRecDepth 100000 in
theorem take_any (r n : Nat) (s : Rs) (s0 s1 s2 s3 : Value) (w : World) (hr : RdAt w r s s0 s1 s2 s3) (hn : n ≤ 1000) (hl : s.1.length ≤ 1000000) :
    Calls Tryd.prog 67 #[.pointer (some ⟨r, 0, none⟩), .int .i64 n] w (TakeTo r n s s0 s1 s2 s3 w) := by
  obtain ⟨l, bad⟩ := s
  obtain ⟨v, hb, hv⟩ := hr.at_
  simp only at hb hv hl
  have c0 := cell_of_blk2 hb 0 v rfl
  have c1 := cell_of_blk2 hb 1 (.bool bad) rfl
  have f0 := frozen_of_blk hb 0
  have f1 := frozen_of_blk hb 1
  have hrl : r < w.heap.size := World.block_lt_of_cell? w _ c0
  obtain ⟨p, m, c, rfl, hm⟩ : ∃ p m c, v = .slice p m c ∧ m = l.length := by
    rcases hv with ⟨h, p, c, h2⟩ | ⟨g, off, c, h1, _⟩
    · exact ⟨p, 0, c, h2, by rw [h]; rfl⟩
    · exact ⟨_, _, c, h1, rfl⟩
  cases bad
  case true =>
    have hV : tkV n (l, true) = [] := if_pos (.inl rfl)
    have hS : tkS n (l, true) = (l, true) := if_pos (.inl rfl)
    have HB := Lib.hid hb
    have HV := Lib.hid hv
    have HM := Lib.hid hm
    have H1 := Lib.hid hV
    have H2 := Lib.hid hS
    clear hb hv hm hV hS hr
    go_enter Tryd.func67, Tryd.ntmps67
    go_wp2
    go_ret
    exact ⟨_, rfl, by rw [H1.out]; exact .inl ⟨rfl, none, 0, rfl⟩, rd_bad HB.out HV.out H2.out, grown_set w r 1 _⟩
  case false =>
    by_cases hmn : m < n
    · have hV : tkV n (l, false) = [] := if_pos (.inr (by simp only; omega))
      have hS : tkS n (l, false) = (l, true) := if_pos (.inr (by simp only; omega))
      have HB := Lib.hid hb
      have HV := Lib.hid hv
      have HM := Lib.hid hm
      have H1 := Lib.hid hV
      have H2 := Lib.hid hS
      have d0 : decide (m < n) = true := decide_eq_true hmn
      clear hb hv hm hV hS hr hmn
      go_enter Tryd.func67, Tryd.ntmps67
      go_wp2
      go_ret
      exact ⟨_, rfl, by rw [H1.out]; exact .inl ⟨rfl, none, 0, rfl⟩, rd_bad HB.out HV.out H2.out, grown_set w r 1 _⟩
    · have hV : tkV n (l, false) = l.take n := if_neg (by simp; omega)
      have hS : tkS n (l, false) = (l.drop n, false) := if_neg (by simp; omega)
      have d0 : decide (m < n) = false := decide_eq_false hmn
      have HB := Lib.hid hb
      have H1 := Lib.hid hV
      have H2 := Lib.hid hS
      clear hV hS hr hb
      rcases hv with ⟨h, p', c', h2⟩ | ⟨g, off, c', h1, h2, h3, h4⟩
      · subst h
        simp only [List.length_nil] at hm
        subst hm
        obtain rfl : n = 0 := by omega
        clear h2 hmn d0
        have H3 : Hid (∀ r W, SlB r (.slice p 0 c) [] W) := Lib.hid (fun r W => .inl ⟨rfl, p, c, rfl⟩)
        have d0 : decide (0 < 0) = false := rfl
        go_enter Tryd.func67, Tryd.ntmps67
        go_wp2
        go_ret
        exact ⟨_, rfl, by rw [H1.out]; exact H3.out _ _, rd_left HB.out (H3.out _ _) H2.out, grown_set w r 0 _⟩
      · simp only [Value.slice.injEq] at h1
        obtain ⟨rfl, hm2, rfl⟩ := h1
        have HA : Hid (∀ W, (∀ k, k < r → W.heap[k]? = w.heap[k]?) → SlB r (.slice (some ⟨g, off, none⟩) n c) (l.take n) W) := Lib.hid (fun W hk => .inr ⟨g, off, c, by rw [List.length_take, Nat.min_eq_left (by omega)], by rw [List.length_take]; omega, h3, fun j u hj => by
          rw [World.cell?_of_block (hk g h3)]
          rw [List.getElem?_take] at hj
          split at hj
          · exact h4 j u hj
          · cases hj⟩)
        have hnm : n ≤ m := by omega
        have hnc : m ≤ c := by omega
        by_cases hc : n = c
        · subst hc
          have H3 : Hid (SlB r (.slice (some ⟨g, off, none⟩) 0 0) (l.drop n) w) := Lib.hid (.inl ⟨List.drop_eq_nil_of_le (by omega), _, _, rfl⟩)
          obtain rfl : m = n := by omega
          clear h4 hmn hm hm2
          go_enter Tryd.func67, Tryd.ntmps67
          go_wp2
          go_ret
          exact ⟨_, rfl, by rw [H1.out]; exact HA.out _ (fun k hk => heap_setCell_other w _ k _ (by simp; omega)), rd_left HB.out H3.out H2.out, grown_set w r 0 _⟩
        · have H3 : Hid (SlB r (.slice (some ⟨g, off + n, none⟩) (m - n) (c - n)) (l.drop n) w) := Lib.hid (.inr ⟨g, off + n, c - n, by rw [List.length_drop, hm], by rw [List.length_drop]; omega, h3, fun j u hj => by
            rw [List.getElem?_drop] at hj
            rw [show off + n + j = off + (n + j) by omega]
            exact h4 _ u hj⟩)
          have hlt : n < c := by omega
          clear h4 hmn hm hm2
          go_enter Tryd.func67, Tryd.ntmps67
          go_wp2
          go_ret
          exact ⟨_, rfl, by rw [H1.out]; exact HA.out _ (fun k hk => heap_setCell_other w _ k _ (by simp; omega)), rd_left HB.out H3.out H2.out, grown_set w r 0 _⟩
/-- The number that bytes make. -/
def numV (l : Bs) : Nat := l.foldl (fun n c => n * 256 + c.toNat) 0
theorem numV_snoc (l : Bs) (c : UInt8) : numV (l ++ [c]) = numV l * 256 + c.toNat := by simp [numV]
theorem numV_lt : ∀ (k : Nat) (l : Bs), l.length = k → numV l < 256 ^ k
  | 0, l, h => by rw [List.length_eq_zero_iff.1 h]; decide
  | k + 1, l, h => by
    obtain ⟨a, c, rfl⟩ : ∃ a c, l = a ++ [c] := by
      refine ⟨l.dropLast, l.getLast (by intro e; rw [e] at h; cases h), (List.dropLast_concat_getLast _).symm⟩
    rw [numV_snoc]
    have := numV_lt k a (by simpa using h)
    have hc : c.toNat < 256 := c.toNat_lt
    rw [Nat.pow_succ]
    omega
theorem tkV_len (n : Nat) (s : Rs) : tkV n s = [] ∨ (tkV n s).length = n := by
  unfold tkV
  split
  · exact .inl rfl
  · rename_i h
    right
    rw [List.length_take]
    simp only [not_or] at h
    omega
theorem SlB.form {r : Nat} {v : Value} {l : Bs} {W : World} (h : SlB r v l W) : ∃ p c, v = .slice p l.length c := by
  rcases h with ⟨h, p, c, h2⟩ | ⟨g, off, c, h1, _⟩
  · exact ⟨p, c, by rw [h2, h]; rfl⟩
  · exact ⟨_, c, h1⟩
theorem SlB.at_ {r : Nat} {p : Option Addr} {n c : Nat} {l : Bs} {W : World} (h : SlB r (.slice p n c) l W) (h1 : 0 < l.length) : ∃ g off, p = some ⟨g, off, none⟩ ∧ g < r ∧ RB g off l W := by
  rcases h with ⟨h, _⟩ | ⟨g, off, c, h2, _, h3, h4⟩
  · rw [h] at h1; cases h1
  · cases h2; exact ⟨g, off, rfl, h3, h4⟩
/-- A call that returns a number, and changes the reader alone. -/
def NumTo (r n : Nat) (s : Rs) (m : Int) (s0 s1 s2 s3 : Value) (w : World) (e : Ending) (w' : World) : Prop := e = .returned (.int .i64 m) ∧ RdAt w' r (tkS n s) s0 s1 s2 s3 ∧ w.grownBy w' (some r)

set_option maxHeartbeats 1000000 in
set_option maxRecDepth 100000 in
theorem count_any (r : Nat) (s : Rs) (s0 s1 s2 s3 : Value) (w : World) (hr : RdAt w r s s0 s1 s2 s3) (hl : s.1.length ≤ 1000000) :
    Calls Tryd.prog 46 #[.pointer (some ⟨r, 0, none⟩)] w (NumTo r 1 s (numV (tkV 1 s)) s0 s1 s2 s3 w) := by
  have T := Lib.hid (take_any r 1 s s0 s1 s2 s3 w hr (by omega) hl)
  have hk := tkV_len 1 s
  unfold TakeTo at T
  generalize tkV 1 s = l at *
  rcases hk with rfl | hk
  · show Calls _ _ _ _ (NumTo r 1 s 0 s0 s1 s2 s3 w)
    go_enter Tryd.func46, Tryd.ntmps46
    go_wp2_with (go_at_call 67; refine (T.out).mono ?_; rintro e w1 ⟨v, rfl, h1, h2, h3⟩; obtain ⟨p, c, rfl⟩ := h1.form; have H2 := Lib.hid h2; have H3 := Lib.hid h3; clear h1 h2 h3)
    refine wp_loop_rounds 1 ?_
    rw [rounds_succ]
    go_wp2
    go_ret
    exact ⟨rfl, H2.out, H3.out⟩
  · obtain ⟨b, rfl⟩ := List.length_eq_one_iff.1 hk
    have hbn : b.toNat < 256 := b.toNat_lt
    rw [show numV [b] = b.toNat by simp [numV]]
    clear hk
    go_enter Tryd.func46, Tryd.ntmps46
    go_wp2_with (go_at_call 67; refine (T.out).mono ?_; rintro e w1 ⟨v, rfl, h1, h2, h3⟩; obtain ⟨p, c, rfl⟩ := h1.form; obtain ⟨g, off, rfl, hg, hb⟩ := h1.at_ (by simp); have z0 : w1.cell? ⟨g, off, none⟩ = some (.int .u8 b.toNat) := hb 0 b rfl; have H2 := Lib.hid h2; have H3 := Lib.hid h3; clear h1 h2 h3 hb)
    refine wp_loop_rounds 2 ?_
    rw [rounds_succ]
    go_wp2
    rw [rounds_succ]
    go_wp2
    go_ret
    exact ⟨rfl, H2.out, H3.out⟩
theorem or_256 (V c : Nat) (hV : V < 72057594037927936) (hc : c < 256) : bits BinOp.or IntKind.u64 ((V : Int) * 256) (c : Int) = ((V * 256 + c : Nat) : Int) := by
  have e : ((V : Int) * 256) = ((V * 256 : Nat) : Int) := by omega
  rw [e, u64_or_nat (V * 256) c (by omega) (by omega)]
  congr 1
  rw [show V * 256 = V <<< 8 by rw [Nat.shiftLeft_eq], ← Nat.shiftLeft_add_eq_or_of_lt (by omega : c < 2 ^ 8)]

set_option maxHeartbeats 1000000 in
set_option maxRecDepth 100000 in
theorem number_r (r : Nat) (s : Rs) (s0 s1 s2 s3 : Value) (w : World) (hr : RdAt w r s s0 s1 s2 s3) (hl : s.1.length ≤ 1000000) :
    Calls Tryd.prog 44 #[.pointer (some ⟨r, 0, none⟩)] w (NumTo r 8 s (wrap64 (numV (tkV 8 s))) s0 s1 s2 s3 w) := by
  have T := Lib.hid (take_any r 8 s s0 s1 s2 s3 w hr (by omega) hl)
  have hk := tkV_len 8 s
  unfold TakeTo at T
  generalize tkV 8 s = l at *
  have hk8 : l.length ≤ 8 := by rcases hk with h | h <;> simp [h]
  clear hk
  go_enter Tryd.func44, Tryd.ntmps44
  go_wp2_with (go_at_call 67; refine (T.out).mono ?_; rintro e w1 ⟨v, rfl, h1, h2, h3⟩; obtain ⟨p, c, rfl⟩ := h1.form; have H1 := Lib.hid h1; have H2 := Lib.hid h2; have H3 := Lib.hid h3; clear h1 h2 h3)
  obtain ⟨n, hn⟩ : ∃ n, l.length = n := ⟨_, rfl⟩
  rw [hn] at hk8 ⊢
  have HN := Lib.hid hn
  clear hn
  go_loop [3, 9] (fun s3 s9 => ∃ i : Nat, i ≤ n ∧ s9 = .int .i64 i ∧ s3 = .int .u64 (numV (l.take i))) (fun _ s9 => n - (intOf s9).toNat)
  case atStart => exact ⟨0, Nat.zero_le _, rfl, rfl⟩
  case round =>
    obtain ⟨i, hi, rfl, rfl⟩ := hrel
    by_cases hlt : i < n
    · have ia : i < l.length := by rw [HN.out]; exact hlt
      have ga : l[i]? = some l[i] := List.getElem?_eq_getElem ia
      have h1 := H1.out
      rw [HN.out] at h1
      obtain ⟨g, off, rfl, hg, hb⟩ := h1.at_ (by omega)
      have z0 := hb i _ ga
      have HT : Hid (numV (l.take (i + 1)) = numV (l.take i) * 256 + l[i].toNat) := Lib.hid (by rw [List.take_add_one, ga]; exact numV_snoc _ _)
      have hV : numV (l.take i) < 256 ^ i := numV_lt i _ (by rw [List.length_take]; omega)
      have hV2 : numV (l.take i) < 72057594037927936 := Nat.lt_of_lt_of_le hV (by
        have : 256 ^ i ≤ 256 ^ 7 := Nat.pow_le_pow_right (by omega) (by omega)
        omega)
      have hc : l[i].toNat < 256 := l[i].toNat_lt
      generalize numV (l.take i) = V at *
      generalize l[i].toNat = cc at *
      clear h1 hb ga hV
      have HOr := Lib.hid (or_256 V cc hV2 hc)
      go_wp2
      go_round
      case rel => exact ⟨i + 1, hlt, by go_num, by rw [HOr.out, HT.out]⟩
      case measure => simp [intOf]; omega
    · obtain rfl : i = n := by omega
      have HE : Hid (l.take i = l) := Lib.hid (List.take_of_length_le (by have := HN.out; omega))
      go_wp2
      go_ret
      refine ⟨?_, H2.out, H3.out⟩
      rw [HE.out]
      rfl
/-- A call that returns a text, and changes the reader alone. -/
def TxtTo (r : Nat) (s t : Rs) (x : Bs) (s0 s1 s2 s3 : Value) (w : World) (e : Ending) (w' : World) : Prop := e = .returned (.string ⟨x.toArray⟩) ∧ RdAt w' r t s0 s1 s2 s3 ∧ w.grownBy w' (some r)
def txtV (s : Rs) : Bs := tkV (numV (tkV 1 s)) (tkS 1 s)
def txtS (s : Rs) : Rs := tkS (numV (tkV 1 s)) (tkS 1 s)
theorem conv_any {r : Nat} {p : Option Addr} {c : Nat} {l : Bs} {W : World} (h : SlB r (.slice p l.length c) l W) : (convert 26 9 (.slice p l.length c)).run Tryd.prog W = .ok (.string ⟨l.toArray⟩) W := by
  cases l with
  | nil =>
    cases p with
    | none => exact Lib.run_convert_nil_bytes W 26 9 5 c Tryd.underlying26 Tryd.underlying5 Tryd.underlying9
    | some a => exact run_convert_bytes_back W 26 9 5 a c [] Tryd.underlying26 Tryd.underlying5 Tryd.underlying9 (fun j hj => absurd hj (Nat.not_lt_zero _))
  | cons b t =>
    obtain ⟨g, off, rfl, _, hb⟩ := h.at_ (by simp)
    exact run_convert_bytes_back W 26 9 5 ⟨g, off, none⟩ c (b :: t) Tryd.underlying26 Tryd.underlying5 Tryd.underlying9 (fun j hj => by
      have := hb j _ (List.getElem?_eq_getElem hj)
      rw [Go.WideShapes.add_plain]
      exact this)

set_option maxHeartbeats 1000000 in
set_option maxRecDepth 100000 in
theorem text_r (r : Nat) (s : Rs) (s0 s1 s2 s3 : Value) (w : World) (hr : RdAt w r s s0 s1 s2 s3) (hl : s.1.length ≤ 1000000) :
    Calls Tryd.prog 43 #[.pointer (some ⟨r, 0, none⟩)] w (TxtTo r s (txtS s) (txtV s) s0 s1 s2 s3 w) := by
  have C := Lib.hid (count_any r s s0 s1 s2 s3 w hr hl)
  unfold NumTo at C
  have hk := tkV_len 1 s
  have hN : numV (tkV 1 s) ≤ 255 := by
    rcases hk with h | h
    · rw [h]; decide
    · have := numV_lt 1 _ h
      omega
  have hl2 : (tkS 1 s).1.length ≤ 1000000 := by
    unfold tkS
    split
    · exact hl
    · rw [List.length_drop]; omega
  have T := Lib.hid (fun W (h : RdAt W r (tkS 1 s) s0 s1 s2 s3) => take_any r (numV (tkV 1 s)) (tkS 1 s) s0 s1 s2 s3 W h (by omega) hl2)
  unfold TakeTo at T
  have HV : Hid (tkV (numV (tkV 1 s)) (tkS 1 s) = txtV s) := Lib.hid rfl
  have HS : Hid (tkS (numV (tkV 1 s)) (tkS 1 s) = txtS s) := Lib.hid rfl
  rw [HV.out, HS.out] at T
  generalize numV (tkV 1 s) = N at *
  generalize tkS 1 s = s1' at *
  generalize txtV s = l at *
  generalize txtS s = s2' at *
  clear hk hN hl2 HV HS hr
  go_enter Tryd.func43, Tryd.ntmps43
  go_wp2_with (first | (go_at_call 46; refine (C.out).mono ?_; rintro e w1 ⟨rfl, h2, h3⟩; have H2 := Lib.hid h2; have H3 := Lib.hid h3; clear h2 h3) | (go_at_call 67; refine (T.out _ H2.out).mono ?_; rintro e w2 ⟨v, rfl, h4, h5, h6⟩; obtain ⟨p, c, rfl⟩ := h4.form; have hcv := conv_any h4; have H5 := Lib.hid h5; have H6 := Lib.hid (grown_trans H3.out h6); clear h4 h5 h6))
  go_ret
  exact ⟨rfl, H5.out, H6.out⟩
end Go.Proofs.YtmnbcjchfbfngaaDoor
