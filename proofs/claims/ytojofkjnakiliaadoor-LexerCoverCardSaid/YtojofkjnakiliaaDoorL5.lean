/- The contracts of the closure for names that begin with a mark, and of what reads texts, in package lexer; no condition beyond those that each theorem names. -/
import Derived.Test.YtojofkjnakiliaaDoorL4
namespace Go.Proofs.YtojofkjnakiliaaDoor
open Go.RowKit
open NmP

def markR (s : ByteArray) (at_ : Nat) : TkR :=
  if s.extract at_ (runAt s at_) = ⟨#[46]⟩ then wordR ⟨#[46]⟩ (runAt s at_) else ⟨0, ⟨#[]⟩, 0, 0, 10⟩

set_option maxHeartbeats 1000000 in
theorem mark_any (s : ByteArray) (at_ b c : Nat) (w : World) (hs : s.size ≤ maxLen) (ha : at_ ≤ s.size) (hK : KC b w) (hC : RC c b w) :
    Calls Tryd.prog 24 #[.string s, .int .i64 at_, .pointer (some ⟨c, 0, none⟩)] w fun e w' => e = .returned (markR s at_).val ∧ Below w.heap.size w w' := by
  unfold maxLen at hs
  have h1 := runAt_ge s at_
  have h2 := runAt_le (s := s) ha
  have hw := fun W => word_any ⟨#[46]⟩ (runAt s at_) W (by unfold maxLen; decide)
  have HRn := Lib.hid (fun W (h : KC b W) => run_any s at_ b W (by unfold maxLen; exact hs) ha h)
  have hM : markR s at_ = if s.extract at_ (runAt s at_) = ⟨#[46]⟩ then wordR ⟨#[46]⟩ (runAt s at_) else ⟨0, ⟨#[]⟩, 0, 0, 10⟩ := rfl
  generalize markR s at_ = m at *
  generalize hr : wordR ⟨#[46]⟩ (runAt s at_) = r at *
  generalize runAt s at_ = R at *
  clear hr
  have HW : Hid (∀ W : World, Calls Tryd.prog 23 #[.string ⟨#[46]⟩, .int .i64 R] W fun e w' => e = .returned (.tuple #[.agg #[.int .i64 (r.k : Int), .string r.x, .int .i64 (r.n : Int), .int .i64 0], .int .i64 (r.next : Int), .int .i64 (r.e : Int)]) ∧ Below W.heap.size W w') := Lib.hid hw
  have hB : Below w.heap.size w (w.alloc (.cells tokZ 28)) := (Below.refl _ w).alloc (Nat.le_refl _) _
  have HK := Lib.hid (hK.keep hB)
  have hc := hC.keep hB
  unfold RC at hc
  have HT := Lib.hid (TC_new w 28)
  have hlt : w.heap.size < (w.alloc (.cells tokZ 28)).heap.size := by simp
  clear hK hC hw
  unfold tokZ at hB HK hc HT hlt
  by_cases hd : s.extract at_ R = ⟨#[46]⟩
  · rw [if_pos hd] at hM
    subst hM
    have hd2 : ((s.extract at_ R).toList == [46]) = true := by rw [hd, tl]; rfl
    go_enter Tryd.func24, Tryd.ntmps24
    go_wp2_with (go_at_call 21; fail)
    generalize w.alloc (.cells #[.int .i64 0, .string ⟨#[]⟩, .int .i64 0, .int .i64 0] 28) = W at *
    go_wp2_with (go_at_call 21; refine (HRn.out _ HK.out).mono ?_; rintro e w4 ⟨rfl, rfl⟩)
    refine (HW.out _).mono ?_
    rintro e w5 ⟨rfl, hb5⟩
    obtain ⟨⟨c0, f0⟩, ⟨c1, f1⟩, ⟨c2, f2⟩, ⟨c3, f3⟩⟩ := HT.out.keep hb5
    have HB := Lib.hid (hB.trans (hb5.mono (Nat.le_of_lt hlt)))
    clear hB hb5 hc HK HT
    go_wp2
    refine bodyPost_ret (v := .tuple #[.agg #[.int .i64 (m.k : Int), .string m.x, .int .i64 (m.n : Int), .int .i64 0], .int .i64 (m.next : Int), .int .i64 (m.e : Int)]) (by simp [results, Tryd.f24, go_sem, c0, c1, c2, c3]) rfl ⟨rfl, ?_⟩
    exact below_tok HB.out
  · rw [if_neg hd] at hM
    subst hM
    have hd2 : ((s.extract at_ R).toList == [46]) = false := by
      rw [beq_eq_false_iff_ne]; intro q; apply hd; apply ByteArray.ext; apply Array.ext'; rw [← tl, q]
    go_enter Tryd.func24, Tryd.ntmps24
    go_wp2_with (go_at_call 21; fail)
    generalize w.alloc (.cells #[.int .i64 0, .string ⟨#[]⟩, .int .i64 0, .int .i64 0] 28) = W at *
    obtain ⟨⟨c0, f0⟩, ⟨c1, f1⟩, ⟨c2, f2⟩, ⟨c3, f3⟩⟩ := HT.out
    clear HT HW
    go_wp2_with (go_at_call 21; refine (HRn.out _ HK.out).mono ?_; rintro e w4 ⟨rfl, rfl⟩)
    refine bodyPost_ret (v := .tuple #[.agg #[.int .i64 0, .string ⟨#[]⟩, .int .i64 0, .int .i64 0], .int .i64 0, .int .i64 10]) (by simp [results, Tryd.f24, go_sem, c0, c1, c2, c3]) rfl ⟨rfl, ?_⟩
    exact below_tok hB

/-- Where a text's closing quote stands, from a place on: the first quote ahead of a line feed; none: 0. -/
def quoteL : Bs → Nat → Option Nat
  | [], _ => none
  | c :: t, i => if c.toNat = 10 then none else if c.toNat = 34 then some i else quoteL t (i + 1)
def textR (s : ByteArray) (at_ : Nat) : TkR :=
  match quoteL (s.toList.drop (at_ + 1)) (at_ + 1) with
  | none => ⟨0, ⟨#[]⟩, 0, 0, 10⟩
  | some q => if q = at_ + 1 then ⟨0, ⟨#[]⟩, 0, 0, 10⟩ else if 40 < q - at_ - 1 then ⟨0, ⟨#[]⟩, 0, q + 1, 3⟩ else ⟨1, s.extract at_ (q + 1), 0, q + 1, 0⟩
theorem quoteL_end (s : ByteArray) : quoteL (s.toList.drop s.size) s.size = none := by rw [drop_all]; rfl
theorem quoteL_line {s : ByteArray} {i : Nat} (h : i < s.size) (hc : s[i].toNat = 10) : quoteL (s.toList.drop i) i = none := by rw [drop_cons h]; simp [quoteL, hc]
theorem quoteL_here {s : ByteArray} {i : Nat} (h : i < s.size) (hc : s[i].toNat = 34) : quoteL (s.toList.drop i) i = some i := by rw [drop_cons h]; simp [quoteL, hc]
theorem quoteL_next {s : ByteArray} {i : Nat} (h : i < s.size) (h1 : s[i].toNat ≠ 10) (h2 : s[i].toNat ≠ 34) : quoteL (s.toList.drop i) i = quoteL (s.toList.drop (i + 1)) (i + 1) := by rw [drop_cons h]; simp [quoteL, h1, h2]

set_option maxHeartbeats 1000000 in
theorem text_any (s : ByteArray) (at_ : Nat) (w : World) (hs : s.size ≤ maxLen) (ha : at_ < s.size) :
    Calls Tryd.prog 27 #[.string s, .int .i64 at_] w fun e w' => e = .returned (textR s at_).val ∧ Below w.heap.size w w' := by
  unfold maxLen at hs
  have hT : ∀ o, quoteL (s.toList.drop (at_ + 1)) (at_ + 1) = o → textR s at_ = match o with | none => ⟨0, ⟨#[]⟩, 0, 0, 10⟩ | some q => if q = at_ + 1 then ⟨0, ⟨#[]⟩, 0, 0, 10⟩ else if 40 < q - at_ - 1 then ⟨0, ⟨#[]⟩, 0, q + 1, 3⟩ else ⟨1, s.extract at_ (q + 1), 0, q + 1, 0⟩ := fun o h => by unfold textR; rw [h]
  generalize hR : quoteL (s.toList.drop (at_ + 1)) (at_ + 1) = R at *
  have HT := Lib.hid (hT R rfl)
  have HR := Lib.hid hR
  clear hT hR
  generalize textR s at_ = m at *
  have hB : Below w.heap.size w (w.alloc (.cells tokZ 28)) := (Below.refl _ w).alloc (Nat.le_refl _) _
  have hTC := TC_new w 28
  unfold tokZ at hB hTC
  obtain ⟨⟨c0, f0⟩, ⟨c1, f1⟩, ⟨c2, f2⟩, ⟨c3, f3⟩⟩ := hTC
  go_enter Tryd.func27, Tryd.ntmps27
  go_wp2
  generalize w.alloc (.cells #[.int .i64 0, .string ⟨#[]⟩, .int .i64 0, .int .i64 0] 28) = W at *
  go_loop [7] (fun s7 => ∃ i : Nat, at_ + 1 ≤ i ∧ i ≤ s.size ∧ s7 = .int .i64 i ∧ Hid (quoteL (s.toList.drop i) i = R)) (fun s7 => s.size - (intOf s7).toNat)
  case atStart => exact ⟨at_ + 1, by omega, by omega, by go_num, HR⟩
  case round =>
    obtain ⟨i, hi0, hi, rfl, HA⟩ := hrel
    clear HR
    by_cases h1 : i < s.size
    · by_cases h2 : s[i].toNat = 10
      · have hq : ((s[i].toNat : Int) != 10) = false := by rw [bne_eq_false_iff_eq]; omega
        have H3 := Lib.hid ((quoteL_line h1 h2).symm.trans HA.out)
        go_wp2
        refine bodyPost_ret (v := .tuple #[.agg #[.int .i64 0, .string ⟨#[]⟩, .int .i64 0, .int .i64 0], .int .i64 0, .int .i64 10]) (by simp [results, Tryd.f27, go_sem, c0, c1, c2, c3]) rfl ⟨by rw [HT.out, ← H3.out]; rfl, ?_⟩
        exact below_tok hB
      · have hq : ((s[i].toNat : Int) != 10) = true := by rw [bne_iff_ne]; omega
        by_cases h3 : s[i].toNat = 34
        · have hq3 : ((s[i].toNat : Int) != 34) = false := by rw [bne_eq_false_iff_eq]; omega
          have H3 := Lib.hid ((quoteL_here h1 h3).symm.trans HA.out)
          have hn : (((i : Int) - (at_ : Int) - 1)) = ((i - at_ - 1 : Nat) : Int) := by omega
          by_cases h4 : i = at_ + 1
          · subst h4
            go_wp2
            refine bodyPost_ret (v := .tuple #[.agg #[.int .i64 0, .string ⟨#[]⟩, .int .i64 0, .int .i64 0], .int .i64 0, .int .i64 10]) (by simp [results, Tryd.f27, go_sem, c0, c1, c2, c3]) rfl ⟨by rw [HT.out, ← H3.out]; simp [TkR.val, tokV], ?_⟩
            exact below_tok hB
          · have hq4 : (((i : Int) - (at_ : Int) - 1) == 0) = false := beq_eq_false_iff_ne.2 (by omega)
            by_cases h5 : 40 < i - at_ - 1
            · have hq5 : (40 : Int) < (i : Int) - (at_ : Int) - 1 := by omega
              go_wp2
              refine bodyPost_ret (v := .tuple #[.agg #[.int .i64 0, .string ⟨#[]⟩, .int .i64 0, .int .i64 0], .int .i64 ((i + 1 : Nat) : Int), .int .i64 3]) (by simp [results, Tryd.f27, go_sem, c0, c1, c2, c3]) rfl ⟨by rw [HT.out, ← H3.out]; dsimp only; rw [if_neg h4, if_pos h5]; rfl, ?_⟩
              exact below_tok hB
            · have hq5 : ¬ (40 : Int) < (i : Int) - (at_ : Int) - 1 := by omega
              go_wp2
              refine bodyPost_ret (v := .tuple #[.agg #[.int .i64 1, .string (s.extract at_ (i + 1)), .int .i64 0, .int .i64 0], .int .i64 ((i + 1 : Nat) : Int), .int .i64 0]) (by simp [results, Tryd.f27, go_sem, c0, c1, c2, c3]) rfl ⟨by rw [HT.out, ← H3.out]; dsimp only; rw [if_neg h4, if_neg h5]; rfl, ?_⟩
              exact below_tok hB
        · have hq3 : ((s[i].toNat : Int) != 34) = true := by rw [bne_iff_ne]; omega
          have H3 := Lib.hid ((quoteL_next h1 h2 h3).symm.trans HA.out)
          go_wp2
          go_round
          case rel => exact ⟨i + 1, by omega, by omega, by go_num, H3⟩
          case measure => simp [intOf]; omega
    · obtain rfl : i = s.size := by omega
      have H3 := Lib.hid ((quoteL_end s).symm.trans HA.out)
      go_wp2
      refine bodyPost_ret (v := .tuple #[.agg #[.int .i64 0, .string ⟨#[]⟩, .int .i64 0, .int .i64 0], .int .i64 0, .int .i64 10]) (by simp [results, Tryd.f27, go_sem, c0, c1, c2, c3]) rfl ⟨by rw [HT.out, ← H3.out]; rfl, ?_⟩
      exact below_tok hB
end Go.Proofs.YtojofkjnakiliaaDoor
