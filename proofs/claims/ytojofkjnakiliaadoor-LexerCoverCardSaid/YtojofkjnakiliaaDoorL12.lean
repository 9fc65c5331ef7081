/- The contract of Lex of package lexer; no condition beyond those that each theorem names. -/
import Derived.Test.YtojofkjnakiliaaDoorL11
namespace Go.Proofs.YtojofkjnakiliaaDoor
open Go.RowKit Go.Maps Go.Shelf
open NmP

/-- What the loop of Lex reads: its own row of classes, the closures' boxes, the map. -/
def LX (B b c m : Nat) (W : World) : Prop := W.heap[B]? = some (.cells kindsA 35 (0, 0)) ∧ KC b W ∧ RC c b W ∧ W.ownsMap Tryd.prog 3 Rf m 6 (Dfin b c)
theorem LX.keep {B b c m : Nat} {W W' : World} (h : LX B b c m W) (hb : Below W.heap.size W W') : LX B b c m W' := by
  obtain ⟨h1, h2, h3, es, ck, h4, h5⟩ := h
  have l1 : B < W.heap.size := (Array.getElem?_eq_some_iff.1 h1).1
  have l4 : m < W.heap.size := (Array.getElem?_eq_some_iff.1 h4).1
  exact ⟨(hb.block B l1).trans h1, h2.keep hb, h3.keep hb, es, ck, (hb.block m l4).trans h4, h5⟩
theorem LX.cell {B b c m : Nat} {W : World} (h : LX B b c m W) (n : Nat) (hn : n < 256) : W.cell? ⟨B, n, none⟩ = some (.int .i64 (kindN n : Int)) := by
  rw [cell_of_row W B n kindsA 35 _ h.1]; exact kindsA_get hn

def zTok : Value := .agg #[.int .i64 0, .string ⟨#[]⟩, .int .i64 0, .int .i64 0]
theorem info31 : (Tryd.prog.info? 28).map (fun i => (i.zero, i.size, i.bytes)) = some (some zTok, 4, 40) := by kernel_rfl
theorem len_max {n : Nat} (h : n ≤ 2000) : n + 1 ≤ maxLen := by unfold maxLen; omega
theorem vals_one (t : Tok) : ∀ u ∈ t.vals, u.oneCell' = true := by
  intro u hu
  simp [Tok.vals] at hu
  rcases hu with rfl | rfl | rfl | rfl <;> rfl
theorem news4 (W : World) (t : Tok) : ∀ j u, t.vals[j]? = some u → ((W.alloc (.cells t.vals.toArray 28)).alloc (.cells t.vals.toArray 28)).cell? ((⟨W.heap.size + 1, 0, none⟩ : Addr).add j) = some u := by
  intro j u h
  rw [Go.WideShapes.add_plain, Nat.zero_add, World.cell?_alloc_at _ _ _ _ (by simp)]
  simpa using h
theorem row_keep {W W5 : World} {base : Nat} {e : TypeId} {size n : Nat} {v : Value} {xs : List Value} (h : W.ownsRow base e size v n xs) (hb : Below W.heap.size W W5) (o o' : Obj) : ((W5.alloc o).alloc o').ownsRow base e size v n xs :=
  ((h.kept (row := none) ⟨hb.os, hb.tape, hb.output, hb.size, fun k hk _ => hb.block k hk⟩ (by
    cases q : v.ownBlock
    · exact .inl rfl
    · exact .inr (by simp))).alloc o).alloc o'
theorem row_below {w4 W W5 W6 : World} {e : TypeId} {size n : Nat} {v : Value} {xs : List Value} (h : W.ownsRow w4.heap.size e size v n xs) (h0 : Below w4.heap.size w4 W) (hb : Below W.heap.size W W5) (o o' : Obj) (hg : ((W5.alloc o).alloc o').grownBy W6 v.ownBlock) : Below w4.heap.size w4 W6 := by
  have h5 : Below w4.heap.size w4 W5 := h0.trans (hb.mono h0.size)
  have h7 : Below w4.heap.size w4 ((W5.alloc o).alloc o') := (h5.alloc h5.size _).alloc (by have := h5.size; simp; omega) _
  exact h7.grown hg h7.size (fun k hk => (h.lt k hk).1)
theorem row_keep0 {W W5 : World} {base : Nat} {e : TypeId} {size n : Nat} {v : Value} {xs : List Value} (h : W.ownsRow base e size v n xs) (hb : Below W.heap.size W W5) : W5.ownsRow base e size v n xs :=
  h.kept (row := none) ⟨hb.os, hb.tape, hb.output, hb.size, fun k hk _ => hb.block k hk⟩ (by
    cases q : v.ownBlock
    · exact .inl rfl
    · exact .inr (by simp))
theorem row_form {W : World} {base : Nat} {e : TypeId} {size n : Nat} {v : Value} {xs : List Value} (h : W.ownsRow base e size v n xs) : ∃ p cap, v = .slice p n cap := by
  rcases h.2 with ⟨h1, h2⟩ | ⟨g, cap, cur, h3, _⟩
  · exact ⟨none, 0, by rw [h1, h2]⟩
  · exact ⟨_, cap, h3⟩
theorem row_base {W : World} {base base' : Nat} {e : TypeId} {size n : Nat} {v : Value} {xs : List Value} (h : W.ownsRow base e size v n xs) (hb : base' ≤ base) : W.ownsRow base' e size v n xs := by
  refine ⟨h.1, ?_⟩
  rcases h.2 with h2 | ⟨g, cap, cur, h3, h4, h5⟩
  · exact .inl h2
  · exact .inr ⟨g, cap, cur, h3, Nat.le_trans hb h4, h5⟩

set_option maxHeartbeats 4000000 in
set_option maxRecDepth 100000 in
theorem Lex_any (s : ByteArray) (w : World) (hs : s.size ≤ 8000) :
    Calls Tryd.prog 5 #[.string s] w fun e w' => ∃ sl, e = .returned (.tuple #[sl, .int .i64 ((lexF s).2.1 : Int), .int .i64 ((lexF s).2.2 : Int)]) ∧ w'.ownsRow w.heap.size 28 4 sl (lexF s).1.length (rowT (lexF s).1) ∧ Below w.heap.size w w' := by
  have hF : lexF s = lexL s (s.size + 1) (gapAt s false 0) [] := by unfold lexF; rw [if_neg (by omega)]
  generalize lexF s = R at *
  have HF := Lib.hid hF
  clear hF
  have hm : s.size ≤ maxLen := by unfold maxLen; omega
  have HG0 := Lib.hid (gapAt_le (s := s) false (Nat.zero_le _))
  obtain ⟨i0, hi0, hz0, hz1, hz2⟩ := info_parts info31
  have HI := Lib.hid hi0
  have HZ0 := Lib.hid hz0
  have HZ1 := Lib.hid hz1
  have HZ2 := Lib.hid hz2
  clear hi0 hz0 hz1 hz2
  go_enter Tryd.func5, Tryd.ntmps5
  go_wp2_with (first | (go_at_call 13; refine (classes_any _).mono ?_; rintro e w1 ⟨rfl, hb1⟩; have HB1 := Lib.hid hb1; have HZ1 := Lib.hid (heap_alloc_new w1 (.cells Tryd.zeroCells35 35)); have HR := Lib.hid (setRow_heap _ w1.heap.size Tryd.zeroCells35 kindsA 35 (0, 0) HZ1.out); clear hb1) | (go_at_call 14; fail) | (with_reducible refine wpList_load_row (by with_unfolding_all rfl) 35 _ (by with_unfolding_all rfl) w1.heap.size (by with_unfolding_all rfl) 35 kindsA (0, 0) _ HR.out Tryd.underlying35 (by with_unfolding_all rfl) info62 ?_) | (with_reducible refine wpList_store_row (by with_unfolding_all rfl) 35 _ _ (by with_unfolding_all rfl) w1.heap.size kindsA (by with_unfolding_all rfl) (by with_unfolding_all rfl) 35 Tryd.zeroCells35 HZ1.out info62 (Tryd.zeroCells35_size.trans kindsA_size.symm) kindsA_one ?_))
  have HB2 : Below w.heap.size w ((w1.alloc (.cells Tryd.zeroCells35 35)).setRow w1.heap.size kindsA) := (HB1.out.alloc HB1.out.size _).trans (below_row _ w _ kindsA HB1.out.size)
  have hlt : w1.heap.size < ((w1.alloc (.cells Tryd.zeroCells35 35)).setRow w1.heap.size kindsA).heap.size := (Array.getElem?_eq_some_iff.1 HR.out).1
  have hws : w.heap.size ≤ w1.heap.size := HB1.out.size
  clear HZ1 HB1
  generalize w1.heap.size = B at *
  generalize ((w1.alloc (.cells Tryd.zeroCells35 35)).setRow B kindsA) = W2 at *
  have HS0 : Hid (∀ W, Calls Tryd.prog 15 #[.string s, .int .i64 0, .agg kindsA] W fun e w' => e = .returned (.int .i64 (gapAt s false 0 : Int)) ∧ Below W.heap.size W w') := Lib.hid (fun W => skip_any s 0 W hm (Nat.zero_le _))
  refine (endings_any _).mono ?_
  rintro e w3 ⟨b, c, m, rfl, hM⟩
  have HR3 : Hid (w3.heap[B]? = some (.cells kindsA 35 (0, 0))) := Lib.hid ((hM.2.2.2.1.block B hlt).trans HR.out)
  have HM := Lib.hid hM
  clear hM
  go_wp2_with (first | (go_at_call 15; fail) | (with_reducible refine wpList_load_row (by with_unfolding_all rfl) 35 _ (by with_unfolding_all rfl) B (by with_unfolding_all rfl) 35 kindsA (0, 0) _ HR3.out Tryd.underlying35 (by with_unfolding_all rfl) info62 ?_))
  refine (HS0.out _).mono ?_
  rintro e w4 ⟨rfl, hb4⟩
  have hL : LX B b c m w4 := LX.keep ⟨HR3.out, HM.out.1, HM.out.2.1, HM.out.2.2.1⟩ hb4
  have hB4 : Below w.heap.size w w4 := (HB2.trans (HM.out.2.2.2.1.mono HB2.size)).trans (hb4.mono (Nat.le_trans HB2.size HM.out.2.2.2.1.size))
  have HL := Lib.hid hL
  have HB4 := Lib.hid hB4
  clear hL hB4 hb4 HM HR3 HS0 HB2 HR hlt hws
  clear W2 w3
  go_wp2
  go_loopw [7, 8] (fun s7 s8 wr => ∃ (toks : List Tok) (i n : Nat) (p : Option Addr) (cap : Nat), s7 = .slice p toks.length cap ∧ s8 = .int .i64 i ∧ i ≤ s.size ∧ toks.length ≤ 2000 ∧ Hid (s.size < i + n) ∧ Hid (lexL s n i toks = R) ∧ Hid (Below w4.heap.size w4 wr) ∧ Hid (wr.ownsRow w4.heap.size 28 4 s7 toks.length (rowT toks))) (fun _ s8 _ => s.size - (intOf s8).toNat)
  case atStart => exact ⟨[], gapAt s false 0, s.size + 1, none, 0, rfl, rfl, HG0.out, Nat.zero_le _, Lib.hid (by omega), Lib.hid HF.out.symm, Lib.hid (Below.refl _ _), Lib.hid (World.ownsRow_nil _ _ _ _)⟩
  case round =>
    obtain ⟨toks, i, n, p, cap, rfl, rfl, hi, ht, HN, HA, HB, HO⟩ := hrel
    have HLw := Lib.hid (HL.out.keep HB.out)
    have HBw := Lib.hid (HB4.out.trans (HB.out.mono HB4.out.size))
    by_cases h1 : i < s.size
    · have hb : (s[i]).toNat < 256 := s[i].toNat_lt
      have hcell := HLw.out.cell (s[i]).toNat hb
      have hlk := look_any HLw.out.2.2.2 (kindN (s[i]).toNat) (kind_le _)
      obtain ⟨n, rfl⟩ : ∃ n', n = n' + 1 := ⟨n - 1, by have := HN.out; omega⟩
      have hA := HA.out
      unfold lexL at hA
      rw [if_pos h1] at hA
      by_cases h3 : 3 ≤ kindN (s[i]).toNat
      · obtain ⟨f, cb, hfn, eg, hcall⟩ := end_any s i b c hs h1 h3
        rw [hfn] at hlk
        have hle := end_le h1
        have hc := hcall wr HLw.out.2.1 HLw.out.2.2.1
        clear hcall hfn
        generalize endR s i = r at *
        unfold TkR.val tokV at hc
        have HC := Lib.hid hc
        have HE := Lib.hid hle
        have HAA := Lib.hid hA
        clear hc hle hA
        generalize kindN (s[i]).toNat = k at *
        by_cases q0 : r.next = 0
        · have q0i : ((r.next : Int) == 0) = true := by rw [q0]; rfl
          have hR : R = ([], 10, i) := by have := HAA.out; rw [if_pos q0] at this; exact this.symm
          go_wp2_with (go_at_fn f; refine HC.out.mono ?_; rintro e w5 ⟨rfl, hb5⟩; have HB5 := Lib.hid hb5; clear hb5)
          subst hR
          go_ret3
          exact ⟨_, rfl, World.ownsRow_nil _ _ _ _, ((HBw.out.trans (HB5.out.mono HBw.out.size)).alloc (Nat.le_trans HBw.out.size HB5.out.size) _)⟩
        · have q0i : ((r.next : Int) == 0) = false := beq_eq_false_iff_ne.2 (by omega)
          by_cases q1 : toks.length = 2000
          · have q1i : ((toks.length : Int) == 2000) = true := by rw [q1]; rfl
            have hR : R = ([], 2, i) := by have := HAA.out; rw [if_neg q0, if_pos q1] at this; exact this.symm
            go_wp2_with (go_at_fn f; refine HC.out.mono ?_; rintro e w5 ⟨rfl, hb5⟩; have HB5 := Lib.hid hb5; clear hb5)
            subst hR
            go_ret3
            exact ⟨_, rfl, World.ownsRow_nil _ _ _ _, ((HBw.out.trans (HB5.out.mono HBw.out.size)).alloc (Nat.le_trans HBw.out.size HB5.out.size) _)⟩
          · have q1i : ((toks.length : Int) == 2000) = false := beq_eq_false_iff_ne.2 (by omega)
            by_cases q2 : r.e = 0
            · have q2i : ((r.e : Int) == 0) = true := by rw [q2]; rfl
              have hA2 : lexL s n (gapAt s false r.next) (toks ++ [⟨r.k, r.x, r.n, i⟩]) = R := by have := HAA.out; rw [if_neg q0, if_neg q1, if_neg (by simp [q2])] at this; exact this
              have HA2 := Lib.hid hA2
              have HLe := Lib.hid (HE.out q0)
              have HS := Lib.hid (fun W => skip_any s r.next W hm (HE.out q0).2)
              clear hA2
              go_wp2_with (first | (go_at_fn f; refine HC.out.mono ?_; rintro e w5 ⟨rfl, hb5⟩; have HB5 := Lib.hid hb5; clear hb5) | (at_builtin; refine wpList_append_own _ rfl (.tmp 64) (.tmp 66) 23 rfl w4.heap.size 28 i0 zTok 4 40 Tryd.underlying23 HI.out HZ0.out HZ1.out HZ2.out rfl (by decide) _ toks.length (rowT toks) rfl (row_keep HO.out HB5.out _ _) ⟨w5.heap.size + 1, 0, none⟩ 1 1 (Tok.vals ⟨r.k, r.x, r.n, i⟩) rfl rfl (news4 w5 ⟨r.k, r.x, r.n, i⟩) (vals_one _) (len_max ht) (by omega) (Nat.le_trans HB.out.size (Nat.le_trans HB5.out.size (by simp; omega))) (fun v' w6 hown' hgrow _ => ?_); have HO6 := Lib.hid hown'; have HB6 := Lib.hid (row_below HO.out HB.out HB5.out _ _ hgrow); have HL6 := Lib.hid (HL.out.keep HB6.out); have HR6 := Lib.hid HL6.out.1; clear hown' hgrow) | (go_at_call 15; refine (HS.out _).mono ?_; rintro e w7 ⟨rfl, hb7⟩; have HB7 := Lib.hid hb7; clear hb7) | (with_reducible refine wpList_load_row (by with_unfolding_all rfl) 35 _ (by with_unfolding_all rfl) B (by with_unfolding_all rfl) 35 kindsA (0, 0) _ HR6.out Tryd.underlying35 (by with_unfolding_all rfl) info62 ?_) | go_in)
              go_roundw
              case rel =>
                obtain ⟨p', cap', hv⟩ := row_form HO6.out
                have h6 := HN.out
                have h7 := gapAt_ge s false r.next
                have h8 := HLe.out
                exact ⟨toks ++ [⟨r.k, r.x, r.n, i⟩], gapAt s false r.next, n, p', cap', by simpa using hv, rfl, gapAt_le false h8.2, by simp; omega, Lib.hid (by omega), HA2, Lib.hid (HB6.out.trans (HB7.out.mono HB6.out.size)), Lib.hid (by rw [List.length_append, rowT_snoc]; exact row_keep0 HO6.out HB7.out)⟩
              case measure =>
                have h7 := gapAt_ge s false r.next
                have h8 := HLe.out
                simp [intOf]; omega
            · have q2i : ((r.e : Int) == 0) = false := beq_eq_false_iff_ne.2 (by omega)
              have hR : R = ([], r.e, i) := by have := HAA.out; rw [if_neg q0, if_neg q1, if_pos q2] at this; exact this.symm
              go_wp2_with (go_at_fn f; refine HC.out.mono ?_; rintro e w5 ⟨rfl, hb5⟩; have HB5 := Lib.hid hb5; clear hb5)
              subst hR
              go_ret3
              exact ⟨_, rfl, World.ownsRow_nil _ _ _ _, ((HBw.out.trans (HB5.out.mono HBw.out.size)).alloc (Nat.le_trans HBw.out.size HB5.out.size) _)⟩
      · obtain ⟨hz, hn⟩ := end_none h1 (Nat.lt_of_not_le h3)
        rw [hn b c] at hlk
        have hR : R = ([], 10, i) := by rw [if_pos hz] at hA; exact hA.symm
        clear hz hn hA
        go_wp2
        subst hR
        go_ret3
        exact ⟨_, rfl, World.ownsRow_nil _ _ _ _, HBw.out⟩
    · have hA := HA.out
      have hn : ∃ n', n = n' + 1 := ⟨n - 1, by have := HN.out; omega⟩
      obtain ⟨n, rfl⟩ := hn
      unfold lexL at hA
      rw [if_neg h1] at hA
      have hR : R = (toks, 0, 0) := hA.symm
      clear hA
      go_wp2
      subst hR
      go_ret3
      exact ⟨_, rfl, row_base HO.out HB4.out.size, HBw.out⟩
end Go.Proofs.YtojofkjnakiliaaDoor
