/- The contract of Lex of the reference of package lexer; no condition beyond those that each theorem names. -/
import Derived.Test.YtggcnpmniidgkaaM3
namespace Go.Proofs.Ytggcnpmniidgkaa
open Go.RowKit Go.Maps Go.Shelf
open NmP

theorem len_in {s : ByteArray} {i : Nat} (h : i < s.size) : i + (endP (s.toList.drop i)).len ≤ s.size := by
  have hd := drop_cons h
  have := endP_len (c := s[i]) (t := s.toList.drop (i + 1))
  rw [← hd, List.length_drop, tl_len] at this
  omega
theorem text_in {s : ByteArray} {i : Nat} (h : i < s.size) (h0 : (endP (s.toList.drop i)).len ≠ 0) :
    tokP (s.extract i (i + (endP (s.toList.drop i)).len)).toList = endP (s.toList.drop i) := by
  have hne : s.toList.drop i ≠ [] := by rw [drop_cons h]; simp
  rw [tl_sub, Nat.add_sub_cancel_left, tok_of hne h0]

set_option maxHeartbeats 4000000 in
set_option maxRecDepth 100000 in
theorem rlex_any (s : ByteArray) (w : World) (hs : s.size ≤ 8000) :
    Calls Try.prog 16 #[.string s] w fun e w' => ∃ sl, e = .returned (.tuple #[sl, .int .i64 ((lexF s).2.1 : Int), .int .i64 ((lexF s).2.2 : Int)]) ∧ w'.ownsRow w.heap.size 31 4 sl (lexF s).1.length (rowT (lexF s).1) ∧ Below w.heap.size w w' := by
  have hF : lexF s = lexL s (s.size + 1) (gapAt s false 0) [] := by unfold lexF; rw [if_neg (by omega)]
  generalize lexF s = R at *
  have HF := Lib.hid hF
  clear hF
  have hm : s.size ≤ maxLen := by unfold maxLen; omega
  have HG0 := Lib.hid (gapAt_le (s := s) false (Nat.zero_le _))
  have HS0 : Hid (∀ W, Calls Try.prog 47 #[.string s, .int .i64 0] W fun e w' => e = .returned (.int .i64 (gapAt s false 0 : Int)) ∧ W = w') := Lib.hid (fun W => gap_any s 0 W hm (Nat.zero_le _))
  obtain ⟨i0, hi0, hz0, hz1, hz2⟩ := info_parts info31
  have HI := Lib.hid hi0
  have HZ0 := Lib.hid hz0
  have HZ1 := Lib.hid hz1
  have HZ2 := Lib.hid hz2
  clear hi0 hz0 hz1 hz2
  go_enter Try.func16, Try.ntmps16
  go_wp2_with (go_at_call 47; refine (HS0.out _).mono ?_; rintro e w1 ⟨rfl, rfl⟩)
  go_loopw [5, 6] (fun s5 s6 wr => ∃ (toks : List Tok) (i n : Nat) (p : Option Addr) (cap : Nat), s5 = .slice p toks.length cap ∧ s6 = .int .i64 i ∧ i ≤ s.size ∧ toks.length ≤ 2000 ∧ Hid (s.size < i + n) ∧ Hid (lexL s n i toks = R) ∧ Hid (Below w.heap.size w wr) ∧ Hid (wr.ownsRow w.heap.size 31 4 s5 toks.length (rowT toks))) (fun _ s6 _ => s.size - (intOf s6).toNat)
  case atStart => exact ⟨[], gapAt s false 0, s.size + 1, none, 0, rfl, rfl, HG0.out, Nat.zero_le _, Lib.hid (by omega), Lib.hid HF.out.symm, Lib.hid (Below.refl _ _), Lib.hid (World.ownsRow_nil _ _ _ _)⟩
  case round =>
    obtain ⟨toks, i, n, p, cap, rfl, rfl, hi, ht, HN, HA, HB, HO⟩ := hrel
    by_cases h1 : i < s.size
    · obtain ⟨n, rfl⟩ : ∃ n', n = n' + 1 := ⟨n - 1, by have := HN.out; omega⟩
      have hA := HA.out
      unfold lexL at hA
      rw [if_pos h1, endR_at h1] at hA
      have hE := fun W => end_ref s i W (by omega) h1
      unfold endAt at hE
      have hli := len_in h1
      have htx := text_in h1
      generalize hr : endP (s.toList.drop i) = r at *
      clear hr
      have hx1 : (s.extract i (i + r.len)).size = r.len := by rw [ByteArray.size_extract]; omega
      have HE := Lib.hid hE
      have HAA := Lib.hid hA
      have HTX := Lib.hid htx
      clear hE hA htx
      by_cases q0 : r.len = 0
      · have q0i : (((i + r.len : Nat) : Int) == (i : Int)) = true := by rw [beq_iff_eq]; omega
        have hR : R = ([], 10, i) := by have := HAA.out; rw [if_pos (by unfold PT.at_; simp only [if_pos q0])] at this; exact this.symm
        clear HAA HTX
        go_wp2_with (go_at_call 48; refine (HE.out _).mono ?_; rintro e w5 ⟨rfl, hb5⟩; have HB5 := Lib.hid hb5; clear hb5)
        subst hR
        go_ret3
        exact ⟨_, rfl, World.ownsRow_nil _ _ _ _, HB.out.trans (HB5.out.mono HB.out.size)⟩
      · have q0i : (((i + r.len : Nat) : Int) == (i : Int)) = false := beq_eq_false_iff_ne.2 (by omega)
        have hnx : (r.at_ i).next = i + r.len := by unfold PT.at_; simp only [if_neg q0]
        have hA1 := HAA.out
        rw [hnx, if_neg (by omega)] at hA1
        by_cases q1 : toks.length = 2000
        · have q1i : (2000 : Int) ≤ (toks.length : Int) := by omega
          have hR : R = ([], 2, i) := by rw [if_pos q1] at hA1; exact hA1.symm
          clear HAA HTX hA1
          go_wp2_with (go_at_call 48; refine (HE.out _).mono ?_; rintro e w5 ⟨rfl, hb5⟩; have HB5 := Lib.hid hb5; clear hb5)
          subst hR
          go_ret3
          exact ⟨_, rfl, World.ownsRow_nil _ _ _ _, HB.out.trans (HB5.out.mono HB.out.size)⟩
        · have q1i : ¬ (2000 : Int) ≤ (toks.length : Int) := by omega
          rw [if_neg q1] at hA1
          have hT := fun W => token_any (s.extract i (i + r.len)) i W (by rw [hx1]; omega) (by rw [hx1]; omega)
          rw [HTX.out q0] at hT
          unfold PT.ref at hT
          by_cases q2 : r.e = 0
          · have q2i : ((r.e : Int) == 0) = true := by rw [q2]; rfl
            rw [if_pos q2, q2] at hT
            rw [if_neg (by show ¬ r.e ≠ 0; simp [q2])] at hA1
            have hA2 : lexL s n (gapAt s false (i + r.len)) (toks ++ [⟨r.k, ofL r.x, r.n, i⟩]) = R := hA1
            have HT := Lib.hid hT
            have HA2 := Lib.hid hA2
            have HS := Lib.hid (fun W => gap_any s (i + r.len) W hm hli)
            clear hA2 hT hA1 HAA HTX hx1
            go_wp2_with (first | (go_at_call 48; refine (HE.out _).mono ?_; rintro e w4 ⟨rfl, hb4⟩; have HB4 := Lib.hid hb4; clear hb4) | (go_at_call 49; refine (HT.out _).mono ?_; rintro e w5 ⟨rfl, hb5⟩; have HB5 := Lib.hid (HB4.out.trans (hb5.mono HB4.out.size)); clear hb5) | (at_builtin; refine wpList_append_own _ rfl (.tmp 43) (.tmp 45) 23 rfl w.heap.size 31 i0 zTok 4 40 Try.underlying23 HI.out HZ0.out HZ1.out HZ2.out rfl (by decide) _ toks.length (rowT toks) rfl (row_keep HO.out HB5.out _ _) ⟨w5.heap.size + 1, 0, none⟩ 1 1 (Tok.vals ⟨r.k, ofL r.x, r.n, i⟩) rfl rfl (news4 w5 ⟨r.k, ofL r.x, r.n, i⟩) (vals_one _) (len_max ht) (by omega) (Nat.le_trans HB.out.size (Nat.le_trans HB5.out.size (by simp; omega))) (fun v' w6 hown' hgrow _ => ?_); have HO6 := Lib.hid hown'; have HB6 := Lib.hid (row_below HO.out HB.out HB5.out _ _ hgrow); clear hown' hgrow) | (go_at_call 47; refine (HS.out _).mono ?_; rintro e w7 ⟨rfl, rfl⟩) | go_in)
            go_roundw
            case rel =>
              obtain ⟨p', cap', hv⟩ := row_form HO6.out
              have h6 := HN.out
              have h7 := gapAt_ge s false (i + r.len)
              exact ⟨toks ++ [⟨r.k, ofL r.x, r.n, i⟩], gapAt s false (i + r.len), n, p', cap', by simpa using hv, rfl, gapAt_le false hli, by simp; omega, Lib.hid (by omega), HA2, HB6, Lib.hid (by rw [List.length_append, rowT_snoc]; exact HO6.out)⟩
            case measure =>
              have h7 := gapAt_ge s false (i + r.len)
              simp [intOf]; omega
          · have q2i : ((r.e : Int) == 0) = false := beq_eq_false_iff_ne.2 (by omega)
            have hR : R = ([], r.e, i) := by rw [if_pos (by show r.e ≠ 0; exact q2)] at hA1; exact hA1.symm
            have HT := Lib.hid hT
            clear hT hA1 HAA HTX
            go_wp2_with (first | (go_at_call 48; refine (HE.out _).mono ?_; rintro e w4 ⟨rfl, hb4⟩; have HB4 := Lib.hid hb4; clear hb4) | (go_at_call 49; refine (HT.out _).mono ?_; rintro e w5 ⟨rfl, hb5⟩; have HB5 := Lib.hid (HB4.out.trans (hb5.mono HB4.out.size)); clear hb5))
            subst hR
            go_ret3
            exact ⟨_, rfl, World.ownsRow_nil _ _ _ _, (HB.out.trans (HB5.out.mono HB.out.size)).alloc (Nat.le_trans HB.out.size HB5.out.size) _⟩
    · have hA := HA.out
      have hn : ∃ n', n = n' + 1 := ⟨n - 1, by have := HN.out; omega⟩
      obtain ⟨n, rfl⟩ := hn
      unfold lexL at hA
      rw [if_neg h1] at hA
      have hR : R = (toks, 0, 0) := hA.symm
      clear hA
      go_wp2
      subst hR
      go_ret3
      exact ⟨_, rfl, HO.out, HB.out⟩
theorem rlex_big (s : ByteArray) (w : World) (hs : s.size ≤ maxLen) (h8 : 8000 < s.size) :
    Calls Try.prog 16 #[.string s] w fun e w' => e = .returned (.tuple #[.slice none 0 0, .int .i64 2, .int .i64 0]) ∧ w = w' := by
  unfold maxLen at hs
  go_enter Try.func16, Try.ntmps16
  go_wp2
  go_ret3
  exact ⟨rfl, rfl⟩
theorem rlex_all (s : ByteArray) (w : World) (hs : s.size ≤ maxLen) (ts : List Tok) (er k : Nat) (h : lexR s.toList = (ts, er, k)) :
    Calls Try.prog 16 #[.string s] w fun e w' => ∃ sl, e = .returned (.tuple #[sl, .int .i64 (er : Int), .int .i64 (k : Int)]) ∧ SlT sl ts w' ∧ Below w.heap.size w w' := by
  rw [← lexF_eq] at h
  by_cases h8 : s.size ≤ 8000
  · have := rlex_any s w h8
    rw [h] at this
    exact this.mono fun e w' ⟨sl, he, ho, hb⟩ => ⟨sl, he, SlT.owned ho, hb⟩
  · refine (rlex_big s w hs (by omega)).mono ?_
    rintro e w' ⟨rfl, rfl⟩
    have h2 : lexF s = ([], 2, 0) := by unfold lexF; rw [if_pos (by omega)]
    rw [h2] at h
    cases h
    exact ⟨_, rfl, .inl ⟨rfl, _, _, rfl⟩, Below.refl _ _⟩
end Go.Proofs.Ytggcnpmniidgkaa
