/- LexerCover of layer 3, as a walk: it returns true for every text; no condition. -/
import Derived.Test.YtojofkjnakiliaaDoorC2
import Derived.Test.YtojofkjnakiliaaDoorT1
namespace Go.Proofs.YtojofkjnakiliaaDoor
set_option linter.unusedSimpArgs false
set_option linter.unusedVariables false
open Go.RowKit Go.Maps Go.Shelf
open NmP
namespace Cover

theorem numL_top : ∀ (l : Bs) (n m : Nat), n ≤ 1000000000 → numL l n = some m → m ≤ 1000000000
  | [], n, m, h, e => by cases e; exact h
  | c :: t, n, m, h, e => by
    unfold numL at e
    split at e
    · cases e
    · exact numL_top t _ m (by omega) e
theorem endP_small (l : Bs) : (endP l).e = 0 → (endP l).n ≤ 1000000000 ∧ (endP l).x.length ≤ 60 := by
  have hw : ∀ r : Bs, (wordP r).e = 0 → (wordP r).n ≤ 1000000000 ∧ (wordP r).x.length ≤ 60 := fun r => by
    unfold wordP
    split
    · rename_i h; exact fun _ => ⟨Nat.zero_le _, h⟩
    · intro h; cases h
  unfold endP endK
  repeat' split
  · intro h
    unfold numP at h ⊢
    split at h
    · cases h
    · rename_i hz
      rw [if_neg hz]
      cases hn : numL (runOf l) 0 with
      | none => rw [hn] at h; cases h
      | some n => exact ⟨numL_top _ _ _ (by omega) hn, Nat.zero_le _⟩
  · exact hw _
  · exact hw _
  · exact hw _
  · intro h; cases h
  · unfold textP
    intro h
    cases hq : quoteL (l.drop 1) 0 with
    | none => rw [hq] at h; cases h
    | some q =>
      rw [hq] at h
      simp only at h ⊢
      split at h
      · cases h
      · rename_i q0
        rw [if_neg q0]
        split at h
        · cases h
        · rename_i q4
          rw [if_neg q4]
          exact ⟨Nat.zero_le _, by simp only [List.length_take]; omega⟩
  · intro _
    exact ⟨Nat.zero_le _, by simp only [List.length_take]; omega⟩
  · intro h; cases h
theorem lexO_small : ∀ (n : Nat) (l : Bs) (o : Nat) (ts : List PTok), lexO n l o = .ok ts → ∀ t ∈ ts, t.n ≤ 1000000000 ∧ t.x.length ≤ 60
  | 0, _, _, _, h => by cases h
  | n + 1, l, o, ts, h => by
    unfold lexO at h
    cases hc : l.drop (skipG false l) with
    | nil => rw [hc] at h; cases h; intro t ht; cases ht
    | cons c t =>
      rw [hc] at h
      simp only at h
      by_cases q0 : (endP (c :: t)).len = 0
      · rw [if_pos q0] at h; cases h
      · rw [if_neg q0] at h
        by_cases q1 : (endP (c :: t)).e ≠ 0
        · rw [if_pos q1] at h; cases h
        · rw [if_neg q1] at h
          cases hr : lexO n ((c :: t).drop (endP (c :: t)).len) (o + skipG false l + (endP (c :: t)).len) with
          | bad pre' z' e' a' => rw [hr] at h; cases h
          | ok us =>
            rw [hr] at h
            cases h
            intro t' ht'
            rcases List.mem_cons.1 ht' with rfl | ht'
            · exact endP_small _ (by simpa using q1)
            · exact lexO_small n _ _ us hr t' ht'
theorem txt_len {t : PTok} (h : t.n ≤ 1000000000 ∧ t.x.length ≤ 60) : (textT t.k t.x t.n).length ≤ 60 := by
  unfold textT
  split
  · have := decL_len 9 t.n (by have : (10 : Nat) ^ (9 + 1) = 10000000000 := by decide
                               omega)
    omega
  · exact h.2
theorem Lex_sl (s : ByteArray) (w : World) (hs : s.size ≤ maxLen) (ts : List Tok) (er k : Nat) (h : lexR s.toList = (ts, er, k)) :
    Calls Tryd.prog 5 #[.string s] w fun e w' => ∃ sl, e = .returned (.tuple #[sl, .int .i64 (er : Int), .int .i64 (k : Int)]) ∧ SlT sl ts w' ∧ Below w.heap.size w w' := by
  have := Lex_all s w hs
  rw [h] at this
  exact this.mono fun e w' ⟨sl, he, ho, hb⟩ => ⟨sl, he, SlT.owned ho, hb⟩


/-- The places of the tokens ahead of an error. -/
theorem lexO_pre : ∀ (n : Nat) (l : Bs) (o : Nat) (pre : List PTok) (z : Bool) (e a : Nat), lexO n l o = .bad pre z e a → ∀ t ∈ pre, t.a ≤ o + l.length
  | 0, _, _, _, _, _, _, h => by cases h; intro t ht; cases ht
  | n + 1, l, o, pre, z, e, a, h => by
    have hgl := skipG_le false l
    unfold lexO at h
    cases hc : l.drop (skipG false l) with
    | nil => rw [hc] at h; cases h
    | cons c t =>
      have hd : (c :: t).length = l.length - skipG false l := by rw [← hc, List.length_drop]
      simp only [List.length_cons] at hd
      rw [hc] at h
      simp only at h
      by_cases q0 : (endP (c :: t)).len = 0
      · rw [if_pos q0] at h
        cases h
        intro t ht; cases ht
      · rw [if_neg q0] at h
        by_cases q1 : (endP (c :: t)).e ≠ 0
        · rw [if_pos q1] at h
          cases h
          intro t ht; cases ht
        · rw [if_neg q1] at h
          cases hr : lexO n ((c :: t).drop (endP (c :: t)).len) (o + skipG false l + (endP (c :: t)).len) with
          | ok ts => rw [hr] at h; cases h
          | bad pre' z' e' a' =>
            rw [hr] at h
            cases h
            have hle := endP_len (c := c) (t := t)
            have ih := lexO_pre n _ _ pre' z e a hr
            rw [List.length_drop] at ih
            simp only [List.length_cons] at *
            intro t' ht'
            rcases List.mem_cons.1 ht' with rfl | ht'
            · show o + skipG false l ≤ _; omega
            · have := ih t' ht'
              omega
theorem getD_le {l : List Nat} {i m : Nat} (h : ∀ x ∈ l, x ≤ m) : l.getD i 0 ≤ m := by
  rw [List.getD_eq_getElem?_getD]
  cases hg : l[i]? with
  | none => exact Nat.zero_le _
  | some x => exact h x (List.mem_of_getElem? hg)
theorem lexR_err {l : Bs} (h : (lexR l).2.1 ≠ 0) : (lexR l).1 = [] ∧ (lexR l).2.2 ≤ l.length := by
  unfold lexR at h ⊢
  by_cases h8 : 8000 < l.length
  · rw [if_pos h8]; exact ⟨rfl, Nat.zero_le _⟩
  · rw [if_neg h8] at h ⊢
    cases hO : lexO (l.length + 1) l 0 with
    | ok ts =>
      rw [hO] at h
      have hk := (lexO_ok _ _ _ _ (Nat.lt_succ_self _) hO).2
      unfold res at h ⊢
      simp only [List.length_nil, Nat.zero_add] at h ⊢
      by_cases q : ts.length ≤ 2000
      · rw [if_pos q] at h; exact absurd rfl h
      · rw [if_neg q]
        refine ⟨rfl, getD_le fun x hx => ?_⟩
        obtain ⟨t, ht, rfl⟩ := List.mem_map.1 hx
        have := (hk t ht).2
        omega
    | bad pre z e a =>
      have hb := lexO_bad _ _ _ _ _ _ _ (Nat.lt_succ_self _) hO
      have hp := lexO_pre _ _ _ _ _ _ _ hO
      have hg : ∀ i, (pre.map PTok.a).getD i 0 ≤ l.length := fun i => getD_le fun x hx => by
        obtain ⟨t, ht, rfl⟩ := List.mem_map.1 hx
        have := hp t ht
        omega
      unfold res
      simp only [List.length_nil, Nat.zero_add]
      repeat' split
      · exact ⟨rfl, hg _⟩
      · exact ⟨rfl, by show a ≤ l.length; omega⟩
      · exact ⟨rfl, by show a ≤ l.length; omega⟩

theorem cov_step {L : Bs} {last : Nat} {t : PTok} {ts : List PTok} (h : Cov (L.drop last) last (t :: ts)) (hl : last ≤ L.length) :
    last ≤ t.a ∧ t.a + (textT t.k t.x t.n).length ≤ L.length ∧ gapsL false ((L.drop last).take (t.a - last)) = true ∧ textT t.k t.x t.n ≠ [] ∧ 1 ≤ t.k ∧ t.k ≤ 3 ∧
      (L.drop t.a).take (textT t.k t.x t.n).length = textT t.k t.x t.n ∧ Cov (L.drop (t.a + (textT t.k t.x t.n).length)) (t.a + (textT t.k t.x t.n).length) ts := by
  obtain ⟨g, r, e, ha, hg, hx, h1, h3, hc⟩ := h
  have hlen := congrArg List.length e
  rw [List.length_drop, List.length_append, List.length_append] at hlen
  have e2 : L.drop t.a = textT t.k t.x t.n ++ r := by rw [ha, ← List.drop_drop, e, List.drop_left]
  have e3 : L.drop (t.a + (textT t.k t.x t.n).length) = r := by rw [← List.drop_drop, e2, List.drop_left]
  refine ⟨by omega, by omega, ?_, hx, h1, h3, ?_, ?_⟩
  · rw [e, ha, Nat.add_sub_cancel_left, List.take_left]; exact hg
  · rw [e2, List.take_left]
  · rw [e3]; exact hc
theorem gap_sub {s : ByteArray} {a b : Nat} (h : gapsL false ((s.toList.drop a).take (b - a)) = true) : gapsL false (s.extract a b).data.toList = true := by
  rw [← tl, tl_sub]; exact h
theorem pre_sub {s : ByteArray} {a : Nat} {x : Bs} (h : (s.toList.drop a).take x.length = x) (hl : a + x.length ≤ s.size) : (ofL x).size ≤ (s.extract a s.size).size ∧ (s.extract a s.size).extract 0 (ofL x).size = ofL x := by
  have hs := tl_len s
  refine ⟨by rw [ofL_size, ByteArray.size_extract]; omega, ?_⟩
  apply toList_inj
  rw [tl_sub, tl_sub, ofL_toList, ofL_size, List.drop_zero, Nat.sub_zero, List.take_take, Nat.min_eq_left (by omega), h]

set_option maxHeartbeats 2000000 in
set_option maxRecDepth 100000 in
theorem walk_no (s : ByteArray) (w : World) (hs : s.size ≤ maxLen) (er k : Nat) (hr : lexR s.toList = ([], er, k)) (he : er ≠ 0) (hk : k ≤ s.size) :
    Calls Tryd.prog 3 #[.string s] w fun e w' => e = .returned (.bool true) ∧ Below w.heap.size w w' := by
  have q1 : ((er : Int) == 0) = false := beq_eq_false_iff_ne.2 (by omega)
  have q1b : ((er : Int) != 0) = true := by simp only [bne, q1]; rfl
  have HA := Lib.hid (fun W => Lex_sl s W hs [] er k hr)
  have hk0 : (0 : Int) ≤ (k : Int) := by omega
  have hk1 : (k : Int) ≤ (s.size : Int) := by omega
  unfold maxLen at hs
  clear hr he
  go_enter Tryd.func3, Tryd.ntmps3
  go_wp2_with (first | (go_at_call 4; refine (head_any _).mono ?_; rintro e w1 ⟨rfl, hb1⟩; have HW := Lib.hid hb1; clear hb1) | (go_at_call 5; fail))
  refine (HA.out _).mono ?_
  rintro e w2 ⟨va, rfl, sa, hb2⟩
  obtain ⟨pa, ca, rfl⟩ := sa.form
  replace HW := Lib.hid (HW.out.trans (hb2.mono HW.out.size))
  clear sa hb2
  go_wp2
  go_ret
  exact ⟨rfl, HW.out⟩

set_option maxHeartbeats 4000000 in
set_option maxRecDepth 100000 in
theorem walk_yes (s : ByteArray) (m : Int) (w : World) (hm : MaxAt m w) (hs : s.size ≤ 8000) (ts : List PTok) (hr : lexR s.toList = (ts.map PTok.tok, 0, 0)) (hn : ts.length ≤ 2000) (hsm : ∀ t ∈ ts, t.n ≤ 1000000000 ∧ t.x.length ≤ 60) (hcov : Cov (s.toList.drop 0) 0 ts) :
    Calls Tryd.prog 3 #[.string s] w fun e w' => e = .returned (.bool true) ∧ Below w.heap.size w w' := by
  have HA := Lib.hid (fun W => Lex_sl s W (by unfold maxLen; omega) _ 0 0 hr)
  have HSM := Lib.hid hsm
  have HCV : Hid (Cov (s.toList.drop 0) 0 (ts.drop 0)) := Lib.hid hcov
  have HM := Lib.hid hm
  obtain ⟨n, hnl⟩ : ∃ n, (ts.map PTok.tok).length = n := ⟨_, rfl⟩
  have hnl2 : ts.length = n := by simpa using hnl
  have HN := Lib.hid hnl
  have HN2 := Lib.hid hnl2
  have hn' : n ≤ 2000 := by omega
  clear hr hsm hcov hnl hnl2 hn hm
  go_enter Tryd.func3, Tryd.ntmps3
  go_wp2_with (first | (go_at_call 4; refine (head_any _).mono ?_; rintro e w1 ⟨rfl, hb1⟩; have HW := Lib.hid hb1; clear hb1) | (go_at_call 5; fail))
  refine (HA.out _).mono ?_
  rintro e w2 ⟨va, rfl, sa, hb2⟩
  have SA := Lib.hid sa
  obtain ⟨pa, ca, rfl⟩ := sa.form
  rw [HN.out]
  replace HW := Lib.hid (HW.out.trans (hb2.mono HW.out.size))
  replace HM := Lib.hid (HM.out.keep HW.out)
  clear sa hb2
  go_wp2
  go_loopw [7, 38] (fun s7 s38 wr => ∃ (i last : Nat), s7 = .int .i64 last ∧ s38 = .int .i64 i ∧ i ≤ n ∧ last ≤ s.size ∧ Hid (Cov (s.toList.drop last) last (ts.drop i)) ∧ Hid (Below w2.heap.size w2 wr)) (fun _ s38 _ => n - (intOf s38).toNat)
  case atStart => exact ⟨0, 0, rfl, rfl, Nat.zero_le _, Nat.zero_le _, HCV, Lib.hid (Below.refl _ _)⟩
  case round =>
    obtain ⟨i, last, rfl, rfl, hi, hla, HC, HB⟩ := hrel
    have hMr := HM.out.keep HB.out
    by_cases h1 : i < n
    · have h1t : i < ts.length := by rw [HN2.out]; exact h1
      obtain ⟨b, off, rfl, hlt, hrt⟩ : ∃ b off, pa = some ⟨b, off, none⟩ ∧ b < w2.heap.size ∧ RT b off (ts.map PTok.tok) w2 := by
        rcases SA.out with ⟨h0, _⟩ | ⟨b, off, c, h2, h3, h4⟩
        · rw [← HN.out, h0] at h1; simp at h1
        · cases h2; exact ⟨b, off, rfl, h3, h4⟩
      obtain ⟨a0, a1, a2, a3⟩ := (hrt.keep hlt HB.out).at_ (i := i) (t := ts[i].tok) (by simp [h1t])
      have ht := HSM.out ts[i] (List.getElem_mem h1t)
      have hc := HC.out
      rw [List.drop_eq_getElem_cons h1t] at hc
      obtain ⟨c1, c2, c3, c4, c5, c6, c7, c8⟩ := cov_step hc (by rw [tl_len]; exact hla)
      rw [tl_len] at c2
      have hgp := gap_sub c3
      obtain ⟨hp1, hp2⟩ := pre_sub c7 c2
      have hT := fun W => text_ref ts[i].k ts[i].x ts[i].n ts[i].a W ht.1
      have hXs : (ofL (textT ts[i].k ts[i].x ts[i].n)).size = (textT ts[i].k ts[i].x ts[i].n).length := ofL_size _
      have hXe : (ofL (textT ts[i].k ts[i].x ts[i].n)).toList.isEmpty = false := by
        rw [ofL_toList]
        cases hq : textT ts[i].k ts[i].x ts[i].n with
        | nil => exact absurd hq c4
        | cons x r => rfl
      rw [← hXs] at c8 c2
      generalize ts[i] = t at *
      unfold PTok.tok at a0 a1 a2 a3
      simp only at a0 a1 a2 a3
      generalize ofL (textT t.k t.x t.n) = X at *
      have HT := Lib.hid hT
      have HC2 := Lib.hid c8
      have HP := Lib.hid (fun W => has_prefix (s.extract t.a s.size) X W hp1 hp2)
      have HGA := Lib.hid (fun W (h : MaxAt m W) => gaps_any (s.extract last t.a) m W (by rw [ByteArray.size_extract]; omega) h)
      rw [hgp] at HGA
      have HMR := Lib.hid hMr
      have hin : (i : Int) < (n : Int) := by omega
      have e1 : ¬ (t.k : Int) < 1 := by omega
      have e2 : ¬ (3 : Int) < (t.k : Int) := by omega
      have e3 : ¬ (t.n : Int) < 0 := by omega
      have e4 : ¬ (t.a : Int) < (last : Int) := by omega
      have e5 : ¬ (s.size : Int) < (t.a : Int) := by omega
      clear hT hrt ht hc c3 c4 c7 c8 hp1 hp2 hgp hMr HC hXs
      go_wp2_with (go_at_call 6; fail)
      refine (HT.out _).mono ?_
      rintro e w5 ⟨rfl, hb5⟩
      have z3 : w5.cell? ⟨wr.heap.size, 3, none⟩ = some (.int .i64 t.a) := (hb5.cell (by simp)).trans (by rw [World.cell?_alloc_at _ _ _ _ rfl]; rfl)
      have HB5 := Lib.hid ((HB.out.alloc HB.out.size _).trans (hb5.mono (HB.out.alloc HB.out.size _).size))
      have HM5 := Lib.hid (HM.out.keep HB5.out)
      clear hb5 HMR HM HT
      go_wp2_with (first | (go_at_call 7; refine (HP.out _).mono ?_; rintro e w6 ⟨rfl, rfl⟩) | (go_at_call 8; refine (HGA.out _ HM5.out).mono ?_; rintro e w7 ⟨rfl, hb7⟩; have z7 := (hb7.cell (World.block_lt_of_cell? _ _ z3)).trans z3; have HB7 := Lib.hid (HB5.out.trans (hb7.mono HB5.out.size)); clear hb7))
      go_roundw
      case rel => exact ⟨i + 1, t.a + X.size, by go_num, by go_num, by omega, by omega, HC2, HB7⟩
      case measure => simp [intOf]; omega
    · obtain rfl : i = n := by omega
      have hc := HC.out
      rw [show ts.drop i = [] from List.drop_eq_nil_of_le (by rw [HN2.out]; exact Nat.le_refl _)] at hc
      have hgp : gapsL false (s.extract last s.size).data.toList = true := by
        refine gap_sub ?_
        rw [List.take_of_length_le (by rw [List.length_drop, tl_len]; exact Nat.le_refl _)]
        exact hc
      have hga := gaps_any (s.extract last s.size) m wr (by rw [ByteArray.size_extract]; omega) hMr
      rw [hgp] at hga
      have HGA := Lib.hid hga
      have hi2 : ¬ (i : Int) < (i : Int) := by omega
      have hi3 : (i : Int) ≤ 2000 := by omega
      have hi4 : (last : Int) ≤ (s.size : Int) := by omega
      clear hc hgp hga hMr HC
      go_wp2_with (go_at_call 8; refine HGA.out.mono ?_; rintro e w7 ⟨rfl, hb7⟩; have HB7 := Lib.hid (HB.out.trans (hb7.mono HB.out.size)); clear hb7)
      go_ret
      exact ⟨rfl, HW.out.trans (HB7.out.mono HW.out.size)⟩
theorem walk (s : ByteArray) (m : Int) (w : World) (hm : MaxAt m w) (hs : s.size ≤ maxLen) :
    Calls Tryd.prog 3 #[.string s] w fun e w' => e = .returned (.bool true) ∧ Below w.heap.size w w' := by
  by_cases h : (lexR s.toList).2.1 = 0
  · obtain ⟨ts, h8, hO, hl, hr⟩ := lexR_ok h
    rw [tl_len] at h8
    exact walk_yes s m w hm h8 ts hr hl (lexO_small _ _ _ _ hO) (lexO_cov _ _ _ _ hO)
  · obtain ⟨h1, h2⟩ := lexR_err h
    rw [tl_len] at h2
    exact walk_no s w hs _ _ (by rw [← h1]) h h2
end Cover
end Go.Proofs.YtojofkjnakiliaaDoor
