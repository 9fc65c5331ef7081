/- LexerTexts of layer 3 is true for every text, and leaves its argument as it was; no condition. -/
import Derived.Test.YtggcnpmniidgkaaT2
import Derived.Test.YtggcnpmniidgkaaShelfJ
import Derived.ProofKit
import Derived.OpenShut
import Derived.ShutString
import Derived.ChangeOld
import Derived.Lib.SmallJoins
namespace Go.Proofs.Ytggcnpmniidgkaa
open Go.ChangeShapes Go.WideShapes Go.ChangeAt Go.RowKit Go.Joins Go.Shelf
open Go.ChangeMaps (open_string shut_string)
open NmP
namespace Texts
set_option linter.unusedVariables false

theorem numL_top : ∀ (l : Bs) (n m : Nat), n ≤ 1000000000 → numL l n = some m → m ≤ 1000000000
  | [], n, m, h, e => by cases e; exact h
  | c :: t, n, m, h, e => by
    unfold numL at e
    split at e
    · cases e
    · exact numL_top t _ m (by omega) e
theorem endP_small (l : Bs) : (endP l).e = 0 → (endP l).n ≤ 1000000000 ∧ (endP l).x.length ≤ 60 := by
  have hw : ∀ r : Bs, (wordP r).e = 0 → (wordP r).n ≤ 1000000000 ∧ (wordP r).x.length ≤ 60 := fun r => by
    unfold wordP
    split
    · rename_i h; exact fun _ => ⟨Nat.zero_le _, h⟩
    · intro h; cases h
  unfold endP endK
  repeat' split
  · intro h
    unfold numP at h ⊢
    split at h
    · cases h
    · rename_i hz
      rw [if_neg hz]
      cases hn : numL (runOf l) 0 with
      | none => rw [hn] at h; cases h
      | some n => exact ⟨numL_top _ _ _ (by omega) hn, Nat.zero_le _⟩
  · exact hw _
  · exact hw _
  · exact hw _
  · intro h; cases h
  · unfold textP
    intro h
    cases hq : quoteL (l.drop 1) 0 with
    | none => rw [hq] at h; cases h
    | some q =>
      rw [hq] at h
      simp only at h ⊢
      split at h
      · cases h
      · rename_i q0
        rw [if_neg q0]
        split at h
        · cases h
        · rename_i q4
          rw [if_neg q4]
          exact ⟨Nat.zero_le _, by simp only [List.length_take]; omega⟩
  · intro _
    exact ⟨Nat.zero_le _, by simp only [List.length_take]; omega⟩
  · intro h; cases h
theorem lexO_small : ∀ (n : Nat) (l : Bs) (o : Nat) (ts : List PTok), lexO n l o = .ok ts → ∀ t ∈ ts, t.n ≤ 1000000000 ∧ t.x.length ≤ 60
  | 0, _, _, _, h => by cases h
  | n + 1, l, o, ts, h => by
    unfold lexO at h
    cases hc : l.drop (skipG false l) with
    | nil => rw [hc] at h; cases h; intro t ht; cases ht
    | cons c t =>
      rw [hc] at h
      simp only at h
      by_cases q0 : (endP (c :: t)).len = 0
      · rw [if_pos q0] at h; cases h
      · rw [if_neg q0] at h
        by_cases q1 : (endP (c :: t)).e ≠ 0
        · rw [if_pos q1] at h; cases h
        · rw [if_neg q1] at h
          cases hr : lexO n ((c :: t).drop (endP (c :: t)).len) (o + skipG false l + (endP (c :: t)).len) with
          | bad pre' z' e' a' => rw [hr] at h; cases h
          | ok us =>
            rw [hr] at h
            cases h
            intro t' ht'
            rcases List.mem_cons.1 ht' with rfl | ht'
            · exact endP_small _ (by simpa using q1)
            · exact lexO_small n _ _ us hr t' ht'
/-- The texts of tokens. -/
def txts (ts : List PTok) : List Bs := ts.map fun t => textT t.k t.x t.n
theorem txt_len {t : PTok} (h : t.n ≤ 1000000000 ∧ t.x.length ≤ 60) : (textT t.k t.x t.n).length ≤ 60 := by
  unfold textT
  split
  · have := decL_len 9 t.n (by have : (10 : Nat) ^ (9 + 1) = 10000000000 := by decide
                               omega)
    omega
  · exact h.2
theorem joinB_len : ∀ rs : List Bs, (∀ r ∈ rs, r.length ≤ 60) → (joinB rs).length ≤ 61 * rs.length
  | [], _ => Nat.le_refl _
  | [r], h => by have := h r (by simp); simp [joinB]; omega
  | r :: s :: rs, h => by
    have h1 := h r (by simp)
    have h2 := joinB_len (s :: rs) fun x hx => h x (by simp [hx])
    simp only [joinB, List.length_append, List.length_cons] at h2 ⊢
    omega
theorem joinB_cons (x : Bs) (r : List Bs) (h : r ≠ []) : joinB (x :: r) = x ++ 32 :: joinB r := by
  cases r with
  | nil => exact absurd rfl h
  | cons y r => rfl
theorem join_eq : ∀ l : List Bs, Lib.join l [32] = joinB l
  | [] => rfl
  | [x] => by rw [Lib.join_one]; rfl
  | x :: y :: r => by
    rw [joinB_cons x (y :: r) (by simp), ← join_eq (y :: r)]
    rw [Lib.join_cons, Lib.join_cons]
    simp [Lib.joinTail]
theorem info9 : (Try.prog.info? 9).map (fun i => (i.zero, i.size, i.bytes)) = some (some (.string ⟨#[]⟩), 1, 16) := by kernel_rfl
theorem Lex_sl (s : ByteArray) (w : World) (hs : s.size ≤ maxLen) (ts : List Tok) (er k : Nat) (h : lexR s.toList = (ts, er, k)) :
    Calls Try.prog 15 #[.string s] w fun e w' => ∃ sl, e = .returned (.tuple #[sl, .int .i64 (er : Int), .int .i64 (k : Int)]) ∧ SlT sl ts w' ∧ Below w.heap.size w w' := by
  have := Lex_all s w hs
  rw [h] at this
  exact this.mono fun e w' ⟨sl, he, ho, hb⟩ => ⟨sl, he, SlT.owned ho, hb⟩

theorem join_any (v : Value) (rs : List Bs) (W : World) (base : Nat) (ho : W.ownsRow base 9 1 v rs.length (rs.map fun r => Value.string (ofL r))) (hl : (joinB rs).length ≤ 200000) (hn : rs.length ≤ 2000) :
    Calls Try.prog 21 #[v, .string ⟨#[32]⟩] W fun e w' => e = .returned (.string (ofL (joinB rs))) ∧ Below W.heap.size W w' := by
  rcases ho.2 with ⟨rfl, h0⟩ | ⟨g, cap, cur, rfl, _, hg, hcap, _⟩
  · obtain rfl : rs = [] := List.eq_nil_of_length_eq_zero h0
    refine (Try.strings_Join_none none 0 ⟨#[32]⟩ W).mono ?_
    rintro e w' ⟨rfl, rfl⟩
    exact ⟨rfl, Below.refl _ _⟩
  · have hx : (rs.map ofL).map (fun x : ByteArray => x.data.toList) = rs := by
      rw [List.map_map]
      exact List.map_id'' (fun r => rfl) rs
    have hc : ∀ (j : Nat) (x : ByteArray), (rs.map ofL)[j]? = some x → W.cell? ⟨g, 0 + j, none⟩ = some (.string x) := fun j x hj => by
      have h2 := ho.cells (g := g) rfl j (.string x) (by
        rw [List.getElem?_map] at hj ⊢
        obtain ⟨r, hr, rfl⟩ := Option.map_eq_some_iff.1 hj
        rw [hr]; rfl)
      rwa [Go.WideShapes.add_plain] at h2
    have hj : Lib.join ((rs.map ofL).map (fun x : ByteArray => x.data.toList)) (⟨#[32]⟩ : ByteArray).data.toList = joinB rs := by rw [hx]; exact join_eq rs
    have := Try.strings_Join g 0 cap (rs.map ofL) ⟨#[32]⟩ W hc (Array.getElem?_eq_some_iff.1 hg).1 (by simp; omega) (by simpa using hcap) (by rw [hj]; omega)
    rw [hj, List.length_map] at this
    exact this
theorem txt_news (W : World) (x : ByteArray) : ∀ j u, ([Value.string x])[j]? = some u → (W.alloc (.cells #[.string x] 9)).cell? ((⟨W.heap.size, 0, none⟩ : Addr).add j) = some u := by
  intro j u h
  rw [Go.WideShapes.add_plain, Nat.zero_add, World.cell?_alloc_at _ _ _ _ rfl]
  simpa using h
theorem txt_one (x : ByteArray) : ∀ u ∈ [Value.string x], u.oneCell' = true := by
  intro u hu
  simp at hu
  subst hu
  rfl
theorem take_snoc {rs : List Bs} {k : Nat} (h : k < rs.length) : ((rs.take (k + 1)).map fun r => Value.string (ofL r)) = ((rs.take k).map fun r => Value.string (ofL r)) ++ [Value.string (ofL rs[k])] := by
  rw [List.take_succ_eq_append_getElem h, List.map_append]
  rfl
theorem txt_keep {w2 W W5 W6 : World} {v : Value} {n : Nat} {xs : List Value} (h : W.ownsRow w2.heap.size 9 1 v n xs) (h0 : Below w2.heap.size w2 W) (o : Obj) (hb : Below (W.alloc o).heap.size (W.alloc o) W5) (o' : Obj) :
    (W5.alloc o').ownsRow w2.heap.size 9 1 v n xs ∧ Below w2.heap.size w2 W5 ∧ ((W5.alloc o').grownBy W6 v.ownBlock → Below w2.heap.size w2 W6) := by
  have h1 : Below w2.heap.size w2 (W.alloc o) := h0.alloc h0.size _
  have h5 : Below w2.heap.size w2 W5 := h1.trans (hb.mono h1.size)
  have hw : Below W.heap.size W W5 := ((Below.refl _ W).alloc (Nat.le_refl _) o).trans (hb.mono (by simp))
  have h7 : Below w2.heap.size w2 (W5.alloc o') := h5.alloc h5.size _
  exact ⟨(row_keep0 h hw).alloc _, h5, fun hg => h7.grown hg h7.size (fun k hk => (h.lt k hk).1)⟩

set_option maxHeartbeats 2000000 in
set_option maxRecDepth 100000 in
theorem walk_no (s : ByteArray) (w : World) (hs : s.size ≤ maxLen) (ts : List Tok) (er k : Nat) (hr : lexR s.toList = (ts, er, k)) (he : er ≠ 0) :
    Calls Try.prog 6 #[.string s] w fun e w' => e = .returned (.bool true) ∧ Below w.heap.size w w' := by
  have q1 : ((er : Int) == 0) = false := beq_eq_false_iff_ne.2 (by omega)
  have q1b : ((er : Int) != 0) = true := by simp only [bne, q1]; rfl
  have HA := Lib.hid (fun W => Lex_sl s W hs ts er k hr)
  clear hr he
  go_enter Try.func6, Try.ntmps6
  go_wp2_with (first | (go_at_call 14; refine (head_any _).mono ?_; rintro e w1 ⟨rfl, hb1⟩; have HW := Lib.hid hb1; clear hb1) | (go_at_call 15; fail))
  refine (HA.out _).mono ?_
  rintro e w2 ⟨va, rfl, sa, hb2⟩
  obtain ⟨pa, ca, rfl⟩ := sa.form
  replace HW := Lib.hid (HW.out.trans (hb2.mono HW.out.size))
  clear sa hb2
  go_wp2
  go_ret
  exact ⟨rfl, HW.out⟩

set_option maxHeartbeats 4000000 in
set_option maxRecDepth 100000 in
theorem walk_yes (s : ByteArray) (w : World) (hs : s.size ≤ maxLen) (ts : List PTok) (hr : lexR s.toList = (ts.map PTok.tok, 0, 0)) (hn : ts.length ≤ 2000) (hsm : ∀ t ∈ ts, t.n ≤ 1000000000 ∧ t.x.length ≤ 60)
    (us : List PTok) (hu : us.map PTok.bare = ts.map PTok.bare) (hj : (joinB (txts ts)).length ≤ 8000 → lexR (joinB (txts ts)) = (us.map PTok.tok, 0, 0)) (hjl : (joinB (txts ts)).length ≤ 200000) :
    Calls Try.prog 6 #[.string s] w fun e w' => e = .returned (.bool true) ∧ Below w.heap.size w w' := by
  have HA := Lib.hid (fun W => Lex_sl s W hs _ 0 0 hr)
  have hul : us.length = ts.length := by simpa using congrArg List.length hu
  have HAL := Lib.hid (alike_bare ts us hu)
  have HSM := Lib.hid hsm
  have HJ := Lib.hid hj
  obtain ⟨i0, hi0, hz0, hz1, hz2⟩ := info_parts info9
  have HI := Lib.hid hi0
  have HZ0 := Lib.hid hz0
  have HZ1 := Lib.hid hz1
  have HZ2 := Lib.hid hz2
  obtain ⟨n, hnl⟩ : ∃ n, (ts.map PTok.tok).length = n := ⟨_, rfl⟩
  have hnl2 : ts.length = n := by simpa using hnl
  have HN := Lib.hid hnl
  have HN2 := Lib.hid hnl2
  have hn' : n ≤ 2000 := by omega
  clear hr hsm hj hi0 hz0 hz1 hz2 hnl hnl2 hn
  go_enter Try.func6, Try.ntmps6
  go_wp2_with (first | (go_at_call 14; refine (head_any _).mono ?_; rintro e w1 ⟨rfl, hb1⟩; have HW := Lib.hid hb1; clear hb1) | (go_at_call 15; fail))
  refine (HA.out _).mono ?_
  rintro e w2 ⟨va, rfl, sa, hb2⟩
  have SA := Lib.hid sa
  obtain ⟨pa, ca, rfl⟩ := sa.form
  rw [HN.out]
  replace HW := Lib.hid (HW.out.trans (hb2.mono HW.out.size))
  clear sa hb2
  go_wp2
  go_loopw [7, 31] (fun s7 s31 wr => ∃ (k cap : Nat) (p : Option Addr), s7 = .slice p k cap ∧ s31 = .int .i64 k ∧ k ≤ n ∧ Hid (Below w2.heap.size w2 wr) ∧ Hid (wr.ownsRow w2.heap.size 9 1 s7 k (((txts ts).take k).map fun r => Value.string (ofL r)))) (fun _ s31 _ => n - (intOf s31).toNat)
  case atStart => exact ⟨0, 0, none, rfl, rfl, Nat.zero_le _, Lib.hid (Below.refl _ _), Lib.hid (World.ownsRow_nil _ _ _ _)⟩
  case round =>
    obtain ⟨k, cap, p, rfl, rfl, hk, HB, HO⟩ := hrel
    by_cases h1 : k < n
    · have h1t : k < ts.length := by rw [HN2.out]; exact h1
      have h1r : k < (txts ts).length := by unfold txts; simpa using h1t
      obtain ⟨b, off, rfl, hlt, hrt⟩ : ∃ b off, pa = some ⟨b, off, none⟩ ∧ b < w2.heap.size ∧ RT b off (ts.map PTok.tok) w2 := by
        rcases SA.out with ⟨h0, _⟩ | ⟨b, off, c, h2, h3, h4⟩
        · rw [← HN.out, h0] at h1; simp at h1
        · cases h2; exact ⟨b, off, rfl, h3, h4⟩
      obtain ⟨a0, a1, a2, a3⟩ := (hrt.keep hlt HB.out).at_ (i := k) (t := ts[k].tok) (by simp [h1t])
      have ht := HSM.out ts[k] (List.getElem_mem h1t)
      have hts : (txts ts)[k] = textT ts[k].k ts[k].x ts[k].n := List.getElem_map (fun t : PTok => textT t.k t.x t.n) (l := ts) (i := k) (h := h1r)
      have hsn := take_snoc h1r
      rw [hts] at hsn
      generalize ts[k] = t at *
      unfold PTok.tok at a0 a1 a2 a3
      simp only at a0 a1 a2 a3
      have hT := fun W => text_ref t.k t.x t.n t.a W ht.1
      have hX : (ofL (textT t.k t.x t.n)).size ≤ 60 := by rw [ofL_size]; exact txt_len ht
      generalize ofL (textT t.k t.x t.n) = X at *
      have HT := Lib.hid hT
      have HSN := Lib.hid hsn
      have HRT := Lib.hid hrt
      have hkn : (k : Int) < (n : Int) := by omega
      have htn : ¬ (t.n : Int) < 0 := by omega
      clear hT hsn hrt hts ht h1r
      go_wp2_with (first | (go_at_call 20; refine (HT.out _).mono ?_; rintro e w5 ⟨rfl, hb5⟩; have HB5 := Lib.hid hb5; clear hb5) | (at_builtin; refine wpList_append_own _ rfl (.tmp 38) (.tmp 41) 29 rfl w2.heap.size 9 i0 (.string ⟨#[]⟩) 1 16 Try.underlying29 HI.out HZ0.out HZ1.out HZ2.out rfl (by decide) _ k _ rfl (txt_keep (W6 := w5) HO.out HB.out _ HB5.out _).1 ⟨w5.heap.size, 0, none⟩ 1 1 [.string X] rfl rfl (txt_news w5 X) (txt_one X) (len_max (by omega)) (by omega) (Nat.le_trans (txt_keep (W6 := w5) HO.out HB.out _ HB5.out (.cells #[.string X] 9)).2.1.size (by simp)) (fun v' w6 hown' hgrow _ => ?_); have HO6 := Lib.hid hown'; have HB6 := Lib.hid ((txt_keep HO.out HB.out _ HB5.out _).2.2 hgrow); clear hown' hgrow) | go_in)
      go_roundw
      case rel =>
        obtain ⟨p', cap', hv⟩ := row_form HO6.out
        exact ⟨k + 1, cap', p', hv, by go_num, by omega, HB6, Lib.hid (by rw [HSN.out]; exact HO6.out)⟩
      case measure => simp [intOf]; omega
    · obtain rfl : k = n := by omega
      have htk : (txts ts).take k = txts ts := List.take_of_length_le (by unfold txts; rw [List.length_map, HN2.out]; exact Nat.le_refl _)
      have hrl : (txts ts).length = k := by unfold txts; rw [List.length_map, HN2.out]
      have ho := HO.out
      rw [htk] at ho
      have hJ := join_any _ (txts ts) _ _ (by rw [hrl]; exact ho) hjl (by omega)
      have HJO := Lib.hid hJ
      have hsz : (ofL (joinB (txts ts))).size = (joinB (txts ts)).length := ofL_size _
      have htl : (ofL (joinB (txts ts))).toList = joinB (txts ts) := ofL_toList _
      by_cases h8 : (joinB (txts ts)).length ≤ 8000
      · have hL := fun W => Lex_sl (ofL (joinB (txts ts))) W (by unfold maxLen; omega) _ 0 0 (by rw [htl]; exact HJ.out h8)
        have HL := Lib.hid hL
        clear hL htl hJ ho htk hrl hu
        generalize ofL (joinB (txts ts)) = Y at *
        have hy : ¬ (8000 : Int) < (Y.size : Int) := by omega
        go_wp2_with (first | (go_at_call 21; refine HJO.out.mono ?_; rintro e w7 ⟨rfl, hb7⟩; have HB7 := Lib.hid hb7; clear hb7) | (go_at_call 15; fail))
        refine (HL.out _).mono ?_
        rintro e w8 ⟨vb, rfl, sb, hb8⟩
        have SB := Lib.hid sb
        replace HB7 := Lib.hid (HB.out.trans (HB7.out.mono HB.out.size))
        replace HB7 := Lib.hid (HB7.out.trans (hb8.mono HB7.out.size))
        replace SA := Lib.hid (SA.out.keep HB7.out)
        clear sb hb8
        have hal := alike_any SA.out SB.out (by rw [List.length_map]; have := HN2.out; omega) (by rw [List.length_map]; have := HN2.out; omega)
        rw [HAL.out] at hal
        rw [HN.out] at hal
        have HALL := Lib.hid hal
        clear hal
        go_wp2_with (go_at_call 22; refine HALL.out.mono ?_; rintro e w9 ⟨rfl, hb9⟩; replace HB7 := Lib.hid (HB7.out.trans (hb9.mono HB7.out.size)); clear hb9)
        go_ret
        exact ⟨rfl, HW.out.trans (HB7.out.mono HW.out.size)⟩
      · clear htl hJ ho htk hrl hu
        generalize ofL (joinB (txts ts)) = Y at *
        have hy : (8000 : Int) < (Y.size : Int) := by omega
        go_wp2_with (go_at_call 21; refine HJO.out.mono ?_; rintro e w7 ⟨rfl, hb7⟩; have HB7 := Lib.hid hb7; clear hb7)
        go_ret
        exact ⟨rfl, (HW.out.trans (HB.out.mono HW.out.size)).trans (HB7.out.mono (Nat.le_trans HW.out.size HB.out.size))⟩

theorem walk (s : ByteArray) (w : World) (hs : s.size ≤ maxLen) :
    Calls Try.prog 6 #[.string s] w fun e w' => e = .returned (.bool true) ∧ Below w.heap.size w w' := by
  by_cases h : (lexR s.toList).2.1 = 0
  · obtain ⟨ts, h8, hO, hl, hr⟩ := lexR_ok h
    have hsm := lexO_small _ _ _ _ hO
    obtain ⟨us, hu1, hu2⟩ := lexO_joinB ts ((joinB (txts ts)).length + 1) 0 (lexO_src _ _ _ _ hO) (Nat.lt_succ_self _)
    have hul : us.length = ts.length := by simpa using congrArg List.length hu2
    have hjl := joinB_len (txts ts) (fun r hr => by
      obtain ⟨t, ht, rfl⟩ := List.mem_map.1 hr
      exact txt_len (hsm t ht))
    have htl : (txts ts).length = ts.length := by simp [txts]
    exact walk_yes s w hs ts hr hl hsm us hu2 (fun h9 => lexR_of h9 hu1 (by omega)) (by omega)
  · exact walk_no s w hs _ _ _ rfl h

theorem own : ownKnob Try.prog.godebug = none := by kernel_rfl
theorem laidOut : laidOutB Try.prog = true := by kernel_rfl

set_option maxRecDepth 100000 in
theorem lifted (os : Os) (started : os.Started) (H : Type) (enc : TypeId × Value → H) :
    ReturnsInHanded {} Try.checked os 6 .any (Rows.lexerTextsSpec.pre6 enc Try.prog Try.f6 Rows.lexerTextsRow.domain false) (Rows.lexerTextsSpec.post enc Try.prog Try.f6 false true false false) := by
  refine returnsInHanded_of_change (C := Try.checked) own started (by kernel_rfl) Try.func6
    (ChangeSpec.witness6 (enc := enc) (C := Try.checked) false ⟨#[], #[.string ⟨#[]⟩], []⟩ 8 (by kernel_rfl) (by kernel_rfl) (by kernel_rfl) (by kernel_rfl)) ?_
  intro W base args ds gs before hval0 hW hcnd _
  have hval : ∀ (j : Nat) t v, Try.f6.params[j]? = some t → args[j]? = some v → Value.okWide Try.prog W .any base t v := hval0
  have hW' := hW
  obtain ⟨p, q, hA0, hV, rfl, hfz, hnd⟩ := hW
  have hA : DataW.TrodAll enc Try.prog W 0 (fun _ => true) true Try.f6.params.toList args.toList ds p := hA0
  rw [Try.params6] at hA hval
  obtain ⟨v0, vs0, d0, ds0, p0, q0, hargs, rfl, rfl, h0, r0⟩ := trodAll_cons hA
  obtain ⟨rfl, rfl, rfl⟩ := trodAll_nil r0
  obtain rfl : args = #[v0] := by cases args; simp_all
  obtain ⟨rfl, rfl⟩ := trodVars_none hV
  have k0 := h0
  have lt0 : ∀ x ∈ p0, x.block < W.heap.size := by obtain ⟨m, hm⟩ := k0; exact DataW.trod_lt m _ _ _ hm
  obtain ⟨s0, rfl, rfl, rfl, ws0⟩ := open_string Try.underlying9 (hval 0 9 v0 rfl rfl) h0
  clear hA0 hval0
  refine (walk s0 W ws0).mono fun e W' ⟨he, bel⟩ => ?_
  subst he
  exact ⟨_, rfl, _, _, _, [], _, [], hW', trodAll_mk1 (shut_bool Try.underlying4 _), (trodAll_cons_mk (Below.trod laidOut (by kernel_rfl) (of_decide_eq_true (by kernel_rfl)) k0 bel lt0) trodAll_mk0), rfl, bel.frame _, fun h => by cases h⟩

theorem over : Rows.LexerTextsSaid :=
  OpenClaim.holds_of_wide 6 Try.f6 rfl rfl rfl rfl rfl rfl rfl ⟨rfl, rfl, rfl, rfl, rfl⟩ rfl rfl rfl rfl rfl (by kernel_rfl) Try.func6 (by kernel_rfl)
    (of_decide_eq_true (by kernel_rfl)) (by unfold Func.isWrapper; rw [if_neg (of_decide_eq_false (by kernel_rfl))]; exact ⟨rfl, rfl⟩)
    (fun os started H enc _ => lifted os started H enc)

end Texts
theorem lexerTexts_holds : Rows.LexerTextsSaid := Texts.over
end Go.Proofs.Ytggcnpmniidgkaa
