/- The walk of LexerGaps where the gap is inserted ahead of a token; no condition beyond those that each theorem names. -/
import Derived.Test.YtggcnpmniidgkaaG1
import Derived.Test.YtggcnpmniidgkaaShelfL
import Derived.Deep.RegionWith
import Derived.Lib.QuietBelow
namespace Go.Proofs.Ytggcnpmniidgkaa
open Go.RowKit Go.Maps Go.Shelf
open NmP
namespace Gaps
set_option linter.unusedVariables false

theorem Lex_sl (s : ByteArray) (w : World) (hs : s.size ≤ maxLen) (ts : List Tok) (er k : Nat) (h : lexR s.toList = (ts, er, k)) :
    Calls Try.prog 15 #[.string s] w fun e w' => ∃ sl, e = .returned (.tuple #[sl, .int .i64 (er : Int), .int .i64 (k : Int)]) ∧ SlT sl ts w' ∧ Below w.heap.size w w' := by
  have := Lex_all s w hs
  rw [h] at this
  exact this.mono fun e w' ⟨sl, he, ho, hb⟩ => ⟨sl, he, SlT.owned ho, hb⟩

def g0 : ByteArray := ⟨#[32]⟩
def g1 : ByteArray := ⟨#[10]⟩
def g2 : ByteArray := ⟨#[9, 10, 32]⟩
def g3 : ByteArray := ⟨#[35, 32, 97, 32, 123, 32, 34, 32, 48, 49, 10]⟩
def g4 : ByteArray := ⟨#[10, 35, 45, 10]⟩
/-- The gap of a kind. -/
def gapK (r : Nat) : ByteArray := if r = 0 then g0 else if r = 1 then g1 else if r = 2 then g2 else if r = 3 then g3 else g4
theorem gapK_cell (W : World) (r : Nat) (h : r < 5) : (W.alloc (.cells #[.string ⟨#[32]⟩, .string ⟨#[10]⟩, .string ⟨#[9, 10, 32]⟩, .string ⟨#[35, 32, 97, 32, 123, 32, 34, 32, 48, 49, 10]⟩, .string ⟨#[10, 35, 45, 10]⟩] 9)).cell? ⟨W.heap.size, r, none⟩ = some (.string (gapK r)) := by
  rw [World.cell?_alloc_at _ _ _ _ rfl]
  rcases (show r = 0 ∨ r = 1 ∨ r = 2 ∨ r = 3 ∨ r = 4 by omega) with rfl | rfl | rfl | rfl | rfl <;> rfl
theorem gapK_size (r : Nat) : (gapK r).size ≤ 11 := by
  unfold gapK
  (repeat' split) <;> decide

theorem Lex_raw (s : ByteArray) (w : World) (hs : s.size ≤ maxLen) (ts : List Tok) (h : lexR s.toList = (ts, 0, 0)) :
    Calls Try.prog 15 #[.string s] w fun e w' => ∃ sl, e = .returned (.tuple #[sl, .int .i64 0, .int .i64 0]) ∧ w'.ownsRow w.heap.size 31 4 sl ts.length (rowT ts) ∧ Below w.heap.size w w' := by
  have := Lex_all s w hs
  rw [h] at this
  exact this
/-- A slice of tokens that a call has laid: nothing, or a row with room. -/
theorem row_or {W : World} {base n : Nat} {v : Value} {l : List Tok} (h : W.ownsRow base 31 4 v l.length (rowT l)) (hn : l.length = n) : (n = 0 ∧ v = .slice none 0 0) ∨ ∃ g cap, v = .slice (some ⟨g, 0, none⟩) n cap ∧ g < W.heap.size ∧ n ≤ cap ∧ cap ≤ maxLen ∧ RT g 0 l W := by
  subst hn
  rcases h.2 with ⟨rfl, h0⟩ | ⟨g, cap, cur, rfl, _, hg, hcap, hmax, _⟩
  · exact .inl ⟨h0, rfl⟩
  · exact .inr ⟨g, cap, rfl, (Array.getElem?_eq_some_iff.1 hg).1, hcap, hmax, RT.owned h⟩
theorem same_shift {l : List Tok} (d : Nat) {va vb : Value} {w : World} (ha : SlT va l w) (hb : SlT vb (l.map (Tok.up d)) w) (hn : Small l) (hd : d ≤ 1000000) :
    Calls Try.prog 17 #[va, vb, .int .i64 (d : Int)] w fun e w' => e = .returned (.bool true) ∧ Below w.heap.size w w' := by
  have := same_any d ha hb hn (by rw [List.length_map]; exact hn.1) hd
  rw [same_up] at this
  exact this
theorem SlT.row {b off n c : Nat} {l : List Tok} {W : World} (hn : l.length = n) (hb : b < W.heap.size) (h : RT b off l W) : SlT (.slice (some ⟨b, off, none⟩) n c) l W := by
  subst hn
  exact .inr ⟨b, off, c, rfl, hb, h⟩
abbrev five : Obj := .cells #[.string ⟨#[32]⟩, .string ⟨#[10]⟩, .string ⟨#[9, 10, 32]⟩, .string ⟨#[35, 32, 97, 32, 123, 32, 34, 32, 48, 49, 10]⟩, .string ⟨#[10, 35, 45, 10]⟩] 9

set_option maxHeartbeats 4000000 in
set_option maxRecDepth 100000 in
theorem walk_in (s : ByteArray) (wh kd : Nat) (w : World) (hs : s.size ≤ 8000) (hwh : wh < 256) (hkd : kd < 256) (A1 A2 : List Tok) (t : Tok) (hr : lexR s.toList = (A1 ++ t :: A2, 0, 0)) (n : Nat) (hnl : (A1 ++ t :: A2).length = n) (hn : n ≤ 2000)
    (k : Nat) (hk1 : A1.length = k) (hk : wh % (n + 1) = k) (r : Nat) (hr5 : kd % 5 = r) (hps : t.a ≤ s.size) (hm1 : Small A1) (hm2 : Small (t :: A2))
    (hfin : s.size + (gapK r).size ≤ 8000 → ∀ s' : ByteArray, s'.toList = s.toList.take t.a ++ ((gapK r).toList ++ s.toList.drop t.a) → lexR s'.toList = (A1 ++ (t :: A2).map (Tok.up (gapK r).size), 0, 0)) :
    Calls Try.prog 4 #[.string s, .int .u8 wh, .int .u8 kd] w fun e w' => e = .returned (.bool true) ∧ Below w.heap.size w w' := by
  have HA := Lib.hid (fun W => Lex_raw s W (by unfold maxLen; omega) _ hr)
  have hkn : k < n := by rw [← hnl, ← hk1]; simp
  have hki : (wh : Int) % ((n : Int) + 1) = (k : Int) := by rw [← hk]; rfl
  have hne : (((n : Int) + 1) == 0) = false := beq_eq_false_iff_ne.2 (by omega)
  have hlt : (k : Int) < (n : Int) := by omega
  have hr5i : (kd : Int) % 5 = (r : Int) := by rw [← hr5]; rfl
  have hr5b : r < 5 := by omega
  have HC := Lib.hid (fun W => gapK_cell W r hr5b)
  have hgs := gapK_size r
  have HF := Lib.hid hfin
  have HN := Lib.hid hnl
  have HK := Lib.hid hk1
  have HM1 := Lib.hid hm1
  have HM2 := Lib.hid hm2
  have hat : (A1 ++ t :: A2)[k]? = some t := by rw [← hk1]; simp
  have HAT := Lib.hid hat
  obtain ⟨p, hpe⟩ : ∃ p, t.a = p := ⟨_, rfl⟩
  rw [hpe] at hps
  have HP := Lib.hid hpe
  clear hk hr5 hr hfin hnl hk1 hm1 hm2 hat hpe
  by_cases h8 : 8000 < s.size + (gapK r).size
  · have h8i : (8000 : Int) < (s.size : Int) + ((gapK r).size : Int) := by omega
    clear HF
    generalize gapK r = G at *
    go_enter Try.func4, Try.ntmps4
    go_wp2_with (first | (go_at_call 14; refine (head_any _).mono ?_; rintro e w1 ⟨rfl, hb1⟩; have HW := Lib.hid hb1; clear hb1) | (go_at_call 15; fail))
    refine (HA.out _).mono ?_
    rintro e w2 ⟨va, rfl, sa, hb2⟩
    rcases row_or sa HN.out with ⟨h0, _⟩ | ⟨b, ca, rfl, hbl, hca, hcm, hrt⟩
    · omega
    · replace HW := Lib.hid (HW.out.trans (hb2.mono HW.out.size))
      clear sa hb2
      have hcell := HC.out w2
      have a3 := (hrt.at_ HAT.out).2.2.2
      rw [HP.out, Nat.zero_add] at a3
      clear hrt
      go_wp2
      go_ret
      exact ⟨rfl, HW.out.alloc HW.out.size _⟩
  · have h8i : ¬ (8000 : Int) < (s.size : Int) + ((gapK r).size : Int) := by omega
    have hx1 : (s.extract 0 p).size = p := by rw [ByteArray.size_extract]; omega
    have hx2 : (s.extract p s.size).size = s.size - p := by rw [ByteArray.size_extract]; omega
    have hsz : (s.extract 0 p ++ gapK r ++ s.extract p s.size).size ≤ maxLen := by
      unfold maxLen
      rw [ByteArray.size_append, ByteArray.size_append, hx1, hx2]
      omega
    have htl : (s.extract 0 p ++ gapK r ++ s.extract p s.size).toList = s.toList.take p ++ ((gapK r).toList ++ s.toList.drop p) := by
      have e1 : (s.extract 0 p).toList = s.toList.take p := by rw [tl_sub]; simp
      have e2 : (s.extract p s.size).toList = s.toList.drop p := by rw [tl_sub, List.take_of_length_le (by rw [List.length_drop, tl_len]; omega)]
      rw [← e1, ← e2]
      simp only [tl, ByteArray.data_append]
      simp
    have HL := Lib.hid (fun W => Lex_raw (s.extract 0 p ++ gapK r ++ s.extract p s.size) W hsz _ (HF.out (by omega) _ (by rw [HP.out]; exact htl)))
    clear HF hsz htl
    generalize gapK r = G at *
    go_enter Try.func4, Try.ntmps4
    go_wp2_with (first | (go_at_call 14; refine (head_any _).mono ?_; rintro e w1 ⟨rfl, hb1⟩; have HW := Lib.hid hb1; clear hb1) | (go_at_call 15; fail))
    refine (HA.out _).mono ?_
    rintro e w2 ⟨va, rfl, sa, hb2⟩
    rcases row_or sa HN.out with ⟨h0, _⟩ | ⟨b, ca, rfl, hbl, hca, hcm, hrt⟩
    · omega
    · replace HW := Lib.hid (HW.out.trans (hb2.mono HW.out.size))
      clear sa hb2
      have hcell := HC.out w2
      have hrt2 := hrt.keep hbl (below_1 w2 five)
      have a3 := (hrt.at_ HAT.out).2.2.2
      rw [HP.out, Nat.zero_add] at a3
      have HRT := Lib.hid hrt2
      have hbl2 : b < (w2.alloc five).heap.size := Nat.lt_of_lt_of_le hbl (below_1 w2 five).size
      replace HW := Lib.hid (HW.out.alloc HW.out.size five)
      clear hrt hrt2
      unfold maxLen at hcm
      go_wp2
      clear hcell a3
      generalize w2.alloc _ = W3 at *
      go_region_with (go_at_call 15; refine (HL.out _).mono ?_; rintro e w5 ⟨vb, rfl, sb, hb5⟩)
      have HRT3 := Lib.hid (HRT.out.keep hbl2 ((Below.refl _ W3).drew))
      replace HW := Lib.hid (HW.out.drew)
      have hbl3 : b < W3.drew.heap.size := hbl2
      clear HRT hbl2
      have hNl : (A1 ++ (t :: A2).map (Tok.up G.size)).length = n := by rw [← HN.out]; simp
      rcases row_or sb hNl with ⟨h0, _⟩ | ⟨g, cb, rfl, hgl, hcb, hcbm, hrtb⟩
      · omega
      · replace HW := Lib.hid (HW.out.trans (hb5.mono HW.out.size))
        have hra := HRT3.out.keep hbl3 hb5
        have hbl5 : b < w5.heap.size := Nat.lt_of_lt_of_le hbl3 hb5.size
        clear HRT3 hbl3 sb hb5 HL
        unfold maxLen at hcbm
        clear hNl
        have hn2 : n - k = (t :: A2).length := by rw [← HN.out, ← HK.out]; simp
        have PA1 := SlT.row (c := ca) HK.out hbl5 hra.part.1
        have PA2 := SlT.row (c := ca - k) hn2.symm hbl5 hra.part.2
        have PB1 := SlT.row (c := cb) HK.out hgl hrtb.part.1
        have PB2 := SlT.row (c := cb - k) ((List.length_map (Tok.up G.size)).trans hn2.symm) hgl hrtb.part.2
        rw [HK.out, Nat.zero_add] at PA2 PB2
        have C1 := Lib.hid (fun d os => same_lit (PA1.keep (below_regrown w5 d os)) (PB1.keep (below_regrown w5 d os)) HM1.out)
        have C2 := Lib.hid (fun d os => same_shift G.size (PA2.keep (below_regrown w5 d os)) (PB2.keep (below_regrown w5 d os)) HM2.out (by omega))
        clear PA1 PA2 PB1 PB2 hra hrtb hn2
        go_wp2
        refine wp_region_quiet_below (by kernel_rfl) (by kernel_rfl) ?_
        repeat (go_big_quiet_step ((first | (go_at_call 17; (with_reducible exact Calls.regrown_of (C1.out _ _))) | (go_at_call 17; (with_reducible exact Calls.regrown_of (C2.out _ _))))))
        refine wpQuiet_nil ?_
        intro _ hw'
        obtain ⟨⟨dq, osq⟩, hw''⟩ := hw'
        subst hw''
        go_wp2
        go_ret
        exact ⟨rfl, HW.out.trans ((below_regrown _ dq osq).mono HW.out.size)⟩
end Gaps
end Go.Proofs.Ytggcnpmniidgkaa
