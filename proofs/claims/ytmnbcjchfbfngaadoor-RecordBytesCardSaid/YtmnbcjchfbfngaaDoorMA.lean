/- SameSets of the reference at lists of one set, and the calls of the head of layer 2's laws; no condition beyond those that each theorem names. -/
import Derived.Test.YtmnbcjchfbfngaaDoorM9
namespace Go.Proofs.YtmnbcjchfbfngaaDoor
set_option linter.unusedSimpArgs false
set_option linter.unusedVariables false
open Go.RowKit
open NmP

set_option maxHeartbeats 4000000 in
set_option maxRecDepth 100000 in
theorem rsets1 (x : ByteArray) (t f : Int) (p q : Option Addr) (n m c d : Nat) (l : List Dt) (g g' cap cap' : Nat) (w : World) (hg : g < w.heap.size) (hg' : g' < w.heap.size) (hA : RT g 0 [⟨x, t, f, p, n, c⟩] w) (hB : RT g' 0 [⟨x, t, f, q, m, d⟩] w)
    (h1 : SlD (.slice p n c) l w) (h2 : SlD (.slice q m d) l w) (hx : x.size ≤ maxLen) (hs : ∀ d ∈ l, d.1.size ≤ maxLen) (hl : l.length ≤ maxLen) :
    Calls Tryd.prog 15 #[.slice (some ⟨g, 0, none⟩) 1 cap, .slice (some ⟨g', 0, none⟩) 1 cap'] w fun e w' => e = .returned (.bool true) ∧ Below w.heap.size w w' := by
  have CS := Lib.hid (fun W (hb : Below w.heap.size w W) => rsame_any ⟨x, t, f, .slice p n c, l⟩ ⟨x, t, f, .slice q m d, l⟩ W ⟨hx, hs, h1.keep hb⟩ ⟨hx, hs, h2.keep hb⟩ hl)
  rw [show sameB ⟨x, t, f, .slice p n c, l⟩ ⟨x, t, f, .slice q m d, l⟩ = true by simp [sameB]] at CS
  obtain ⟨a0, a1, a2, a3⟩ := hA.at_ (i := 0) rfl
  obtain ⟨b0, b1, b2, b3⟩ := hB.at_ (i := 0) rfl
  simp only [Nat.zero_mul, Nat.zero_add, Nat.add_zero] at a0 a1 a2 a3 b0 b1 b2 b3
  clear hA hB h1 h2 hs hl
  go_enter Tryd.func15, Tryd.ntmps15
  go_wp2
  refine wp_loop_rounds 2 ?_
  rw [rounds_succ]
  go_wp2
  have ha0 := fun d os => cell_regrown a0 d os
  have ha1 := fun d os => cell_regrown a1 d os
  have ha2 := fun d os => cell_regrown a2 d os
  have ha3 := fun d os => cell_regrown a3 d os
  have hb0 := fun d os => cell_regrown b0 d os
  have hb1 := fun d os => cell_regrown b1 d os
  have hb2 := fun d os => cell_regrown b2 d os
  have hb3 := fun d os => cell_regrown b3 d os
  refine wp_region_quiet_below (by kernel_rfl) (by kernel_rfl) ?_
  repeat (go_big_quiet_step ((go_at_call 21; (with_reducible exact Calls.regrown_of (CS.out _ (below_regrown _ _ _))))))
  refine wpQuiet_nil ?_
  intro _ hw'
  obtain ⟨⟨dq, osq⟩, hw''⟩ := hw'
  subst hw''
  have HB5 := Lib.hid (below_regrown w dq osq)
  clear ha0 ha1 ha2 ha3 hb0 hb1 hb2 hb3 a0 a1 a2 a3 b0 b1 b2 b3
  generalize Sort.grow (redrawn w dq) osq = W5 at *
  go_wp2
  rw [rounds_succ]
  go_wp2
  go_ret
  exact ⟨rfl, HB5.out⟩

def AdrTo (life : Int) (n : Nat) (l : List Dt) (w : World) (e : Ending) (w' : World) : Prop := ∃ p c, e = .returned (.agg #[.string sX, .int .i64 1, .int .i64 life, .slice p n c]) ∧ SlD (.slice p n c) l w' ∧ Below w.heap.size w w'
theorem adr_of {life : Int} {n : Nat} {xs : List Int} {v : Value} {w W : World} (hv : SlN v xs W) (hn : xs.length = n) (h1 : n ≤ 100) (hb : Below w.heap.size w W) : Calls Tryd.prog 22 #[.int .i64 life, v] W (AdrTo life n (xs.map ad1) w) :=
  (address_any life xs v W hv (by omega)).mono fun e w' ⟨v', h1, h2, h3⟩ => by
    obtain ⟨p, c, rfl⟩ := h2.form
    rw [List.length_map, hn] at h1 h2
    exact ⟨p, c, h1, h2, hb.trans (h3.mono hb.size)⟩
theorem adr1 (life n : Int) (W : World) : Calls Tryd.prog 22 #[.int .i64 life, .slice (some ⟨W.heap.size, 0, none⟩) 1 1] (W.alloc (.cells #[.int .i64 n] 3)) (AdrTo life 1 [ad1 n] W) := by
  refine adr_of (xs := [n]) (.inr ⟨W.heap.size, 0, 1, rfl, by simp, fun i x hi => ?_⟩) rfl (by simp) ((Below.refl _ W).alloc (Nat.le_refl _) _)
  match i, hi with
  | 0, hi => simp at hi; subst hi; exact cell_of_blk (heap_alloc_new W _) 0 _ rfl
  | (i + 1), hi => simp at hi
theorem adr2 (life n m : Int) (W : World) : Calls Tryd.prog 22 #[.int .i64 life, .slice (some ⟨W.heap.size, 0, none⟩) 2 2] (W.alloc (.cells #[.int .i64 n, .int .i64 m] 3)) (AdrTo life 2 [ad1 n, ad1 m] W) := by
  refine adr_of (xs := [n, m]) (.inr ⟨W.heap.size, 0, 2, rfl, by simp, fun i x hi => ?_⟩) rfl (by simp) ((Below.refl _ W).alloc (Nat.le_refl _) _)
  match i, hi with
  | 0, hi => simp at hi; subst hi; exact cell_of_blk (heap_alloc_new W _) 0 _ rfl
  | 1, hi => simp at hi; subst hi; exact cell_of_blk (heap_alloc_new W _) 1 _ rfl
  | (i + 2), hi => simp at hi
theorem adr0 (life : Int) (W : World) : Calls Tryd.prog 22 #[.int .i64 life, .slice none 0 0] W (AdrTo life 0 [] W) :=
  adr_of (xs := []) (.inl ⟨rfl, none, 0, rfl⟩) rfl (by simp) (Below.refl _ W)
theorem bytA (p : Option Addr) (c : Nat) (w : World) (h : SlD (.slice p 1 c) [ad1 7] w) (hr : RulesAt w) :
    Calls Tryd.prog 16 #[.agg #[.string sX, .int .i64 1, .int .i64 5, .slice p 1 c]] w fun e w' => ∃ g off c', e = .returned (.tuple #[.slice (some ⟨g, off, none⟩) 36 c', .int .i64 0]) ∧ SlB w'.heap.size (.slice (some ⟨g, off, none⟩) 36 c') bsA w' ∧ Below w.heap.size w w' :=
  (bytes_set sX 1 5 (.slice p 1 c) [ad1 7] w (setB_one 5 7 (by omega) (by omega)) (by decide) (fun d hd => by simp at hd; subst hd; exact Nat.zero_le _) h hr).mono fun e w' ⟨v', h1, h2⟩ => by
    rw [bsA_set] at h2
    have h3 := OwnBuf.slb h2
    rcases h3 with ⟨q, _⟩ | ⟨g, off, c', rfl, q2, q3, q4⟩
    · exact absurd q (by decide)
    · exact ⟨g, off, c', h1, .inr ⟨g, off, c', rfl, q2, q3, q4⟩, h2.2.1⟩
theorem reaA (v : Value) (w : World) (h : SlB w.heap.size v bsA w) (hr : RulesAt w) :
    Calls Tryd.prog 18 #[v] w fun e w' => ∃ p c, e = .returned (.tuple #[.agg #[.string sX, .int .i64 1, .int .i64 5, .slice p 1 c], .int .i64 0]) ∧ SlD (.slice p 1 c) [ad1 7] w' ∧ Below w.heap.size w w' :=
  (read_any bsA v w h (by decide) hr).mono fun e w' h1 => by
    unfold ReadTo at h1
    rw [if_pos readOkA, rdA.1, rdA.2.1, rdA.2.2.1, rdA.2.2.2] at h1
    obtain ⟨⟨v', q1, q2⟩, q3⟩ := h1
    obtain ⟨p, c, rfl⟩ := q2.form
    exact ⟨p, c, q1, q2, q3⟩
theorem rea0 (w : World) (hr : RulesAt w) :
    Calls Tryd.prog 18 #[.slice none 0 0] w fun e w' => e = .returned (.tuple #[.agg #[.string ⟨#[]⟩, .int .i64 0, .int .i64 0, .slice none 0 0], .int .i64 10]) ∧ Below w.heap.size w w' :=
  (read_any [] (.slice none 0 0) w (.inl ⟨rfl, _, _, rfl⟩) (by simp) hr).mono fun e w' h1 => by
    unfold ReadTo at h1
    rw [if_neg (by rw [readOk0]; simp)] at h1
    exact h1
theorem rt_two (a b : Ss) (W : World) (t : TypeId) : RT W.heap.size 0 [a, b] (W.alloc (.cells #[.string a.x, .int .i64 a.t, .int .i64 a.f, .slice a.p a.n a.c, .string b.x, .int .i64 b.t, .int .i64 b.f, .slice b.p b.n b.c] t)) := by
  intro m u hm
  have hm' : (#[Value.string a.x, .int .i64 a.t, .int .i64 a.f, .slice a.p a.n a.c, .string b.x, .int .i64 b.t, .int .i64 b.f, .slice b.p b.n b.c] : Array Value)[m]? = some u := by
    rw [← Array.getElem?_toList]
    exact hm
  rw [Nat.zero_add]
  exact cell_of_blk (heap_alloc_new W _) m u hm'
theorem merA (p1 p2 : Option Addr) (c1 c2 : Nat) (w : World) (h1 : SlD (.slice p1 1 c1) [ad1 7] w) (h2 : SlD (.slice p2 1 c2) [ad1 3] w) (hr : RulesAt w) :
    Calls Tryd.prog 11 #[.slice (some ⟨w.heap.size, 0, none⟩) 2 2] (w.alloc (.cells #[.string sX, .int .i64 1, .int .i64 5, .slice p1 1 c1, .string sX, .int .i64 1, .int .i64 4, .slice p2 1 c2] 24))
      fun e w' => ∃ g cap g2 cap2, e = .returned (.tuple #[.slice (some ⟨g, 0, none⟩) 1 cap, .int .i64 0]) ∧ g < w'.heap.size ∧ RT g 0 [⟨sX, 1, 4, some ⟨g2, 0, none⟩, 2, cap2⟩] w' ∧ SlD (.slice (some ⟨g2, 0, none⟩) 2 cap2) [ad1 3, ad1 7] w' ∧ Below w.heap.size w w' := by
  have hb : Below w.heap.size w (w.alloc (.cells #[.string sX, .int .i64 1, .int .i64 5, .slice p1 1 c1, .string sX, .int .i64 1, .int .i64 4, .slice p2 1 c2] 24)) := (Below.refl _ w).alloc (Nat.le_refl _) _
  have hs : ∀ n, (ad1 n).1.size ≤ maxLen := fun n => Nat.zero_le _
  refine (merge2 sX 1 5 4 p1 p2 c1 c2 (ad1 7) (ad1 3) w.heap.size 0 2 _ (by simp) (rt_two ⟨sX, 1, 5, p1, 1, c1⟩ ⟨sX, 1, 4, p2, 1, c2⟩ w _) (h1.keep hb) (h2.keep hb) (by simp [ad1]) (by decide) (hr.keep hb) (by decide) (hs 7) (hs 3) (setB_one 5 7 (by omega) (by omega)) (setB_one 4 3 (by omega) (by omega))).mono ?_
  rintro e w' ⟨h, hb'⟩
  have hB := hb.trans (hb'.mono hb.size)
  rcases h with ⟨q, _⟩ | ⟨_, g, cap, g2, cap2, q1, q2, q3, q4⟩
  · exact absurd q (by decide)
  · rw [show srt2 (ad1 7) (ad1 3) = [ad1 3, ad1 7] by kernel_rfl] at q4
    exact ⟨g, cap, g2, cap2, q1, q2, q3, q4, hB⟩
def al (c : UInt8) : Dt := (⟨#[c]⟩, 0, 0)
theorem setB_al (c : UInt8) (h : c = 97 ∨ c = 98) : setB sX.toList 3 0 [al c] = true := by
  have hv : validB sX.toList = true := by rw [tl]; rfl
  have hw : wildB sX.toList = false := by rw [tl]; rfl
  have h1 : okFrom 3 none [al c] = true := by rcases h with rfl | rfl <;> (simp only [okFrom, okD, al, textB, tl]; rfl)
  unfold setB
  rw [hv, hw, show (3 : Int).toNat = 3 from rfl, h1]
  rfl
theorem merB (p1 p2 : Option Addr) (c1 c2 : Nat) (w : World) (h1 : SlD (.slice p1 1 c1) [al 97] w) (h2 : SlD (.slice p2 1 c2) [al 98] w) (hr : RulesAt w) :
    Calls Tryd.prog 11 #[.slice (some ⟨w.heap.size, 0, none⟩) 2 2] (w.alloc (.cells #[.string sX, .int .i64 3, .int .i64 0, .slice p1 1 c1, .string sX, .int .i64 3, .int .i64 0, .slice p2 1 c2] 24))
      fun e w' => e = .returned (.tuple #[.slice none 0 0, .int .i64 35]) ∧ Below w.heap.size w w' := by
  have hb : Below w.heap.size w (w.alloc (.cells #[.string sX, .int .i64 3, .int .i64 0, .slice p1 1 c1, .string sX, .int .i64 3, .int .i64 0, .slice p2 1 c2] 24)) := (Below.refl _ w).alloc (Nat.le_refl _) _
  have hs : ∀ n, (al n).1.size ≤ maxLen := fun n => by show 1 ≤ maxLen; decide
  refine (merge2 sX 3 0 0 p1 p2 c1 c2 (al 97) (al 98) w.heap.size 0 2 _ (by simp) (rt_two ⟨sX, 3, 0, p1, 1, c1⟩ ⟨sX, 3, 0, p2, 1, c2⟩ w _) (h1.keep hb) (h2.keep hb) (by simp [al]) (by decide) (hr.keep hb) (by decide) (hs 97) (hs 98) (setB_al 97 (.inl rfl)) (setB_al 98 (.inr rfl))).mono ?_
  rintro e w' ⟨h, hb'⟩
  have hB := hb.trans (hb'.mono hb.size)
  rcases h with ⟨q, h⟩ | ⟨q, _⟩
  · exact ⟨h, hB⟩
  · exact absurd q (by decide)

theorem sld_new (d : Dt) (W : World) : SlD (.slice (some ⟨W.heap.size, 0, none⟩) 1 1) [d] (W.alloc (.cells #[.string d.1, .int .i64 d.2.1, .int .i64 d.2.2] 48)) := by
  refine .inr ⟨W.heap.size, 0, 1, rfl, by simp, fun m u hm => ?_⟩
  rw [Nat.zero_add]
  have hm' : (#[Value.string d.1, .int .i64 d.2.1, .int .i64 d.2.2] : Array Value)[m]? = some u := by
    rw [← Array.getElem?_toList]
    exact hm
  exact cell_of_blk (heap_alloc_new W _) m u hm'
def txA : Dt := (⟨#[97, 32, 98]⟩, 0, 0)
theorem setB_tx : setB sX.toList 5 0 [txA] = true := by
  have hv : validB sX.toList = true := by rw [tl]; rfl
  have h1 : okFrom 5 none [txA] = true := by simp only [okFrom, okD, txA, textB, tl]; rfl
  unfold setB
  rw [hv, show (5 : Int).toNat = 5 from rfl, h1]
  rfl
theorem cmpA (p1 p2 : Option Addr) (c1 c2 : Nat) (w : World) (h1 : SlD (.slice p1 1 c1) [ad1 7] w) (h2 : SlD (.slice p2 1 c2) [txA] w) (hr : RulesAt w) :
    Calls Tryd.prog 9 #[.agg #[.string sX, .int .i64 1, .int .i64 5, .slice p1 1 c1], .agg #[.string sX, .int .i64 5, .int .i64 0, .slice p2 1 c2]] w fun e w' => e = .returned (.tuple #[.int .i64 (-1), .int .i64 0]) ∧ Below w.heap.size w w' := by
  have k := compare_any ⟨sX, 1, 5, .slice p1 1 c1, [ad1 7]⟩ ⟨sX, 5, 0, .slice p2 1 c2, [txA]⟩ w ⟨(show 1 ≤ maxLen by decide), fun d hd => by simp at hd; subst hd; exact Nat.zero_le _, h1⟩ ⟨(show 1 ≤ maxLen by decide), fun d hd => by simp at hd; subst hd; show 3 ≤ maxLen; decide, h2⟩ hr (setB_one 5 7 (by omega) (by omega)) setB_tx
  have e : ordB sX.toList sX.toList 1 5 = -1 := by
    unfold ordB cmpI
    simp
  simp only [e] at k
  exact k
theorem valA (life : Int) (n : Nat) (l : List Dt) (ok : Bool) (hk : setB sX.toList 1 life l = ok) (hs : ∀ d ∈ l, d.1.size ≤ maxLen) (p : Option Addr) (c : Nat) (w : World) (h : SlD (.slice p n c) l w) (hr : RulesAt w) :
    Calls Tryd.prog 13 #[.agg #[.string sX, .int .i64 1, .int .i64 life, .slice p n c]] w fun e w' => e = .returned (.bool ok) ∧ Below w.heap.size w w' := by
  have k := valid_set sX 1 life (.slice p n c) l w (by decide) hs h hr
  rw [hk] at k
  exact k
theorem small1 (n : Int) : ∀ d ∈ [ad1 n], d.1.size ≤ maxLen := fun d hd => by simp at hd; subst hd; exact Nat.zero_le _
theorem vo1 : setB sX.toList 1 0 [ad1 1] = true := setB_one 0 1 (by omega) (by omega)
theorem vo2 : setB sX.toList 1 5 [] = false := by
  unfold setB
  simp
theorem vo3 : setB sX.toList 1 5 [ad1 7, ad1 3] = false := by
  have h1 : okFrom 1 none [ad1 7, ad1 3] = false := by
    have h0 : cmpS ([] : Bs) [] = 0 := rfl
    simp [okFrom, okD, fitsB, ruleOf, textB, ad1, lessI, orI, cmpI, h0]
  unfold setB
  rw [show (1 : Int).toNat = 1 from rfl, h1]
  simp
theorem vo4 : setB sX.toList 1 100001 [ad1 7] = false := by
  unfold setB
  simp
theorem vo5 : setB sX.toList 1 5 [ad1 1000001] = false := by
  have h1 : okFrom 1 none [ad1 1000001] = false := by simp [okFrom, okD, fitsB, ruleOf, textB, ad1]
  unfold setB
  rw [show (1 : Int).toNat = 1 from rfl, h1]
  simp
/-- What the head has: the bytes, the set that is read, the merged sets. -/
structure F1 (g off c : Nat) (w W : World) : Prop where
  bel : Below w.heap.size w W
  b : SlB W.heap.size (.slice (some ⟨g, off, none⟩) 36 c) bsA W
structure F2 (q : Nat) (p : Option Addr) (c : Nat) (W : World) : Prop where
  s : W.heap[q]? = some (Obj.cells #[.string sX, .int .i64 1, .int .i64 5, .slice p 1 c] 24 (0, 0))
  d : SlD (.slice p 1 c) [ad1 7] W
structure F3 (g cap g2 cap2 : Nat) (W : World) : Prop where
  lt : g < W.heap.size
  rt : RT g 0 [⟨sX, 1, 4, some ⟨g2, 0, none⟩, 2, cap2⟩] W
  d : SlD (.slice (some ⟨g2, 0, none⟩) 2 cap2) [ad1 3, ad1 7] W
theorem F1.keep {g off c : Nat} {w W W' : World} (h : F1 g off c w W) (hb : Below W.heap.size W W') : F1 g off c w W' := by
  refine ⟨h.bel.trans (hb.mono h.bel.size), ?_⟩
  have h1 := h.b.keep (fun k hk => hb.block k hk)
  rcases h1 with q | ⟨g, off, c, q1, q2, q3, q4⟩
  · exact .inl q
  · exact .inr ⟨g, off, c, q1, q2, Nat.lt_of_lt_of_le q3 hb.size, q4⟩
theorem F2.keep {q : Nat} {p : Option Addr} {c : Nat} {W W' : World} (h : F2 q p c W) (hb : Below W.heap.size W W') : F2 q p c W' :=
  ⟨(hb.block _ (Array.getElem?_eq_some_iff.1 h.s).1).trans h.s, h.d.keep hb⟩
theorem F3.keep {g cap g2 cap2 : Nat} {W W' : World} (h : F3 g cap g2 cap2 W) (hb : Below W.heap.size W W') : F3 g cap g2 cap2 W' :=
  ⟨Nat.lt_of_lt_of_le h.lt hb.size, h.rt.keep h.lt hb, h.d.keep hb⟩
theorem F2.new {p : Option Addr} {c : Nat} {W : World} (h : SlD (.slice p 1 c) [ad1 7] W) : F2 W.heap.size p c (W.alloc (.cells #[.string sX, .int .i64 1, .int .i64 5, .slice p 1 c] 24)) :=
  ⟨heap_alloc_new W _, h.keep ((Below.refl _ W).alloc (Nat.le_refl _) _)⟩
theorem bnew (W : World) (o : Obj) : Below W.heap.size W (W.alloc o) := (Below.refl _ W).alloc (Nat.le_refl _) _
end Go.Proofs.YtmnbcjchfbfngaaDoor
