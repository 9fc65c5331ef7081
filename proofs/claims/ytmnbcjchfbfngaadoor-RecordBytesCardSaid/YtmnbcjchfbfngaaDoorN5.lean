/- The contract of compare of package name; no condition beyond those that each theorem names. -/
import Derived.Test.YtmnbcjchfbfngaaDoorN4
namespace Go.Proofs.YtmnbcjchfbfngaaDoor
set_option linter.unusedSimpArgs false
set_option linter.unusedVariables false
open Go.RowKit Go.Shelf
open NmP
attribute [local go_sem] Oper.semAt_some

theorem lex_take {α : Type} {c : α → α → Int} (g : NmP.Good c) : ∀ P A R : List α, A.take P.length = P → lexC c A (P ++ R) = lexC c (A.drop P.length) R
  | [], A, R, _ => by simp
  | p :: P, A, R, h => by
    cases A with
    | nil => simp at h
    | cons a A =>
      simp only [List.length_cons, List.take_succ_cons, List.cons.injEq] at h
      obtain ⟨rfl, h2⟩ := h
      rw [List.cons_append, List.length_cons, List.drop_succ_cons]
      rw [show lexC c (a :: A) (a :: (P ++ R)) = if c a a = 0 then lexC c A (P ++ R) else c a a from rfl, if_pos ((g.zero a a).2 rfl)]
      exact lex_take g P A R h2

/-- The labels of s, from the last one on, as lists of bytes. -/
abbrev tls (l : List ByteArray) : List Bs := l.map ByteArray.toList
theorem cmp_eq (s m : ByteArray) : cmpN s.toList m.toList = lexC Lib.compareBytes (tls (revL s)) (tls (revL m)) := by
  unfold cmpN tls; rw [revL_labels, revL_labels]

theorem lst_at (A : List ByteArray) (n : Nat) (h : n < A.length) (h8 : A.length ≤ 8) : lst A (7 - n) = A[n] := by
  unfold lst
  rw [if_pos (by omega), show 7 - (7 - n) = n by omega, List.getD_eq_getElem?_getD, List.getElem?_eq_getElem h]
  rfl

/-- What the body of the loop of compare knows: A: the labels of the one; pre: those of the other that have come. -/
def Same (A pre : List ByteArray) : Prop := pre.length ≤ A.length ∧ (tls A).take pre.length = tls pre
theorem Same.nil (A : List ByteArray) : Same A [] := ⟨Nat.zero_le _, rfl⟩
theorem Same.short {A pre : List ByteArray} (h : Same A pre) (x : ByteArray) (hn : A.length ≤ pre.length) (rest : List ByteArray) : lexC Lib.compareBytes (tls A) (tls (pre ++ [x] ++ rest)) = -1 := by
  have e : tls (pre ++ [x] ++ rest) = tls pre ++ (x.toList :: tls rest) := by simp [tls]
  have hl : (tls pre).length = pre.length := by simp [tls]
  rw [e, lex_take compareBytes_good _ _ _ (by rw [hl]; exact h.2), List.drop_eq_nil_of_le (by simp [tls]; omega)]
  rfl
theorem Same.next {A pre : List ByteArray} (h : Same A pre) (x : ByteArray) (hn : pre.length < A.length) :
    (Lib.compareBytes (A[pre.length]).toList x.toList = 0 → Same A (pre ++ [x])) ∧ (Lib.compareBytes (A[pre.length]).toList x.toList ≠ 0 → ∀ rest, lexC Lib.compareBytes (tls A) (tls (pre ++ [x] ++ rest)) = Lib.compareBytes (A[pre.length]).toList x.toList) := by
  have hl : (tls pre).length = pre.length := by simp [tls]
  constructor
  · intro e
    have e2 := (compareBytes_good.zero _ _).1 e
    refine ⟨by simp; omega, ?_⟩
    rw [List.length_append, List.length_singleton, List.take_add_one, h.2]
    simp [tls, List.getElem?_eq_getElem hn, e2]
  · intro e rest
    have e3 : tls (pre ++ [x] ++ rest) = tls pre ++ (x.toList :: tls rest) := by simp [tls]
    rw [e3, lex_take compareBytes_good _ _ _ (by rw [hl]; exact h.2), hl]
    have hd : (tls A).drop pre.length = (A[pre.length]).toList :: (tls A).drop (pre.length + 1) := by
      rw [List.drop_eq_getElem_cons (by simpa [tls] using hn)]
      simp [tls]
    rw [hd]
    show (if _ then _ else _) = _
    rw [if_neg e]
theorem Same.fin {A M : List ByteArray} (h : Same A M) : lexC Lib.compareBytes (tls A) (tls M) = if M.length < A.length then 1 else 0 := by
  have hl : (tls M).length = M.length := by simp [tls]
  have := lex_take compareBytes_good (tls M) (tls A) [] (by rw [hl]; exact h.2)
  rw [List.append_nil, hl] at this
  rw [this]
  by_cases q : M.length < A.length
  · rw [if_pos q, List.drop_eq_getElem_cons (by simpa [tls] using q)]
    rfl
  · rw [if_neg q, List.drop_eq_nil_of_le (by simp [tls]; omega)]
    rfl

/-- The cells of the loop of compare: r: the result's box, b: the array's. -/
def IC (r b : Nat) (A pre : List ByteArray) (W : World) : Prop :=
  (∀ j, j < 8 → W.cell? ⟨b, j, none⟩ = some (.string (lst A j))) ∧ W.cell? ⟨b + 1, 0, none⟩ = some (.int .i64 ((8 - A.length : Nat) : Int)) ∧
  (W.cell? ⟨b + 1 + 1, 0, none⟩ = some (.int .i64 ((8 - pre.length : Nat) : Int)) ∧ W.frozen? ⟨b + 1 + 1, 0, none⟩ = false) ∧
  (W.cell? ⟨r, 0, none⟩ = some (.int .i64 0) ∧ W.frozen? ⟨r, 0, none⟩ = false) ∧ Same A pre
theorem IC.own (r b : Nat) (A : List ByteArray) : Own (IC r b A) := fun _ _ _ _ hs hg hr =>
  ⟨fun j hj => cell_kept (hs.1 j hj) hg hr, cell_kept hs.2.1 hg hr, ⟨cell_kept hs.2.2.1.1 hg hr, (frozen_kept hs.2.2.1.1 hg hr).trans hs.2.2.1.2⟩,
   ⟨cell_kept hs.2.2.2.1.1 hg hr, (frozen_kept hs.2.2.2.1.1 hg hr).trans hs.2.2.2.1.2⟩, hs.2.2.2.2⟩
def IX (r : Nat) (A pre : List ByteArray) (W : World) : Prop := ∃ v : Int, W.cell? ⟨r, 0, none⟩ = some (.int .i64 v) ∧ ∀ rest, lexC Lib.compareBytes (tls A) (tls (pre ++ rest)) = v
theorem IX.own (r : Nat) (A : List ByteArray) : Own (IX r A) := fun _ _ _ _ ⟨v, h1, h2⟩ hg hr => ⟨v, cell_kept h1 hg hr, h2⟩

theorem cell_alloc3 {W : World} {b k : Nat} {v : Value} (o1 o2 o3 : Obj) (h : W.cell? ⟨b, k, none⟩ = some v) : (((W.alloc o1).alloc o2).alloc o3).cell? ⟨b, k, none⟩ = some v :=
  cell_kept (cell_kept (cell_kept h (World.grownBy_alloc W o1 none) (fun r e => by cases e)) (World.grownBy_alloc _ o2 none) (fun r e => by cases e)) (World.grownBy_alloc _ o3 none) (fun r e => by cases e)

set_option maxHeartbeats 1000000 in
set_option maxRecDepth 100000 in
theorem tcompare_any (s m : ByteArray) (w : World) (hs : s.size ≤ maxLen) (hm : m.size ≤ maxLen) (h8 : (revL s).length ≤ 8) (h8m : (revL m).length ≤ 8) (hne : (s.toList == m.toList) = false) :
    Calls Tryd.prog 68 #[.string s, .string m] w fun e w' => e = .returned (.int .i64 (cmpN s.toList m.toList)) ∧ Below w.heap.size w w' := by
  have hsp := fun W => split_any s W hs h8
  rw [cmp_eq]
  generalize hA : revL s = A at *
  clear hA
  have HS := Lib.hid hsp
  clear hsp
  refine (callsIn_wide (n := 5)).1 ?_
  refine callsIn_of_wp_marks Tryd.func68 rfl trivial ?_ rfl
  simp only [Tryd.ntmps68, List.size_toArray, List.length_cons, List.length_nil, Nat.reduceAdd, Nat.reduceSub, Array.replicate_succ, Array.replicate_zero, List.push_toArray, List.append_toArray, List.nil_append, List.cons_append]
  gi_wp2
  refine ⟨trivial, ?_⟩
  refine (callsIn_wide.2 (HS.out _)).mono ?_
  rintro e w1 ⟨rfl, hb1⟩
  gi_wp2
  refine ⟨trivial, ?_⟩
  refine (callsIn_wide.2 (fromLast_any m _)).mono ?_
  rintro e w' ⟨rfl, rfl⟩
  gi_wp2
  have hr0 := box_l w (.int .i64 0) 3
  have hzw : w.heap.size < w1.heap.size := by have := hb1.size; simp at this; omega
  have hr1 : w1.cell? ⟨w.heap.size, 0, none⟩ = some (.int .i64 0) ∧ w1.frozen? ⟨w.heap.size, 0, none⟩ = false :=
    ⟨(hb1.cell (p := ⟨w.heap.size, 0, none⟩) (by simp)).trans hr0.1, (hb1.frozen (p := ⟨w.heap.size, 0, none⟩) (by simp)).trans hr0.2⟩
  have hbw1 : Below w.heap.size w w1 := ((Below.refl _ w).alloc (Nat.le_refl _) _).trans (hb1.mono (by simp))
  have z1 : ∀ j, j < 8 → (w1.alloc (.cells #[.string (lst A 0), .string (lst A 1), .string (lst A 2), .string (lst A 3), .string (lst A 4), .string (lst A 5), .string (lst A 6), .string (lst A 7)] 105)).cell? ⟨w1.heap.size, j, none⟩ = some (.string (lst A j)) := fun j hj => by
    have : j = 0 ∨ j = 1 ∨ j = 2 ∨ j = 3 ∨ j = 4 ∨ j = 5 ∨ j = 6 ∨ j = 7 := by omega
    rcases this with rfl | rfl | rfl | rfl | rfl | rfl | rfl | rfl
    all_goals exact (cell_blk (World.alloc_heap_new w1 _) _ _ rfl).1
  have z2 := box_l (w1.alloc (.cells #[.string (lst A 0), .string (lst A 1), .string (lst A 2), .string (lst A 3), .string (lst A 4), .string (lst A 5), .string (lst A 6), .string (lst A 7)] 105)) (.int .i64 ((8 - A.length : Nat) : Int)) 3
  have z3 := box_l ((w1.alloc (.cells #[.string (lst A 0), .string (lst A 1), .string (lst A 2), .string (lst A 3), .string (lst A 4), .string (lst A 5), .string (lst A 6), .string (lst A 7)] 105)).alloc (.cells #[.int .i64 ((8 - A.length : Nat) : Int)] 3)) (.int .i64 8) 3
  have z4 := box_l (((w1.alloc (.cells #[.string (lst A 0), .string (lst A 1), .string (lst A 2), .string (lst A 3), .string (lst A 4), .string (lst A 5), .string (lst A 6), .string (lst A 7)] 105)).alloc (.cells #[.int .i64 ((8 - A.length : Nat) : Int)] 3)).alloc (.cells #[.int .i64 8] 3)) (.string m) 90
  simp only [World.size_alloc] at z2 z3 z4
  have hB0 : Below w.heap.size w ((((w1.alloc (.cells #[.string (lst A 0), .string (lst A 1), .string (lst A 2), .string (lst A 3), .string (lst A 4), .string (lst A 5), .string (lst A 6), .string (lst A 7)] 105)).alloc (.cells #[.int .i64 ((8 - A.length : Nat) : Int)] 3)).alloc (.cells #[.int .i64 8] 3)).alloc (.cells #[.string m] 90)) := hbw1.trans (((((Below.refl _ w1).alloc (by omega) _).alloc (by simp; omega) _).alloc (by simp; omega) _).alloc (by simp; omega) _)
  have hI0 : IC w.heap.size w1.heap.size A [] ((((w1.alloc (.cells #[.string (lst A 0), .string (lst A 1), .string (lst A 2), .string (lst A 3), .string (lst A 4), .string (lst A 5), .string (lst A 6), .string (lst A 7)] 105)).alloc (.cells #[.int .i64 ((8 - A.length : Nat) : Int)] 3)).alloc (.cells #[.int .i64 8] 3)).alloc (.cells #[.string m] 90)) :=
    ⟨fun j hj => cell_alloc3 _ _ _ (z1 j hj), (keep_l _ (keep_l _ z2)).1, keep_l _ z3, keep_l _ (keep_l _ (keep_l _ (keep_l _ hr1))), Same.nil A⟩
  have hsz : ((((w1.alloc (.cells #[.string (lst A 0), .string (lst A 1), .string (lst A 2), .string (lst A 3), .string (lst A 4), .string (lst A 5), .string (lst A 6), .string (lst A 7)] 105)).alloc (.cells #[.int .i64 ((8 - A.length : Nat) : Int)] 3)).alloc (.cells #[.int .i64 8] 3)).alloc (.cells #[.string m] 90)).heap.size = w1.heap.size + 1 + 1 + 1 + 1 := by simp
  clear z1 z2 z3 hr0 hr1 hb1
  generalize hW0 : ((((w1.alloc (.cells #[.string (lst A 0), .string (lst A 1), .string (lst A 2), .string (lst A 3), .string (lst A 4), .string (lst A 5), .string (lst A 6), .string (lst A 7)] 105)).alloc (.cells #[.int .i64 ((8 - A.length : Nat) : Int)] 3)).alloc (.cells #[.int .i64 8] 3)).alloc (.cells #[.string m] 90)) = W0 at *
  clear hW0
  refine wpIn_rangeFunc_ownF rfl (by omega) (gf := 94) (lb := #[.pointer (some ⟨w1.heap.size + 1 + 1 + 1, 0, none⟩)]) rfl trivial (enters_of Tryd.func94 (by kernel_rfl) rfl)
    (iter_stops Fence.wide 4 trivial rfl (by omega) (w1.heap.size + 1 + 1 + 1) m hm W0 (by omega) z4.1) KB.t KB.b (Below.refl _ _) (fun _ => rfl)
    (fun pre W => IC w.heap.size w1.heap.size A pre W ∧ Below w.heap.size w W)
    (fun c pre W => (c = .ret ∧ IX w.heap.size A pre W) ∧ Below w.heap.size w W)
    (OwnFrom.and (Own.from (IC.own _ _ _) _) (ownFrom_below (Nat.le_refl _) (by omega)))
    (fun c => OwnFrom.and (Own.from (fun s A B row hs hg hr => ⟨hs.1, IX.own _ _ _ _ _ _ hs.2 hg hr⟩) _) (ownFrom_below (Nat.le_refl _) (by omega)))
    ⟨hI0, hB0⟩
    (fun x => { tmps := #[.string s, .string m, undef, undef, .pointer (some ⟨w.heap.size, 0, none⟩), .pointer (some ⟨w1.heap.size, 0, none⟩), .pointer (some ⟨w1.heap.size + 1, 0, none⟩), .pointer (some ⟨w1.heap.size + 1 + 1, 0, none⟩), .string x, undef, .string s, .string m, .bool false, .tuple #[(.agg #[.string (lst A 0), .string (lst A 1), .string (lst A 2), .string (lst A 3), .string (lst A 4), .string (lst A 5), .string (lst A 6), .string (lst A 7)]), .int .i64 ((8 - A.length : Nat) : Int)], .string s, .func (.func 79) #[.string s] #[], .tuple #[(.agg #[.string (lst A 0), .string (lst A 1), .string (lst A 2), .string (lst A 3), .string (lst A 4), .string (lst A 5), .string (lst A 6), .string (lst A 7)]), .int .i64 ((8 - A.length : Nat) : Int)], (.agg #[.string (lst A 0), .string (lst A 1), .string (lst A 2), .string (lst A 3), .string (lst A 4), .string (lst A 5), .string (lst A 6), .string (lst A 7)]), .int .i64 ((8 - A.length : Nat) : Int), .string m, .func (.func 94) #[] #[.pointer (some ⟨w1.heap.size + 1 + 1 + 1, 0, none⟩)], .string x, undef, undef, undef, undef, undef, undef, undef, undef, undef, undef, undef, undef, undef, undef, undef, undef], defers := [] }) ?assign ?body ?done ?stop
  case assign =>
    intro l x W K hK
    gi_wp2
    exact hK
  case body =>
    rintro l pre x W ⟨⟨i1, i2, i3, i4, i5⟩, hB⟩ hlen
    obtain ⟨n, hn⟩ : ∃ n, 8 - pre.length = n + 1 := ⟨7 - pre.length, by omega⟩
    rw [hn] at i3
    have c3 : W.cell? ⟨w1.heap.size + 1 + 1, 0, none⟩ = some (.int .i64 ((n : Int) + 1)) := i3.1
    have f3 := i3.2
    have c4 := i4.1
    have f4 := i4.2
    have HN := Lib.hid hn
    have HB := Lib.hid hB
    have HS5 := Lib.hid i5
    have HI1 := Lib.hid i1
    clear hn hB i5 i1 i3 i4
    have hkw : w.heap.size < w1.heap.size := hzw
    by_cases hk : n < 8 - A.length
    · gi_wp2
      refine ⟨(KeepsOthers.setCell _ _ _).trans (KeepsOthers.setCell _ _ _), ⟨rfl, -1, ?_, HS5.out.short x (by have := HN.out; omega)⟩, (HB.out.setCell (p := ⟨w1.heap.size + 1 + 1, 0, none⟩) (show w.heap.size ≤ w1.heap.size + 1 + 1 by omega) _).setCell (p := ⟨w.heap.size, 0, none⟩) (Nat.le_refl _) _⟩
      refine World.cell?_setCell_same _ _ _ (u := .int .i64 0) ?_
      rw [World.cell?_setCell_other (h := blk_ne (by omega))]; exact c4
    · have hn7 : n = 7 - pre.length := by have := HN.out; omega
      have hpl : pre.length < A.length := by have := HN.out; omega
      have c1 : W.cell? ⟨w1.heap.size, n, none⟩ = some (.string A[pre.length]) := by
        rw [HI1.out n (by omega), hn7, lst_at A _ hpl h8]
      have hnb : n < 8 := by omega
      have hnx := HS5.out.next x hpl
      have HN7 := Lib.hid hn7
      clear hn7
      generalize A[pre.length] = a at *
      have hcc := fun W => Tryd.strings_Compare a x W
      rw [← tl, ← tl] at hcc
      generalize hcv : Lib.compareBytes a.toList x.toList = cv at *
      clear hcv
      have HNX := Lib.hid hnx
      have HCC := Lib.hid hcc
      clear hnx hcc
      by_cases hc0 : cv = 0
      · subst hc0
        gi_wp2
        refine ⟨trivial, ?_⟩
        refine (CallsIn.inRound l (callsIn_wide.2 (HCC.out _))).mono ?_
        rintro e w' ⟨rfl, rfl⟩
        gi_wp2
        refine ⟨KeepsOthers.setCell _ _ _, ?_, ⟨fun j hj => ?_, ?_, ⟨?_, ?_⟩, ⟨?_, ?_⟩, HNX.out.1 (by first | rfl | trivial)⟩, HB.out.setCell (p := ⟨w1.heap.size + 1 + 1, 0, none⟩) (show w.heap.size ≤ w1.heap.size + 1 + 1 by omega) _⟩
        · intro v hv
          rw [World.cell?_setCell_other (h := blk_ne (by omega))]; exact hv
        · rw [World.cell?_setCell_other (h := blk_ne (by omega))]; exact HI1.out j hj
        · rw [World.cell?_setCell_other (h := blk_ne (by omega))]; exact i2
        · rw [World.cell?_setCell_same _ _ _ c3]
          have := HN.out
          simp; omega
        · rw [World.frozen?_setCell]; exact f3
        · rw [World.cell?_setCell_other (h := blk_ne (by omega))]; exact c4
        · rw [World.frozen?_setCell]; exact f4
      · have hc1 : (cv == 0) = false := beq_eq_false_iff_ne.2 hc0
        have hc2 : (cv != 0) = true := by rw [bne_iff_ne]; exact hc0
        have HC0 := Lib.hid hc0
        clear hc0
        gi_wp2
        refine ⟨trivial, ?_⟩
        refine (CallsIn.inRound l (callsIn_wide.2 (HCC.out _))).mono ?_
        rintro e w' ⟨rfl, rfl⟩
        gi_wp2
        refine ⟨(KeepsOthers.setCell _ _ _).trans (KeepsOthers.setCell _ _ _), ⟨rfl, cv, ?_, HNX.out.2 HC0.out⟩, (HB.out.setCell (p := ⟨w1.heap.size + 1 + 1, 0, none⟩) (show w.heap.size ≤ w1.heap.size + 1 + 1 by omega) _).setCell (p := ⟨w.heap.size, 0, none⟩) (Nat.le_refl _) _⟩
        refine World.cell?_setCell_same _ _ _ (u := .int .i64 0) ?_
        rw [World.cell?_setCell_other (h := blk_ne (by omega))]; exact c4
  case done =>
    rintro D ys W hD rfl ⟨⟨i1, i2, i3, i4, i5⟩, hB⟩ hK
    have c2 := i2
    have c3 := i3.1
    have c4 := i4.1
    have f4 := i4.2
    have HB := Lib.hid hB
    have HK := Lib.hid hK
    have HS5 := Lib.hid i5.fin
    clear hB hK i5 i1 i2 i3 i4
    by_cases hk : (revL m).length < A.length
    · gi_wp2
      have hK8 := (KeepsOthers.setCell W ⟨w.heap.size, 0, none⟩ (.int .i64 1)).same D _ HK.out rfl
      refine ⟨by simp, .inl ⟨_, _, rfl, run_takeDeferred hK8, ?_⟩⟩
      have hc5 := cell_kept (World.cell?_setCell_same W ⟨w.heap.size, 0, none⟩ (.int .i64 1) c4) (grownBy_putObj' _ D (.deferred none)) (fun r e => by cases e; exact ⟨_, hK8, rfl⟩)
      refine ⟨.int .i64 1, ?_, by rw [HS5.out, if_pos hk], (HB.out.setCell (p := ⟨w.heap.size, 0, none⟩) (Nat.le_refl _) _).trans (belowK_b (w := w) (Nat.le_refl _) _ D _ _ (by omega) hK8 rfl rfl)⟩
      simp [results, Tryd.f68, go_sem, hc5]
    · gi_wp2
      have hK8 := (KeepsOthers.setCell W ⟨w.heap.size, 0, none⟩ (.int .i64 0)).same D _ HK.out rfl
      refine ⟨by simp, .inl ⟨_, _, rfl, run_takeDeferred hK8, ?_⟩⟩
      have hc5 := cell_kept (World.cell?_setCell_same W ⟨w.heap.size, 0, none⟩ (.int .i64 0) c4) (grownBy_putObj' _ D (.deferred none)) (fun r e => by cases e; exact ⟨_, hK8, rfl⟩)
      refine ⟨.int .i64 0, ?_, by rw [HS5.out, if_neg (by omega)], (HB.out.setCell (p := ⟨w.heap.size, 0, none⟩) (Nat.le_refl _) _).trans (belowK_b (w := w) (Nat.le_refl _) _ D _ _ (by omega) hK8 rfl rfl)⟩
      simp [results, Tryd.f68, go_sem, hc5]
  case stop =>
    rintro D c pre W hD hpre ⟨⟨rfl, v, hv, hx⟩, hB⟩ hK
    obtain ⟨rest, hrest⟩ := hpre
    have hxx := hx rest
    rw [hrest] at hxx
    have HXX := Lib.hid hxx
    clear hx hxx hrest
    gi_wp2
    refine ⟨by simp, .inl ⟨_, _, rfl, run_takeDeferred hK, ?_⟩⟩
    have hc5 := cell_kept hv (grownBy_putObj' _ D (.deferred none)) (fun r e => by cases e; exact ⟨_, hK, rfl⟩)
    refine ⟨.int .i64 v, ?_, by rw [HXX.out], hB.trans (belowK_b (w := w) (Nat.le_refl _) W D _ _ (by omega) hK rfl rfl)⟩
    simp [results, Tryd.f68, go_sem, hc5]
end Go.Proofs.YtmnbcjchfbfngaaDoor
