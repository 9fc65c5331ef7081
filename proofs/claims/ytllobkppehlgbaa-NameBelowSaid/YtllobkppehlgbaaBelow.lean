/- NameBelow of layer 1 is true for all texts, and leaves its arguments as they were; no condition. -/
import Derived.Test.YtllobkppehlgbaaN10
import Derived.RangeFuncBox
namespace Go.Proofs.Ytllobkppehlgbaa
open Go.ChangeShapes Go.WideShapes Go.ChangeAt Go.RowKit Go.Joins
open Go.ChangeMaps (open_string shut_string)
open NmP
namespace Below1
set_option linter.unusedVariables false

theorem info9 : (Try.prog.info? 9).map (fun i => (i.zero, i.size, i.bytes)) = some (some (.string ⟨#[]⟩), 1, 16) := by kernel_rfl

/-- A label in front of a name's labels: what Join answers: it refuses, or answers a name with these labels. -/
def Front (lb : ByteArray) (a : Bs) (l : List ByteArray) (W : World) (g cap : Nat) : Prop :=
  (Calls Try.prog 17 #[.slice (some ⟨g, 0, none⟩) (1 + l.length) cap] W fun e w' => e = .returned (.tuple #[.string ⟨#[]⟩, .int .i64 11]) ∧ Below W.heap.size W w') ∨
  (∃ t : ByteArray, validB t.toList = true ∧ labs t.toList = lb.toList :: labs a ∧ Calls Try.prog 17 #[.slice (some ⟨g, 0, none⟩) (1 + l.length) cap] W fun e w' => e = .returned (.tuple #[.string t, .int .i64 0]) ∧ Below W.heap.size W w')

/-- Does Join refuse the label in front of the labels? -/
def okF (lb : ByteArray) (l : List ByteArray) : Bool := decide (l.length ≤ 7) && (labsOK true (tls (lb :: l)) && validB (joinS (lb :: l)).toList)

theorem front_no (lb : ByteArray) (l : List ByteArray) (g cap : Nat) (W : World) (hf : okF lb l = false) (h8 : l.length ≤ 8) (hz : ∀ x ∈ lb :: l, x.size ≤ maxLen) (hcap : 1 + l.length ≤ cap)
    (hc : ∀ j, (hj : j < (lb :: l).length) → W.cell? ⟨g, j, none⟩ = some (.string (lb :: l)[j])) :
    Calls Try.prog 17 #[.slice (some ⟨g, 0, none⟩) (1 + l.length) cap] W fun e w' => e = .returned (.tuple #[.string ⟨#[]⟩, .int .i64 11]) ∧ Below W.heap.size W w' := by
  have hn : (lb :: l).length = 1 + l.length := by simp; omega
  by_cases h7 : l.length ≤ 7
  · have hc0 : ∀ j, (hj : j < (lb :: l).length) → W.cell? ⟨g, 0 + j, none⟩ = some (.string (lb :: l)[j]) := fun j hj => by rw [Nat.zero_add]; exact hc j hj
    cases hok : labsOK true (tls (lb :: l))
    · have := Join_bad (lb :: l) g 0 cap W (by omega) (by omega) hc0 hz hok
      rw [hn] at this
      exact this.mono fun e w' ⟨he, hw⟩ => ⟨he, hw ▸ Below.refl _ _⟩
    · cases hv : validB (joinS (lb :: l)).toList
      · have := Join_good (lb :: l) g 0 cap W (by omega) (by omega) hc0 hz (by omega) hok false hv
        rw [hn] at this
        exact this
      · have hx : okF lb l = true := by unfold okF; rw [hok, hv]; simp [h7]
        rw [hx] at hf; cases hf
  · exact (Join_many _ _ cap W (by omega) (by unfold maxLen; omega)).mono fun e w' ⟨he, hw⟩ => ⟨he, hw ▸ Below.refl _ _⟩
theorem front_yes (lb : ByteArray) (l : List ByteArray) (g cap : Nat) (W : World) (hf : okF lb l = true) (hz : ∀ x ∈ lb :: l, x.size ≤ maxLen) (hcap : 1 + l.length ≤ cap)
    (hc : ∀ j, (hj : j < (lb :: l).length) → W.cell? ⟨g, j, none⟩ = some (.string (lb :: l)[j])) :
    Calls Try.prog 17 #[.slice (some ⟨g, 0, none⟩) (1 + l.length) cap] W fun e w' => e = .returned (.tuple #[.string (joinS (lb :: l)), .int .i64 0]) ∧ Below W.heap.size W w' := by
  have hn : (lb :: l).length = 1 + l.length := by simp; omega
  simp only [okF, Bool.and_eq_true, decide_eq_true_eq] at hf
  have := Join_good (lb :: l) g 0 cap W (by omega) (by omega) (fun j hj => by rw [Nat.zero_add]; exact hc j hj) hz (by omega) hf.2.1 true hf.2.2
  rw [hn] at this
  exact this
theorem front_labs {lb : ByteArray} {l : List ByteArray} (hf : okF lb l = true) : validB (joinS (lb :: l)).toList = true ∧ labs (joinS (lb :: l)).toList = lb.toList :: tls l := by
  simp only [okF, Bool.and_eq_true, decide_eq_true_eq] at hf
  refine ⟨hf.2.2, ?_⟩
  rw [joinS_toList]
  exact (labs_join (by simp [tls]) hf.2.1).2

/-- A row of texts that was made: its cells. -/
theorem row_cells {W : World} {base : Nat} {v : Value} {n : Nat} {l : List ByteArray} (h : W.ownsRow base 9 1 v n (l.map Value.string)) (hn : 1 ≤ n) :
    ∃ g cap, v = .slice (some ⟨g, 0, none⟩) n cap ∧ n ≤ cap ∧ ∀ j, (hj : j < l.length) → W.cell? ⟨g, j, none⟩ = some (.string l[j]) := by
  obtain ⟨hl, h0 | ⟨g, cap, cur, rfl, _, hg, hcap, _, _, ht⟩⟩ := h
  · omega
  · refine ⟨g, cap, rfl, hcap, fun j hj => (cell_blk hg j _ ?_).1⟩
    have h2 : (cur.toList.take (n * 1))[j]? = some (.string l[j]) := by rw [ht]; simp [hj]
    rw [List.length_map] at hl
    rw [List.getElem?_take_of_lt (by omega)] at h2
    simpa using h2

theorem one_row (W : World) (base : Nat) (hb : base ≤ W.heap.size) (lb : ByteArray) : (W.alloc (.cells #[.string lb] 9)).ownsRow base 9 1 (.slice (some ⟨W.heap.size, 0, none⟩) 1 1) 1 ([lb].map Value.string) :=
  ⟨rfl, .inr ⟨W.heap.size, 1, #[.string lb], rfl, hb, World.alloc_heap_new W _, Nat.le_refl _, by unfold maxLen; omega, rfl, rfl⟩⟩

theorem news_cells {W : World} {b : Nat} {l : List ByteArray} (o : Obj) (h : ∀ j, (hj : j < l.length) → W.cell? ⟨b, j, none⟩ = some (.string l[j])) : ∀ j u, (l.map Value.string)[j]? = some u → (W.alloc o).cell? ((⟨b, 0, none⟩ : Addr).add j) = some u := by
  intro j u hu
  rw [List.getElem?_map] at hu
  obtain ⟨x, hx, rfl⟩ := Option.map_eq_some_iff.1 hu
  obtain ⟨hj, rfl⟩ := List.getElem?_eq_some_iff.1 hx
  rw [Go.WideShapes.add_plain, Nat.zero_add]
  exact cell_kept (h j hj) (World.grownBy_alloc W o none) (fun r e => by cases e)
theorem news_one (l : List ByteArray) : ∀ u ∈ l.map Value.string, u.oneCell' = true := by
  intro u hu
  obtain ⟨x, _, rfl⟩ := List.mem_map.1 hu
  rfl
theorem len_max {n : Nat} (h : n ≤ 8) : 1 + n ≤ maxLen := by unfold maxLen; omega

theorem lex_front {α : Type} {c : α → α → Int} (g : NmP.Good c) : ∀ A B P Q : List α, ¬ A <+: B → ¬ B <+: A → lexC c (A ++ P) (B ++ Q) = lexC c A B
  | [], B, P, Q, h, _ => absurd List.nil_prefix h
  | a :: A, [], P, Q, _, h => absurd List.nil_prefix h
  | a :: A, b :: B, P, Q, h1, h2 => by
    rw [List.cons_append, List.cons_append]
    show (if c a b = 0 then lexC c (A ++ P) (B ++ Q) else c a b) = if c a b = 0 then lexC c A B else c a b
    by_cases e : c a b = 0
    · rw [if_pos e, if_pos e]
      have e2 := (g.zero a b).1 e
      subst e2
      exact lex_front g A B P Q (fun q => h1 (List.cons_prefix_cons.2 ⟨rfl, q⟩)) (fun q => h2 (List.cons_prefix_cons.2 ⟨rfl, q⟩))
    · rw [if_neg e, if_neg e]

theorem cmp_front {a x : Bs} {l : Bs} (h : labs x = l :: labs a) : cmpN a x = -1 := by
  unfold cmpN
  rw [h, List.reverse_cons]
  have := lex_take compareBytes_good (labs a).reverse (labs a).reverse [l] (by rw [List.take_length])
  rw [this, List.drop_length]
  rfl
theorem cmp_fronts {a b x y : Bs} {l : Bs} (ha : okN a) (hb : okN b) (hx : labs x = l :: labs a) (hy : labs y = l :: labs b) (h1 : underB a b = false) (h2 : underB b a = false) : cmpN x y = cmpN a b := by
  unfold cmpN
  rw [hx, hy, List.reverse_cons, List.reverse_cons]
  refine lex_front compareBytes_good _ _ _ _ ?_ ?_
  · intro q
    have := (under_iff hb).2 (List.reverse_prefix.1 q)
    rw [h2] at this; cases this
  · intro q
    have := (under_iff ha).2 (List.reverse_prefix.1 q)
    rw [h1] at this; cases this

theorem mem_le : ∀ {r : List Bs} {x : Bs}, x ∈ r → x.length ≤ (joinD r).length
  | [], _, h => absurd h List.not_mem_nil
  | [y], x, h => by
    rw [List.mem_singleton.1 h]; exact Nat.le_refl _
  | y :: z :: r, x, h => by
    rw [joinD_cons _ _ (by simp)]
    rcases List.mem_cons.1 h with rfl | h
    · simp
    · have := mem_le h
      simp; omega

/-- The labels of a valid name are short. -/
theorem lab_small {s : ByteArray} (hv : validB s.toList = true) {l : List ByteArray} (hl : tls l = labs s.toList) : l.length ≤ 8 ∧ ∀ x ∈ l, x.size ≤ maxLen := by
  have hlen : l.length = (labs s.toList).length := by rw [← hl]; simp [tls]
  refine ⟨by rw [hlen]; exact (valid_len hv).1, fun x hx => ?_⟩
  have hm : x.toList ∈ labs s.toList := by rw [← hl]; exact List.mem_map_of_mem hx
  have hle : x.toList.length ≤ s.toList.length := by
    unfold labs at hm
    split at hm
    · exact absurd hm List.not_mem_nil
    · rw [← joinD_splitF s.toList]
      exact mem_le hm
  rw [tl_len, tl_len] at hle
  have := small hv
  unfold maxLen; omega

set_option maxHeartbeats 1000000 in
theorem walk_no (a b lb : ByteArray) (w : World) (ha : a.size ≤ maxLen) (hb : b.size ≤ maxLen) (hv : (validB a.toList && validB b.toList) = false) :
    Calls Try.prog 8 #[.string a, .string b, .string lb] w fun e w' => e = .returned (.bool true) ∧ Below w.heap.size w w' := by
  have hn := fun W => names2 a b W ha hb
  rw [hv] at hn
  have HN := Lib.hid hn
  clear hn hv
  go_enter Try.func8, Try.ntmps8
  go_wp2_with (first | (go_at_call 14; refine (head_any _).mono ?_; rintro e w1 ⟨rfl, hb⟩) | (go_at_call 18; refine (HN.out _).mono ?_; rintro e w2 ⟨rfl, rfl⟩))
  go_ret
  exact ⟨rfl, hb.trans (((Below.refl _ _).alloc hb.size _))⟩

set_option maxHeartbeats 2000000 in
set_option maxRecDepth 100000 in
theorem walk_yes (a b lb : ByteArray) (w : World) (ha : a.size ≤ maxLen) (hb : b.size ≤ maxLen) (hlb : lb.size ≤ maxLen) (va : validB a.toList = true) (vb : validB b.toList = true) :
    Calls Try.prog 8 #[.string a, .string b, .string lb] w fun e w' => e = .returned (.bool true) ∧ Below w.heap.size w w' := by
  have hn := fun W => names2 a b W ha hb
  rw [va, vb] at hn
  simp only [Bool.and_self] at hn
  have HN := Lib.hid hn
  clear hn
  have HVA := Lib.hid va
  have HVB := Lib.hid vb
  obtain ⟨i0, hi, hz0, hz1, hz2⟩ := info_parts info9
  have HI := Lib.hid hi
  have HZ0 := Lib.hid hz0
  have HZ1 := Lib.hid hz1
  have HZ2 := Lib.hid hz2
  clear va vb hi hz0 hz1 hz2
  go_enter Try.func8, Try.ntmps8
  go_wp2_with (first | (go_at_call 14; refine (head_any _).mono ?_; rintro e w1 ⟨rfl, hb⟩; have HB := Lib.hid (hb.trans ((Below.refl _ w1).alloc hb.size (.cells #[.string a, .string b] 9))); clear hb) | (go_at_call 18; refine (HN.out _).mono ?_; rintro e w2 ⟨rfl, rfl⟩))
  refine (Labels_fwd a _ ha HVA.out).mono ?_
  rintro e w2 ⟨b1, l1, hl1, rfl, hc1, hb1⟩
  have HB := Lib.hid (HB.out.trans (hb1.mono HB.out.size))
  have HL1 := Lib.hid hl1
  have HC1 := Lib.hid hc1
  clear hb1 hl1 hc1
  go_wp2_with fail
  refine (Labels_fwd b _ hb HVB.out).mono ?_
  rintro e w3 ⟨b2, l2, hl2, rfl, hc2, hb2⟩
  have HC1 : Hid (∀ j, (hj : j < l1.length) → w3.cell? ⟨b1, j, none⟩ = some (.string l1[j])) := Lib.hid (fun j hj => (hb2.cell (World.block_lt_of_cell? _ _ (HC1.out j hj))).trans (HC1.out j hj))
  have HB := Lib.hid (HB.out.trans (hb2.mono HB.out.size))
  have HL2 := Lib.hid hl2
  have HC2 := Lib.hid hc2
  clear hb2 hl2 hc2
  have hn1 := (lab_small HVA.out HL1.out).1
  have hn2 := (lab_small HVB.out HL2.out).1
  go_wp2_with (at_builtin; go_loud (refine wpList_append_own _ rfl (.tmp 41) (.tmp 42) 22 rfl w.heap.size 9 i0 (.string ⟨#[]⟩) 1 16 Try.underlying22 HI.out HZ0.out HZ1.out HZ2.out rfl (by decide) _ 1 ([lb].map Value.string) rfl (one_row w3 _ HB.out.size lb) ⟨b1, 0, none⟩ l1.length l1.length (l1.map Value.string) rfl (by simp) (news_cells _ HC1.out) (news_one l1) (len_max hn1) (by omega) (Nat.le_trans HB.out.size (by simp)) (fun v' w4 hown' hgrow _ => ?_)))
  obtain ⟨g1, cap1, rfl, hcap1, hrow1⟩ := row_cells (l := lb :: l1) hown' (by omega)
  have hb34 : Below w3.heap.size w3 w4 := ((Below.refl _ w3).alloc (Nat.le_refl _) _).grown hgrow (by simp) (fun k hk => by cases hk; exact Nat.le_refl _)
  have HC2 : Hid (∀ j, (hj : j < l2.length) → w4.cell? ⟨b2, j, none⟩ = some (.string l2[j])) := Lib.hid (fun j hj => (hb34.cell (World.block_lt_of_cell? _ _ (HC2.out j hj))).trans (HC2.out j hj))
  have HB := Lib.hid (HB.out.trans (hb34.mono HB.out.size))
  have HR1 := Lib.hid hrow1
  clear hown' hgrow hrow1 hb34 HC1
  have hz1 : ∀ x ∈ lb :: l1, x.size ≤ maxLen := by
    intro x hx
    rcases List.mem_cons.1 hx with rfl | hx
    · exact hlb
    · exact (lab_small HVA.out HL1.out).2 x hx
  have hz2 : ∀ x ∈ lb :: l2, x.size ≤ maxLen := by
    intro x hx
    rcases List.mem_cons.1 hx with rfl | hx
    · exact hlb
    · exact (lab_small HVB.out HL2.out).2 x hx
  cases hf1 : okF lb l1
  · refine (front_no lb l1 g1 cap1 w4 hf1 hn1 hz1 hcap1 HR1.out).mono ?_
    rintro e w5 ⟨rfl, hb5⟩
    have HC2 : Hid (∀ j, (hj : j < l2.length) → w5.cell? ⟨b2, j, none⟩ = some (.string l2[j])) := Lib.hid (fun j hj => (hb5.cell (World.block_lt_of_cell? _ _ (HC2.out j hj))).trans (HC2.out j hj))
    have HB := Lib.hid (HB.out.trans (hb5.mono HB.out.size))
    clear hb5 HR1
    go_wp2_with (at_builtin; go_loud (refine wpList_append_own _ rfl (.tmp 49) (.tmp 50) 22 rfl w.heap.size 9 i0 (.string ⟨#[]⟩) 1 16 Try.underlying22 HI.out HZ0.out HZ1.out HZ2.out rfl (by decide) _ 1 ([lb].map Value.string) rfl (one_row w5 _ HB.out.size lb) ⟨b2, 0, none⟩ l2.length l2.length (l2.map Value.string) rfl (by simp) (news_cells _ HC2.out) (news_one l2) (len_max hn2) (by omega) (Nat.le_trans HB.out.size (by simp)) (fun v' w6 hown' hgrow _ => ?_)))
    obtain ⟨g2, cap2, rfl, hcap2, hrow2⟩ := row_cells (l := lb :: l2) hown' (by omega)
    have hb56 : Below w5.heap.size w5 w6 := ((Below.refl _ w5).alloc (Nat.le_refl _) _).grown hgrow (by simp) (fun k hk => by cases hk; exact Nat.le_refl _)
    have HB := Lib.hid (HB.out.trans (hb56.mono HB.out.size))
    have HR2 := Lib.hid hrow2
    clear hown' hgrow hrow2 hb56
    cases hf2 : okF lb l2
    · refine (front_no lb l2 g2 cap2 w6 hf2 hn2 hz2 hcap2 HR2.out).mono ?_
      rintro e w7 ⟨rfl, hb7⟩
      have HB := Lib.hid (HB.out.trans (hb7.mono HB.out.size))
      clear hb7 HR2
      clear hf1 hf2 hz1 hz2
      go_wp2
      go_ret
      exact ⟨rfl, HB.out⟩
    · refine (front_yes lb l2 g2 cap2 w6 hf2 hz2 hcap2 HR2.out).mono ?_
      rintro e w7 ⟨rfl, hb7⟩
      have HB := Lib.hid (HB.out.trans (hb7.mono HB.out.size))
      clear hb7 HR2
      clear hf1 hf2 hz1 hz2
      go_wp2
      go_ret
      exact ⟨rfl, HB.out⟩
  · refine (front_yes lb l1 g1 cap1 w4 hf1 hz1 hcap1 HR1.out).mono ?_
    rintro e w5 ⟨rfl, hb5⟩
    have HC2 : Hid (∀ j, (hj : j < l2.length) → w5.cell? ⟨b2, j, none⟩ = some (.string l2[j])) := Lib.hid (fun j hj => (hb5.cell (World.block_lt_of_cell? _ _ (HC2.out j hj))).trans (HC2.out j hj))
    have HB := Lib.hid (HB.out.trans (hb5.mono HB.out.size))
    clear hb5 HR1
    go_wp2_with (at_builtin; go_loud (refine wpList_append_own _ rfl (.tmp 49) (.tmp 50) 22 rfl w.heap.size 9 i0 (.string ⟨#[]⟩) 1 16 Try.underlying22 HI.out HZ0.out HZ1.out HZ2.out rfl (by decide) _ 1 ([lb].map Value.string) rfl (one_row w5 _ HB.out.size lb) ⟨b2, 0, none⟩ l2.length l2.length (l2.map Value.string) rfl (by simp) (news_cells _ HC2.out) (news_one l2) (len_max hn2) (by omega) (Nat.le_trans HB.out.size (by simp)) (fun v' w6 hown' hgrow _ => ?_)))
    obtain ⟨g2, cap2, rfl, hcap2, hrow2⟩ := row_cells (l := lb :: l2) hown' (by omega)
    have hb56 : Below w5.heap.size w5 w6 := ((Below.refl _ w5).alloc (Nat.le_refl _) _).grown hgrow (by simp) (fun k hk => by cases hk; exact Nat.le_refl _)
    have HB := Lib.hid (HB.out.trans (hb56.mono HB.out.size))
    have HR2 := Lib.hid hrow2
    clear hown' hgrow hrow2 hb56
    cases hf2 : okF lb l2
    · refine (front_no lb l2 g2 cap2 w6 hf2 hn2 hz2 hcap2 HR2.out).mono ?_
      rintro e w7 ⟨rfl, hb7⟩
      have HB := Lib.hid (HB.out.trans (hb7.mono HB.out.size))
      clear hb7 HR2
      clear hf1 hf2 hz1 hz2
      go_wp2
      go_ret
      exact ⟨rfl, HB.out⟩
    · refine (front_yes lb l2 g2 cap2 w6 hf2 hz2 hcap2 HR2.out).mono ?_
      rintro e w7 ⟨rfl, hb7⟩
      have HB := Lib.hid (HB.out.trans (hb7.mono HB.out.size))
      clear hb7 HR2
      obtain ⟨vx, lx⟩ := front_labs hf1
      obtain ⟨vy, ly⟩ := front_labs hf2
      rw [HL1.out] at lx
      rw [HL2.out] at ly
      generalize joinS (lb :: l1) = x at *
      generalize joinS (lb :: l2) = y at *
      clear hf1 hf2 hz1 hz2
      have HFIN := Lib.hid (And.intro (And.intro vx lx) (And.intro vy ly))
      have hx := Nat.le_trans (small vx) (show 60 ≤ maxLen by unfold maxLen; omega)
      have hy := Nat.le_trans (small vy) (show 60 ≤ maxLen by unfold maxLen; omega)
      have u1 := fun W => lunder_any x a W hx ha vx HVA.out
      have u2 := fun W => lunder_any y b W hy hb vy HVB.out
      have u3 := fun W => lunder_any a x W ha hx HVA.out vx
      have c1 := fun W => lcompare_any a x W ha hx HVA.out vx
      rw [show underB x.toList a.toList = true from (under_iff (valid_ok vx)).2 (by rw [lx]; exact List.suffix_cons _ _)] at u1
      rw [show underB y.toList b.toList = true from (under_iff (valid_ok vy)).2 (by rw [ly]; exact List.suffix_cons _ _)] at u2
      have n3 : underB a.toList x.toList = false := by
        cases q : underB a.toList x.toList
        · rfl
        · have := ((under_iff (valid_ok HVA.out)).1 q).length_le
          rw [lx] at this
          rw [List.length_cons] at this; omega
      rw [n3] at u3
      rw [cmp_front lx] at c1
      have u4 := fun W => lunder_any a b W ha hb HVA.out HVB.out
      have u5 := fun W => lunder_any b a W hb ha HVB.out HVA.out
      have c2 := fun W => lcompare_any x y W hx hy vx vy
      have c3 := fun W => lcompare_any a b W ha hb HVA.out HVB.out
      have U1 := Lib.hid u1
      have U2 := Lib.hid u2
      have U3 := Lib.hid u3
      have C1 := Lib.hid c1
      have C3 := Lib.hid c3
      clear u1 u2 u3 c1 c3 vx vy lx ly n3
      cases p4 : underB a.toList b.toList <;> rw [p4] at u4
      · cases p5 : underB b.toList a.toList <;> rw [p5] at u5
        · rw [cmp_fronts (valid_ok HVA.out) (valid_ok HVB.out) HFIN.out.1.2 HFIN.out.2.2 p4 p5] at c2
          have C2 := Lib.hid c2
          have U4 := Lib.hid u4
          have U5 := Lib.hid u5
          clear c2 u4 u5 p4 p5
          generalize cmpN a.toList b.toList = z at *
          go_wp2_with (first | (go_at_call 20; first | ((with_reducible refine (U1.out _).mono ?_); rintro e w3 ⟨rfl, rfl⟩) | ((with_reducible refine (U2.out _).mono ?_); rintro e w3 ⟨rfl, rfl⟩) | ((with_reducible refine (U3.out _).mono ?_); rintro e w3 ⟨rfl, rfl⟩) | ((with_reducible refine (U4.out _).mono ?_); rintro e w3 ⟨rfl, rfl⟩) | ((with_reducible refine (U5.out _).mono ?_); rintro e w3 ⟨rfl, rfl⟩)) | (go_at_call 19; first | ((with_reducible refine (C1.out _).mono ?_); rintro e w3 ⟨rfl, hb⟩; have HB := Lib.hid (HB.out.trans (hb.mono HB.out.size)); clear hb) | ((with_reducible refine (C2.out _).mono ?_); rintro e w3 ⟨rfl, hb⟩; have HB := Lib.hid (HB.out.trans (hb.mono HB.out.size)); clear hb) | ((with_reducible refine (C3.out _).mono ?_); rintro e w3 ⟨rfl, hb⟩; have HB := Lib.hid (HB.out.trans (hb.mono HB.out.size)); clear hb)))
          go_ret
          exact ⟨rfl, HB.out⟩
        · have U4 := Lib.hid u4
          have U5 := Lib.hid u5
          clear c2 u4 u5 p4 p5
          go_wp2_with (first | (go_at_call 20; first | ((with_reducible refine (U1.out _).mono ?_); rintro e w3 ⟨rfl, rfl⟩) | ((with_reducible refine (U2.out _).mono ?_); rintro e w3 ⟨rfl, rfl⟩) | ((with_reducible refine (U3.out _).mono ?_); rintro e w3 ⟨rfl, rfl⟩) | ((with_reducible refine (U4.out _).mono ?_); rintro e w3 ⟨rfl, rfl⟩) | ((with_reducible refine (U5.out _).mono ?_); rintro e w3 ⟨rfl, rfl⟩)) | (go_at_call 19; first | ((with_reducible refine (C1.out _).mono ?_); rintro e w3 ⟨rfl, hb⟩; have HB := Lib.hid (HB.out.trans (hb.mono HB.out.size)); clear hb)))
          go_ret
          exact ⟨rfl, HB.out⟩
      · have U4 := Lib.hid u4
        clear c2 u4 u5 p4
        go_wp2_with (first | (go_at_call 20; first | ((with_reducible refine (U1.out _).mono ?_); rintro e w3 ⟨rfl, rfl⟩) | ((with_reducible refine (U2.out _).mono ?_); rintro e w3 ⟨rfl, rfl⟩) | ((with_reducible refine (U3.out _).mono ?_); rintro e w3 ⟨rfl, rfl⟩) | ((with_reducible refine (U4.out _).mono ?_); rintro e w3 ⟨rfl, rfl⟩)) | (go_at_call 19; first | ((with_reducible refine (C1.out _).mono ?_); rintro e w3 ⟨rfl, hb⟩; have HB := Lib.hid (HB.out.trans (hb.mono HB.out.size)); clear hb)))
        go_ret
        exact ⟨rfl, HB.out⟩

theorem walk (a b lb : ByteArray) (w : World) (ha : a.size ≤ maxLen) (hb : b.size ≤ maxLen) (hlb : lb.size ≤ maxLen) :
    Calls Try.prog 8 #[.string a, .string b, .string lb] w fun e w' => e = .returned (.bool true) ∧ Below w.heap.size w w' := by
  cases hv : (validB a.toList && validB b.toList)
  · exact walk_no a b lb w ha hb hv
  · simp only [Bool.and_eq_true] at hv
    exact walk_yes a b lb w ha hb hlb hv.1 hv.2

theorem own : ownKnob Try.prog.godebug = none := by kernel_rfl
theorem laidOut : laidOutB Try.prog = true := by kernel_rfl

set_option maxRecDepth 100000 in
theorem lifted (os : Os) (started : os.Started) (H : Type) (enc : TypeId × Value → H) :
    ReturnsInHanded {} Try.checked os 8 .any (Rows.nameBelowSpec.pre6 enc Try.prog Try.f8 Rows.nameBelowRow.domain false) (Rows.nameBelowSpec.post enc Try.prog Try.f8 false true false false) := by
  refine returnsInHanded_of_change (C := Try.checked) own started (by kernel_rfl) Try.func8
    (ChangeSpec.witness6 (enc := enc) (C := Try.checked) false ⟨#[], #[.string ⟨#[]⟩, .string ⟨#[]⟩, .string ⟨#[]⟩], []⟩ 8 (by kernel_rfl) (by kernel_rfl) (by kernel_rfl) (by kernel_rfl)) ?_
  intro W base args ds gs before hval0 hW hcnd _
  have hval : ∀ (j : Nat) t v, Try.f8.params[j]? = some t → args[j]? = some v → Value.okWide Try.prog W .any base t v := hval0
  have hW' := hW
  obtain ⟨p, q, hA0, hV, rfl, hfz, hnd⟩ := hW
  have hA : DataW.TrodAll enc Try.prog W 0 (fun _ => true) true Try.f8.params.toList args.toList ds p := hA0
  rw [Try.params8] at hA hval
  obtain ⟨v0, vs0, d0, ds0, p0, q0, hargs, rfl, rfl, h0, r0⟩ := trodAll_cons hA
  obtain ⟨v1, vs1, d1, ds1, p1, q1, rfl, rfl, rfl, h1, r1⟩ := trodAll_cons r0
  obtain ⟨v2, vs2, d2, ds2, p2, q2, rfl, rfl, rfl, h2, r2⟩ := trodAll_cons r1
  obtain ⟨rfl, rfl, rfl⟩ := trodAll_nil r2
  obtain rfl : args = #[v0, v1, v2] := by cases args; simp_all
  obtain ⟨rfl, rfl⟩ := trodVars_none hV
  have k0 := h0
  have lt0 : ∀ x ∈ p0, x.block < W.heap.size := by obtain ⟨m, hm⟩ := k0; exact DataW.trod_lt m _ _ _ hm
  have k1 := h1
  have lt1 : ∀ x ∈ p1, x.block < W.heap.size := by obtain ⟨m, hm⟩ := k1; exact DataW.trod_lt m _ _ _ hm
  have k2 := h2
  have lt2 : ∀ x ∈ p2, x.block < W.heap.size := by obtain ⟨m, hm⟩ := k2; exact DataW.trod_lt m _ _ _ hm
  obtain ⟨s0, rfl, rfl, rfl, ws0⟩ := open_string Try.underlying9 (hval 0 9 v0 rfl rfl) h0
  obtain ⟨s1, rfl, rfl, rfl, ws1⟩ := open_string Try.underlying9 (hval 1 9 v1 rfl rfl) h1
  obtain ⟨s2, rfl, rfl, rfl, ws2⟩ := open_string Try.underlying9 (hval 2 9 v2 rfl rfl) h2
  clear hA0 hval0
  refine (walk s0 s1 s2 W ws0 ws1 ws2).mono fun e W' ⟨he, bel⟩ => ?_
  subst he
  exact ⟨_, rfl, _, _, _, [], _, [], hW', trodAll_mk1 (shut_bool Try.underlying4 _), (trodAll_cons_mk (Below.trod laidOut (by kernel_rfl) (of_decide_eq_true (by kernel_rfl)) k0 bel lt0) (trodAll_cons_mk (Below.trod laidOut (by kernel_rfl) (of_decide_eq_true (by kernel_rfl)) k1 bel lt1) (trodAll_cons_mk (Below.trod laidOut (by kernel_rfl) (of_decide_eq_true (by kernel_rfl)) k2 bel lt2) trodAll_mk0))), rfl, bel.frame _, fun h => by cases h⟩

theorem over : Rows.NameBelowSaid :=
  OpenClaim.holds_of_wide 8 Try.f8 rfl rfl rfl rfl rfl rfl rfl ⟨rfl, rfl, rfl, rfl, rfl⟩ rfl rfl rfl rfl rfl (by kernel_rfl) Try.func8 (by kernel_rfl)
    (of_decide_eq_true (by kernel_rfl)) (by unfold Func.isWrapper; rw [if_neg (of_decide_eq_false (by kernel_rfl))]; exact ⟨rfl, rfl⟩)
    (fun os started H enc _ => lifted os started H enc)

end Below1
theorem nameBelow_holds : Rows.NameBelowSaid := Below1.over
end Go.Proofs.Ytllobkppehlgbaa
