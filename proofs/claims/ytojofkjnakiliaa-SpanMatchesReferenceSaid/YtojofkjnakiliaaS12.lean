/- The contract of spans of the statements about package span, and what the examples come to; no condition beyond those that each theorem names. -/
import Derived.Test.YtojofkjnakiliaaS11
import Derived.Deep.AppendLies
import Derived.Deep.RegionLaw
namespace Go.Proofs.Ytojofkjnakiliaa
open Go.RowKit Go.Shelf
open SpP

theorem snoc_row {l : List Sp} {k : Nat} {s : Sp} (h : l[k]? = some s) : rowS (l.take (k + 1)) = rowS (l.take k) ++ valsS s := by
  rw [List.take_add_one, h, rowS_append]
  simp [rowS]
theorem own_keep {w W w6 : World} {v : Value} {n : Nat} {xs : List Value} (h0 : RowKit.Below w.heap.size w W) (ho : W.ownsRow w.heap.size 34 2 v n xs) {tmp : Obj} (hg : (W.alloc tmp).grownBy w6 v.ownBlock) : RowKit.Below w.heap.size w w6 :=
  (h0.alloc h0.size tmp).grown hg (by simp; have := h0.size; omega) (fun k hk => (ho.lt k hk).1)

theorem own_keep_d {w W w6 : World} {v : Value} {n : Nat} {xs : List Value} (h0 : RowKit.Below w.heap.size w W) (ho : W.ownsRow w.heap.size 34 2 v n xs) {tmp : Obj} (hg : (W.alloc tmp).drew.grownBy w6 v.ownBlock) : RowKit.Below w.heap.size w w6 :=
  own_keep h0 ho (tmp := tmp) ⟨hg.os, hg.tape, hg.output, hg.size, hg.block⟩

set_option maxHeartbeats 2000000 in
set_option maxRecDepth 100000 in
theorem spans_any (l : List Sp) (b off c : Nat) (w : World) (hn : l.length ≤ 100) (hb : b < w.heap.size) (hA : RS b off l w) :
    Calls Try.prog 26 #[.slice (some ⟨b, off, none⟩) (2 * l.length) c] w fun e w' => ∃ sl, e = .returned sl ∧ SlS sl l w' ∧ RowKit.Below w.heap.size w w' := by
  obtain ⟨n, hln⟩ : ∃ n, l.length = n := ⟨_, rfl⟩
  rw [hln] at hn ⊢
  have HL := Lib.hid hln
  have HA := Lib.hid hA
  obtain ⟨i0, hi0, hz0, hz1, hz2⟩ := info_parts infoS
  have HI := Lib.hid hi0
  have HZ0 := Lib.hid hz0
  have HZ1 := Lib.hid hz1
  have HZ2 := Lib.hid hz2
  clear hi0 hz0 hz1 hz2 hA hln
  go_enter Try.func26, Try.ntmps26
  go_wp2
  go_loopw [3, 4] (fun s3 s4 wr => ∃ (k cap : Nat) (p : Option Addr), s3 = .slice p k cap ∧ s4 = .int .i64 (2 * (k : Int)) ∧ k ≤ n ∧ Hid (RowKit.Below w.heap.size w wr) ∧ Hid (wr.ownsRow w.heap.size 34 2 s3 k (rowS (l.take k)))) (fun _ s4 _ => 2 * n - (intOf s4).toNat)
  case atStart => exact ⟨0, 0, none, rfl, rfl, Nat.zero_le _, Lib.hid (RowKit.Below.refl _ _), Lib.hid (World.ownsRow_nil _ _ _ _)⟩
  case round =>
    obtain ⟨k, cap, p, rfl, rfl, hk, HB, HO⟩ := hrel
    by_cases h1 : k < n
    · have ia : k < l.length := by rw [HL.out]; exact h1
      have ga : l[k]? = some l[k] := List.getElem?_eq_getElem ia
      obtain ⟨a0, a1⟩ := (HA.out.keep hb HB.out).at_ ga
      have HSN := Lib.hid (snoc_row ga)
      have hws := HB.out.size
      generalize l[k] = s at *
      obtain ⟨x, y⟩ := s
      simp only at a0 a1
      have h2 : 2 * (k : Int) + 1 < 2 * (n : Int) := by omega
      have h3 : 2 * (k : Int) < 2 * (n : Int) := by omega
      have h4 : (0 : Int) ≤ 2 * (k : Int) := by omega
      have w1 : IntKind.i64.wrap (2 * (k : Int) + 1) = 2 * (k : Int) + 1 := IntWalk.i64_in _ (by omega)
      have h5 : (0 : Int) ≤ 2 * (k : Int) + 1 := by omega
      have a2 : wr.cell? ⟨b, off + (k * 2 + 1), none⟩ = some (.int .i64 y) := by rw [← Nat.add_assoc]; exact a1
      have t1 : (2 * (k : Int)).toNat = k * 2 := by omega
      have t2 : (2 * (k : Int) + 1).toNat = k * 2 + 1 := by omega
      clear ga
      go_wp2
      go_region_law (refine step_append_lies _ rfl (.tmp 12) (.tmp 23) 22 rfl w.heap.size 34 i0 zSp 2 16 Try.underlying22 HI.out HZ0.out HZ1.out HZ2.out rfl (by decide) (.slice p k cap) k (rowS (l.take k)) rfl (HO.out.alloc _) ⟨wr.heap.size, 0, none⟩ 1 1 (valsS (x, y)) rfl rfl (news_s wr (x, y) 34) (one_s _) (by decide) (by unfold maxLen; omega) (by omega) (by simp; omega) _ rfl (fun g2 cap2 w6 hown' hgrow _ _ => ?_))
      all_goals
        have HO6 := Lib.hid hown'
        have HB6 : Hid (RowKit.Below w.heap.size w w6) := by first | exact Lib.hid (own_keep_d HB.out HO.out hgrow) | exact Lib.hid (own_keep HB.out HO.out hgrow)
        clear hown' hgrow
        go_wp2
        go_roundw
        case rel => exact ⟨k + 1, cap2, _, rfl, by go_num, by omega, HB6, Lib.hid (by rw [HSN.out]; exact HO6.out)⟩
        case measure => simp [intOf]; omega
    · obtain rfl : k = n := by omega
      have h2 : ¬ 2 * (k : Int) + 1 < 2 * (k : Int) := by omega
      have ho := HO.out
      rw [List.take_of_length_le (by rw [HL.out]; exact Nat.le_refl _)] at ho
      have HS := Lib.hid (SlS.owned (l := l) (by rw [HL.out]; exact ho))
      clear ho
      go_wp2
      go_ret
      exact ⟨_, rfl, HS.out, HB.out⟩
theorem spans_lit (l : List Sp) (hn : l.length ≤ 100) (n : Nat) (hl : n = 2 * l.length) (m : Nat) (hm : l.length = m) (cs : Array Value) (hc : cs = (rowS l).toArray) (w : World) :
    Calls Try.prog 26 #[.slice (some ⟨w.heap.size, 0, none⟩) n n] (w.alloc (.cells cs 3)) fun e w' => ∃ p c, e = .returned (.slice p m c) ∧ SlS (.slice p m c) l w' ∧ RowKit.Below w.heap.size w w' := by
  subst hl hc hm
  refine (spans_any l w.heap.size 0 _ (w.alloc (.cells (rowS l).toArray 3)) hn (by simp) (fun m u hm => ?_)).mono fun e w' ⟨sl, he, hs, hb⟩ => ?_
  · rw [Nat.zero_add, World.cell?_alloc_at _ _ _ _ rfl]
    simpa using hm
  · obtain ⟨p, c, rfl⟩ := hs.form
    exact ⟨p, c, he, hs, ((RowKit.Below.refl _ w).alloc (Nat.le_refl _) _).trans (hb.mono (by simp))⟩

theorem lit_val {l : List Sp} (h : validB l = true) : Val l := ((validB_iff l).1 h).2
theorem nrm_lit {l m : List Sp} (hl : inB l = true) (hll : l.length ≤ 20000) (hm : validB m = true) (h : ∀ t, hasS l t = hasS m t) : normR l = (m, 0) := by
  unfold normR
  rw [if_pos ⟨hll, hl⟩, (nrm_val ((inB_iff l).1 hl)).eq (lit_val hm) fun t => by rw [nrm_has ((inB_iff l).1 hl), h]]
theorem both_lit {c : Int → Int → Bool} (h0 : c 0 0 = false) {a b m : List Sp} (ha : validB a = true) (hb : validB b = true) (hm : validB m = true) (h : ∀ t, hasS (swp c a b) t = hasS m t) : bothR c a b = (m, 0) := by
  have e : swp c a b = m := (swp_val h0 (lit_val ha).inR (lit_val hb).inR).eq (lit_val hm) h
  unfold bothR
  rw [if_pos ⟨ha, hb⟩, e, if_pos ((validB_iff m).1 hm).1]
theorem dec_or {p q r s : Prop} [Decidable p] [Decidable q] [Decidable r] [Decidable s] (h : (p ∧ q) ↔ (r ∧ s)) : (decide p && decide q) = (decide r && decide s) := by
  rw [Bool.eq_iff_iff]; simp only [Bool.and_eq_true, decide_eq_true_eq]; exact h
theorem ex_1 : normR [(5, 7), (1, 3), (3, 4), (9, 9)] = ([(1, 4), (5, 7)], 0) := by
  refine nrm_lit (by decide) (by decide) (by decide) fun t => ?_
  rw [Bool.eq_iff_iff]
  simp only [hasS_cons, hasS_nil, Bool.or_eq_true, Bool.and_eq_true, decide_eq_true_eq, Bool.or_false]
  omega
theorem ex_2 : bothR cX [(1, 4), (5, 7)] [(3, 6)] = ([(3, 4), (5, 6)], 0) := by
  refine both_lit rfl (by decide) (by decide) (by decide) fun t => ?_
  rw [crs_has (lit_val (by decide)).inR (lit_val (by decide)).inR, Bool.eq_iff_iff]
  simp only [hasS_cons, hasS_nil, Bool.or_eq_true, Bool.and_eq_true, decide_eq_true_eq, Bool.or_false]
  omega
theorem ex_3 : bothR cM [(1, 4), (5, 7)] [(3, 6)] = ([(1, 3), (6, 7)], 0) := by
  refine both_lit rfl (by decide) (by decide) (by decide) fun t => ?_
  rw [min_has (lit_val (by decide)).inR (lit_val (by decide)).inR, Bool.eq_iff_iff]
  simp only [hasS_cons, hasS_nil, Bool.or_eq_true, Bool.and_eq_true, decide_eq_true_eq, Bool.or_false, Bool.not_eq_true', Bool.and_eq_false_iff, decide_eq_false_iff_not]
  omega
theorem ex_4 : growR [(5, 7), (12, 13)] 6 1 = ([(0, 14)], 0) := by
  unfold growR
  rw [if_pos (by decide), show grown [(5, 7), (12, 13)] 6 1 = [(0, 8), (6, 14)] by decide]
  have := nrm_lit (l := [(0, 8), (6, 14)]) (m := [(0, 14)]) (by decide) (by decide) (by decide) fun t => by
    rw [Bool.eq_iff_iff]
    simp only [hasS_cons, hasS_nil, Bool.or_eq_true, Bool.and_eq_true, decide_eq_true_eq, Bool.or_false]
    omega
  unfold normR at this
  rwa [if_pos (by decide)] at this
theorem ex_5 : bothR cU [(1, 4), (4, 7)] [] = ([], 1) := by
  unfold bothR
  rw [if_neg (by decide)]
theorem ex_6 : normR [(5, 4)] = ([], 1) := by
  unfold normR
  rw [if_neg (by decide)]
theorem ex_7 : bothR cU [(1, 4)] [(4, 5), (7, 8)] = ([(1, 5), (7, 8)], 0) := by
  refine both_lit rfl (by decide) (by decide) (by decide) fun t => ?_
  rw [uni_has (lit_val (by decide)).inR (lit_val (by decide)).inR, Bool.eq_iff_iff]
  simp only [hasS_cons, hasS_nil, Bool.or_eq_true, Bool.and_eq_true, decide_eq_true_eq, Bool.or_false]
  omega

theorem SlS.formN {v : Value} {l : List Sp} {W : World} (h : SlS v l W) (n : Nat) (hn : l.length = n) : ∃ p c, v = .slice p n c := by
  obtain ⟨p, c, rfl⟩ := h.form
  exact ⟨p, c, by rw [hn]⟩
/-- Some slices of stretches, and nothing that lay has turned. -/
def AllS (w0 : World) (L : List (Value × List Sp)) (W : World) : Prop := RowKit.Below w0.heap.size w0 W ∧ ∀ p ∈ L, SlS p.1 p.2 W
theorem AllS.start (w : World) : AllS w [] w := ⟨RowKit.Below.refl _ _, fun p h => by cases h⟩
theorem AllS.step {w0 : World} {L : List (Value × List Sp)} {W W' : World} (h : AllS w0 L W) (hb : RowKit.Below W.heap.size W W') : AllS w0 L W' := ⟨h.1.trans (hb.mono h.1.size), fun p hp => (h.2 p hp).keep hb⟩
theorem AllS.add {w0 : World} {L : List (Value × List Sp)} {W : World} (h : AllS w0 L W) {v : Value} {l : List Sp} (hs : SlS v l W) : AllS w0 ((v, l) :: L) W := ⟨h.1, fun p hp => by
  rcases List.mem_cons.1 hp with rfl | hp
  · exact hs
  · exact h.2 p hp⟩
theorem AllS.drop {w0 : World} {L : List (Value × List Sp)} {W : World} {p : Value × List Sp} (h : AllS w0 (p :: L) W) : AllS w0 L W := ⟨h.1, fun q hq => h.2 q (List.mem_cons_of_mem _ hq)⟩
theorem AllS.nth {w0 : World} {L : List (Value × List Sp)} {W : World} (h : AllS w0 L W) (i : Nat) {v : Value} {l : List Sp} (hi : L[i]? = some (v, l)) : SlS v l W := h.2 _ (List.mem_of_getElem? hi)
end Go.Proofs.Ytojofkjnakiliaa
