/- The contract of Grow of package span; no condition beyond those that each theorem names. -/
import Derived.Test.YtojofkjnakiliaaS10
namespace Go.Proofs.Ytojofkjnakiliaa
open Go.RowKit Go.Shelf
open SpP

def growR (l : List Sp) (b a : Int) : List Sp × Nat := if validB l = true ∧ (0 ≤ b ∧ b ≤ top) ∧ 0 ≤ a ∧ a ≤ top then (nrm (grown l b a), 0) else ([], 1)
/-- The new row while it is filled. -/
def fill (l : List Sp) (b a : Int) (n i : Nat) : List Sp := (grown l b a).take i ++ List.replicate (n - i) (0, 0)
theorem set_at {A B : List Value} {k : Nat} (h : k = A.length) (v u : Value) : (A ++ u :: B).set k v = A ++ v :: B := by
  subst h
  simp
theorem fill_next {l : List Sp} {b a : Int} {n i : Nat} {s : Sp} (hn : l.length = n) (hs : l[i]? = some s) :
    ((rowS (fill l b a n i)).set (i * 2) (.int .i64 (max 0 (s.1 - b)))).set (i * 2 + 1) (.int .i64 (min top (s.2 + a))) = rowS (fill l b a n (i + 1)) := by
  have hi : i < n := by rw [← hn]; exact (List.getElem?_eq_some_iff.1 hs).1
  have hg : (grown l b a)[i]? = some (max 0 (s.1 - b), min top (s.2 + a)) := by unfold grown; rw [List.getElem?_map, hs]; rfl
  have hl : (rowS ((grown l b a).take i)).length = i * 2 := by
    rw [rowS_len, List.length_take]
    unfold grown
    rw [List.length_map]; omega
  unfold fill
  rw [List.take_add_one, hg, show n - i = (n - (i + 1)) + 1 by omega, List.replicate_succ, rowS_append, rowS_append, rowS_append, rowS_cons]
  show ((_ ++ Value.int .i64 0 :: Value.int .i64 0 :: _).set _ _).set _ _ = _
  rw [set_at hl.symm]
  have : ∀ (u v : Value) (T : List Value), (rowS ((grown l b a).take i) ++ u :: v :: T) = (rowS ((grown l b a).take i) ++ [u]) ++ v :: T := fun u v T => by simp
  rw [this, set_at (by rw [List.length_append, hl]; rfl)]
  simp [rowS, valsS]
theorem fill_start (l : List Sp) (b a : Int) (n : Nat) : madeCells zSp.cells (n * 2) = (rowS (fill l b a n 0)).toArray := by
  unfold fill
  rw [List.take_zero, List.nil_append, Nat.sub_zero]
  apply Array.ext'
  rw [List.toList_toArray]
  apply List.ext_getElem?
  intro j
  by_cases hj : j < n * 2
  · have h1 : (List.replicate n ((0 : Int), (0 : Int)))[j / 2]? = some (0, 0) := by rw [List.getElem?_replicate, if_pos (by omega)]
    have h2 := rowS_get _ (j / 2) (j % 2) _ h1 (by omega)
    rw [show j / 2 * 2 + j % 2 = j by omega] at h2
    rw [h2]
    have hm : j % 2 = 0 ∨ j % 2 = 1 := by omega
    rcases hm with hm | hm <;> simp [madeCells, hj, hm, zSp, Value.cells, valsS]
  · rw [List.getElem?_eq_none (by simp [madeCells]; omega), List.getElem?_eq_none (by rw [rowS_len, List.length_replicate]; omega)]
theorem fill_full {l : List Sp} {b a : Int} {n : Nat} (hn : l.length = n) : fill l b a n n = grown l b a := by
  unfold fill
  rw [Nat.sub_self, List.replicate_zero, List.append_nil, List.take_of_length_le (by unfold grown; rw [List.length_map, hn]; exact Nat.le_refl _)]
theorem made_sp (w : World) (n : Nat) (hn : n ≤ 20000) (l : List Sp) (b a : Int) :
    (Instr.makeSlice 22 (.int .i64 (n : Int)) (.int .i64 (n : Int))).run Try.prog w = .ok (.slice (some ⟨w.heap.size, 0, none⟩) n n) (w.alloc (.cells (rowS (fill l b a n 0)).toArray 34)) := by
  rw [← fill_start]
  obtain ⟨i, h1, h2, h3, h4⟩ := info_parts infoS
  have := run_makeSlice (P := Try.prog) (w := w) 22 34 i zSp Try.underlying22 h1 h2 .i64 .i64 (n : Int) (n : Int) (by omega) (by omega) (by rw [h3]; omega) (by rw [h4]; omega) (by omega)
  rw [h3] at this
  rw [this]
  rfl
theorem grown_len (l : List Sp) (b a : Int) : (grown l b a).length = l.length := by unfold grown; rw [List.length_map]

theorem grown_inR' {l : List Sp} (h : InR l) {b a : Int} (hb : 0 ≤ b) (ha : 0 ≤ a) : InR (grown l b a) := by
  intro s hs
  obtain ⟨x, hx, rfl⟩ := List.mem_map.1 hs
  have h1 := h x hx
  unfold top at *
  simp only
  omega
theorem fill_set {W : World} {G : Nat} {l m : List Sp} {i : Nat} {u v : Value} {o : Obj} (h : W.heap[G]? = some (.cells (rowS l).toArray 34 (0, 0))) (hm : ((rowS l).set (i * 2) u).set (i * 2 + 1) v = rowS m) :
    (((W.setCell ⟨G, i * 2, none⟩ u).setCell ⟨G, i * 2 + 1, none⟩ v).alloc o).heap[G]? = some (.cells (rowS m).toArray 34 (0, 0)) := by
  have h2 := heap_setCell_same _ G (i * 2 + 1) _ _ v (heap_setCell_same W G (i * 2) _ _ u h)
  have hlt := (Array.getElem?_eq_some_iff.1 h2).1
  rw [RowKit.Below.heap_alloc _ o G hlt, h2, ← hm]
  simp
theorem sls_block {W : World} {G c : Nat} {l : List Sp} (h : W.heap[G]? = some (.cells (rowS l).toArray 34 (0, 0))) : SlS (.slice (some ⟨G, 0, none⟩) l.length c) l W := by
  refine .inr ⟨G, 0, c, rfl, (Array.getElem?_eq_some_iff.1 h).1, fun m u hm => ?_⟩
  rw [Nat.zero_add, cell_of_row W G m _ _ _ h]
  simpa using hm

set_option maxHeartbeats 2000000 in
set_option maxRecDepth 100000 in
theorem grow_any {v : Value} {l : List Sp} {w : World} (h : SlS v l w) (hn : l.length ≤ maxLen) (b a : Int) :
    Calls Try.prog 20 #[v, .int .i64 b, .int .i64 a] w (ResPost (growR l b a) w) := by
  have HVA := Lib.hid (valid_any h hn)
  have SA := Lib.hid h
  obtain ⟨p, c, rfl⟩ := h.form
  clear h
  obtain ⟨r, hr⟩ : ∃ r, growR l b a = r := ⟨_, rfl⟩
  rw [hr]
  unfold growR at hr
  cases qa : validB l
  · rw [qa, if_neg (by simp)] at hr
    subst hr
    rw [qa] at HVA
    clear qa SA
    go_enter Try.func20, Try.ntmps20
    go_wp2_with (go_at_call 22; refine HVA.out.mono ?_; rintro e w1 ⟨rfl, hb1⟩; have HB1 := Lib.hid hb1; clear hb1)
    go_ret2
    exact ⟨_, rfl, SlS.nil none 0 _, HB1.out⟩
  · have hv := (validB_iff l).1 qa
    rw [qa] at HVA
    have HV := Lib.hid hv
    by_cases q1 : 0 ≤ b ∧ b ≤ 20000000
    · by_cases q2 : 0 ≤ a ∧ a ≤ 20000000
      · rw [if_pos ⟨qa, q1, q2⟩] at hr
        have HR := Lib.hid hr
        have HW1 := Lib.hid (fun W => within_any b 0 20000000 W)
        have HW2 := Lib.hid (fun W => within_any a 0 20000000 W)
        rw [show decide (0 ≤ b) = true by simpa using q1.1, show decide (b ≤ 20000000) = true by simpa using q1.2] at HW1
        rw [show decide (0 ≤ a) = true by simpa using q2.1, show decide (a ≤ 20000000) = true by simpa using q2.2] at HW2
        rw [Bool.and_self] at HW1 HW2
        have hl2 := hv.1
        obtain ⟨n, hln⟩ : ∃ n, l.length = n := ⟨_, rfl⟩
        rw [hln] at HVA SA hl2 ⊢
        have HL := Lib.hid hln
        have hmk := fun W => made_sp W n hl2 l b a
        have HMK := Lib.hid hmk
        have HIR := Lib.hid hv.2.inR
        obtain ⟨b0, b1⟩ := q1
        obtain ⟨a0, a1⟩ := q2
        clear hr qa hv hln hmk HV
        go_enter Try.func20, Try.ntmps20
        go_wp2_with (go_at_call 22; fail)
        refine HVA.out.mono ?_
        rintro e w1 ⟨rfl, hb1⟩
        have HB1 := Lib.hid hb1
        have hmk := HMK.out w1
        clear hb1
        go_wp2_with (go_at_call 39; first | ((with_reducible refine (HW1.out _).mono ?_); rintro e w2 ⟨rfl, rfl⟩) | ((with_reducible refine (HW2.out _).mono ?_); rintro e w2 ⟨rfl, rfl⟩))
        have hg0 : (w1.alloc (.cells (rowS (fill l b a n 0)).toArray 34)).heap[w1.heap.size]? = some (.cells (rowS (fill l b a n 0)).toArray 34 (0, 0)) := World.alloc_heap_new w1 _
        have hb0 : RowKit.Below w.heap.size w (w1.alloc (.cells (rowS (fill l b a n 0)).toArray 34)) := HB1.out.alloc HB1.out.size _
        obtain ⟨G, hG⟩ : ∃ G, w1.heap.size = G := ⟨_, rfl⟩
        rw [hG] at hg0 ⊢
        have hGw : w.heap.size ≤ G := by have := HB1.out.size; omega
        generalize (w1.alloc (.cells (rowS (fill l b a n 0)).toArray 34)) = w2 at *
        have HG0 := Lib.hid hg0
        have HB0 := Lib.hid hb0
        clear hmk hG hg0 hb0 HB1 HVA HW1 HW2 HMK
        go_loopw [29] (fun s29 wr => ∃ i : Nat, i ≤ n ∧ s29 = .int .i64 i ∧ Hid (wr.heap[G]? = some (.cells (rowS (fill l b a n i)).toArray 34 (0, 0))) ∧ Hid (RowKit.Below w.heap.size w wr)) (fun s29 _ => n - (intOf s29).toNat)
        case atStart => exact ⟨0, Nat.zero_le _, rfl, HG0, HB0⟩
        case round =>
          obtain ⟨i, hi, rfl, HG, HW⟩ := hrel
          by_cases h1 : i < n
          · have ia : i < l.length := by rw [HL.out]; exact h1
            have ga : l[i]? = some l[i] := List.getElem?_eq_getElem ia
            have hSA := SA.out.keep HW.out
            obtain ⟨b', off, rfl, hlt, hRS⟩ : ∃ b off, p = some ⟨b, off, none⟩ ∧ b < w.heap.size ∧ RS b off l w := by
              have := SA.out
              rw [← HL.out] at this
              exact this.at_ (by omega)
            obtain ⟨e0, e1⟩ := (hRS.keep hlt HW.out).at_ ga
            have hin := HIR.out _ (List.mem_of_getElem? ga)
            have HFN := Lib.hid (fill_next (b := b) (a := a) HL.out ga)
            have hcell := cell_of_row wr G
            have hgl : G < wr.heap.size := (Array.getElem?_eq_some_iff.1 HG.out).1
            have z0 : wr.cell? ⟨G, i * 2, none⟩ = some (.int .i64 0) := by
              rw [cell_of_row wr G (i * 2) _ _ _ HG.out]
              have hr := rowS_get (fill l b a n i) i 0 (0, 0) (by unfold fill; rw [List.getElem?_append_right (by rw [List.length_take, grown_len]; omega), List.length_take, grown_len, List.getElem?_replicate, if_pos (by omega)]) (by omega)
              simpa [valsS] using hr
            have z1 : wr.cell? ⟨G, i * 2 + 1, none⟩ = some (.int .i64 0) := by
              rw [cell_of_row wr G (i * 2 + 1) _ _ _ HG.out]
              have hr := rowS_get (fill l b a n i) i 1 (0, 0) (by unfold fill; rw [List.getElem?_append_right (by rw [List.length_take, grown_len]; omega), List.length_take, grown_len, List.getElem?_replicate, if_pos (by omega)]) (by omega)
              simpa [valsS] using hr
            have f0 : wr.frozen? ⟨G, i * 2, none⟩ = false := frozen_of_row wr G (i * 2) _ _ HG.out
            have f1 : wr.frozen? ⟨G, i * 2 + 1, none⟩ = false := frozen_of_row wr G (i * 2 + 1) _ _ HG.out
            generalize l[i] = s at *
            obtain ⟨x, y⟩ := s
            simp only at e0 e1 hin
            have hx0 := hin.1
            have hx1 : y ≤ 20000000 := hin.2.2
            have hx2 := hin.2.1
            clear ga hSA hRS hcell hin
            have hi1 : (i : Int) < (n : Int) := by omega
            go_wp2
            go_roundw
            case rel => exact ⟨i + 1, by omega, by go_num, Lib.hid (fill_set HG.out HFN.out), Lib.hid (((HW.out.setCell (p := ⟨G, i * 2, none⟩) hGw _).setCell (p := ⟨G, i * 2 + 1, none⟩) hGw _).alloc (by simp; exact HW.out.size) _)⟩
            case measure => simp [intOf]; omega
          · obtain rfl : i = n := by omega
            have hs := sls_block (c := i) HG.out
            rw [fill_full HL.out, grown_len, HL.out] at hs
            have hnr := normal_any hs (by rw [grown_len]; exact hn)
            have e1 : normR (grown l b a) = r := by
              rw [← HR.out]
              unfold normR
              rw [if_pos ⟨by rw [grown_len, HL.out]; exact hl2, (inB_iff _).2 (grown_inR' HIR.out b0 a0)⟩]
            rw [e1] at hnr
            have HNR := Lib.hid hnr
            clear hs hnr e1
            go_wp2_with (go_at_call 11; refine HNR.out.mono ?_; rintro e w3 ⟨sl, rfl, hs3, hb3⟩; obtain ⟨p3, c3, rfl⟩ := hs3.form; have HS3 := Lib.hid hs3; have HB3 := Lib.hid hb3; clear hs3 hb3)
            go_ret2
            exact ⟨_, rfl, HS3.out, HW.out.trans (HB3.out.mono HW.out.size)⟩
      · have hne : ¬ ((0 ≤ b ∧ b ≤ 20000000) ∧ 0 ≤ a ∧ a ≤ 20000000) := fun q => q2 q.2
        rw [if_neg (fun q => hne q.2)] at hr
        subst hr
        have HW1 := Lib.hid (fun W => within_any b 0 20000000 W)
        have HW2 := Lib.hid (fun W => within_any a 0 20000000 W)
        rw [show decide (0 ≤ b) = true by simpa using q1.1, show decide (b ≤ 20000000) = true by simpa using q1.2] at HW1
        rw [show (decide (0 ≤ a) && decide (a ≤ 20000000)) = false by rw [Bool.eq_false_iff]; intro q; simp only [Bool.and_eq_true, decide_eq_true_eq] at q; exact q2 q] at HW2
        rw [Bool.and_self] at HW1
        have hba : b ≠ a := fun q => q2 (q ▸ q1)
        clear qa hv hne q1 q2 SA HV
        go_enter Try.func20, Try.ntmps20
        go_wp2_with (go_at_call 22; fail)
        refine HVA.out.mono ?_
        rintro e w1 ⟨rfl, hb1⟩
        have HB1 := Lib.hid hb1
        clear hb1
        go_wp2_with (go_at_call 39; fail)
        refine (HW1.out _).mono ?_
        rintro e w2 ⟨rfl, rfl⟩
        go_wp2_with (go_at_call 39; fail)
        refine (HW2.out _).mono ?_
        rintro e w2 ⟨rfl, rfl⟩
        go_wp2
        go_ret2
        exact ⟨_, rfl, SlS.nil none 0 _, HB1.out⟩
    · have hne : ¬ ((0 ≤ b ∧ b ≤ 20000000) ∧ 0 ≤ a ∧ a ≤ 20000000) := fun q => q1 q.1
      rw [if_neg (fun q => hne q.2)] at hr
      subst hr
      have HW1 := Lib.hid (fun W => within_any b 0 20000000 W)
      rw [show (decide (0 ≤ b) && decide (b ≤ 20000000)) = false by rw [Bool.eq_false_iff]; intro q; simp only [Bool.and_eq_true, decide_eq_true_eq] at q; exact q1 q] at HW1
      clear qa hv hne q1 SA HV
      go_enter Try.func20, Try.ntmps20
      go_wp2_with (go_at_call 22; fail)
      refine HVA.out.mono ?_
      rintro e w1 ⟨rfl, hb1⟩
      have HB1 := Lib.hid hb1
      clear hb1
      go_wp2_with (go_at_call 39; fail)
      refine (HW1.out _).mono ?_
      rintro e w2 ⟨rfl, rfl⟩
      go_wp2
      go_ret2
      exact ⟨_, rfl, SlS.nil none 0 _, HB1.out⟩
end Go.Proofs.Ytojofkjnakiliaa
