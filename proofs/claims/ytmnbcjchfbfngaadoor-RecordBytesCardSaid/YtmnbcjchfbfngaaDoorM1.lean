/- The contract of address of layer 2's laws; no condition beyond those that each theorem names. -/
import Derived.Test.YtmnbcjchfbfngaaDoorRC
import Derived.Laws.AppendOwn
import Derived.IntWalk
import Derived.Deep.QuietTactic
import Derived.BigQuiet
namespace Go.Proofs.YtmnbcjchfbfngaaDoor
set_option linter.unusedSimpArgs false
set_option linter.unusedVariables false
open Go.RowKit
open NmP

theorem frz {W : World} {b : Nat} {cs : Array Value} {t : TypeId} (h : W.heap[b]? = some (Obj.cells cs t (0, 0))) (j : Nat) : W.frozen? ⟨b, j, none⟩ = false := by
  simp [World.frozen?, h]
theorem rowD_one : ∀ (l : List Dt), ∀ u ∈ rowD l, u.oneCell' = true
  | [], u, h => absurd h List.not_mem_nil
  | d :: r, u, h => by
    rw [rowD_cons] at h
    rcases List.mem_append.1 h with h | h
    · simp [valsD] at h
      rcases h with rfl | rfl | rfl <;> rfl
    · exact rowD_one r u h
def zDD : Value := .agg #[.string ⟨#[]⟩, .int .i64 0, .int .i64 0]
theorem infoDD : (Tryd.prog.info? 48).map (fun i => (i.zero, i.size, i.bytes)) = some (some zDD, 3, 32) := by kernel_rfl
/-- Data that the call owns, laid open. -/
theorem own_data {W : World} {B : Nat} {v : Value} {n : Nat} {l : List Value} (h : W.ownsRow B 48 3 v n l) (h1 : 1 ≤ n) :
    ∃ g cap cur, v = .slice (some ⟨g, 0, none⟩) n cap ∧ B ≤ g ∧ n ≤ cap ∧ W.heap[g]? = some (Obj.cells cur 48 (0, 0)) ∧ cur.toList.take (n * 3) = l := by
  rcases h.2 with ⟨_, h0⟩ | ⟨g, cap, cur, rfl, hb, hg, hn, _, _, ht⟩
  · omega
  · exact ⟨g, cap, cur, rfl, hb, hn, hg, ht⟩
/-- A row of data that the call owns is a slice of data. -/
theorem own_SlD {W : World} {B : Nat} {v : Value} {l : List Dt} (h : W.ownsRow B 48 3 v l.length (rowD l)) : SlD v l W := by
  rcases h.2 with ⟨rfl, h0⟩ | ⟨g, cap, cur, rfl, hb, hg, hn, _, _, ht⟩
  · exact .inl ⟨List.eq_nil_of_length_eq_zero h0, none, 0, rfl⟩
  · refine .inr ⟨g, 0, cap, rfl, (Array.getElem?_eq_some_iff.1 hg).1, fun m u hm => ?_⟩
    refine cell_of_blk hg (0 + m) u ?_
    have hml : m < l.length * 3 := by
      have := (List.getElem?_eq_some_iff.1 hm).1
      rw [rowD_len] at this
      omega
    rw [Nat.zero_add, ← Array.getElem?_toList]
    rw [← ht, List.getElem?_take, if_pos hml] at hm
    exact hm
/-- A slice of numbers. -/
def SlN (v : Value) (xs : List Int) (W : World) : Prop := (xs = [] ∧ ∃ p c, v = .slice p 0 c) ∨ ∃ b off c, v = .slice (some ⟨b, off, none⟩) xs.length c ∧ b < W.heap.size ∧ ∀ (i : Nat) (x : Int), xs[i]? = some x → W.cell? ⟨b, off + i, none⟩ = some (.int .i64 x)
theorem SlN.keep {v : Value} {xs : List Int} {W W' : World} (h : SlN v xs W) (hb : Below W.heap.size W W') : SlN v xs W' := by
  rcases h with h | ⟨b, off, c, h1, h2, h3⟩
  · exact .inl h
  · exact .inr ⟨b, off, c, h1, Nat.lt_of_lt_of_le h2 hb.size, fun i x hi => (hb.cell (p := ⟨b, off + i, none⟩) h2).trans (h3 i x hi)⟩
theorem SlN.form {v : Value} {xs : List Int} {W : World} (h : SlN v xs W) : ∃ p c, v = .slice p xs.length c := by
  rcases h with ⟨h, p, c, h2⟩ | ⟨b, off, c, h1, _⟩
  · exact ⟨p, c, by rw [h2, h]; rfl⟩
  · exact ⟨_, c, h1⟩
theorem SlN.at_ {p : Option Addr} {n c : Nat} {xs : List Int} {W : World} (h : SlN (.slice p n c) xs W) (h1 : 0 < xs.length) : ∃ b off, p = some ⟨b, off, none⟩ ∧ b < W.heap.size ∧ ∀ (i : Nat) (x : Int), xs[i]? = some x → W.cell? ⟨b, off + i, none⟩ = some (.int .i64 x) := by
  rcases h with ⟨h, _⟩ | ⟨b, off, c, h2, h3, h4⟩
  · rw [h] at h1; cases h1
  · cases h2; exact ⟨b, off, rfl, h3, h4⟩
theorem gset (W : World) (b j : Nat) (v : Value) : W.grownBy (W.setCell ⟨b, j, none⟩ v) (some b) := ⟨rfl, rfl, rfl, by simp, fun k _ hne => heap_setCell_other W ⟨b, j, none⟩ k v (fun e => hne (by rw [e]))⟩
def ad1 (n : Int) : Dt := (⟨#[]⟩, n, 0)
def sX : ByteArray := ⟨#[120]⟩
/-- The boxes of address. -/
structure AdW (life : Int) (v : Value) (pre : List Int) (w W : World) : Prop where
  bel : Below w.heap.size w W
  res : W.heap[w.heap.size]? = some (Obj.cells #[.string ⟨#[]⟩, .int .i64 0, .int .i64 0, .slice none 0 0] 24 (0, 0))
  box : W.heap[w.heap.size + 1]? = some (Obj.cells #[.string sX, .int .i64 1, .int .i64 life, v] 24 (0, 0))
  own : W.ownsRow (w.heap.size + 2) 48 3 v pre.length (rowD (pre.map ad1))
theorem adW (life : Int) (w : World) : AdW life (.slice none 0 0) [] w ((w.alloc (.cells #[.string ⟨#[]⟩, .int .i64 0, .int .i64 0, .slice none 0 0] 24)).alloc (.cells #[.string sX, .int .i64 1, .int .i64 life, .slice none 0 0] 24)) := by
  refine ⟨((Below.refl _ w).alloc (Nat.le_refl _) _).alloc (by simp) _, ?_, ?_, World.ownsRow_nil _ _ _ _⟩
  · rw [heap_alloc_old _ _ (by simp)]
    exact heap_alloc_new w _
  · have := heap_alloc_new (w.alloc (.cells #[.string ⟨#[]⟩, .int .i64 0, .int .i64 0, .slice none 0 0] 24)) (.cells #[.string sX, .int .i64 1, .int .i64 life, .slice none 0 0] 24)
    rw [show (w.alloc (.cells #[.string ⟨#[]⟩, .int .i64 0, .int .i64 0, .slice none 0 0] 24)).heap.size = w.heap.size + 1 by simp] at this
    exact this
theorem AdW.lt {life : Int} {v : Value} {pre : List Int} {w W : World} (h : AdW life v pre w W) : w.heap.size + 1 < W.heap.size := (Array.getElem?_eq_some_iff.1 h.box).1
/-- One number more. -/
theorem AdW.push {life : Int} {v v' : Value} {pre : List Int} {w W w6 : World} {o : Obj} (x : Int) (h : AdW life v pre w W) (hown : w6.ownsRow (w.heap.size + 2) 48 3 v' (pre.length + 1) (rowD (pre.map ad1) ++ valsD (ad1 x))) (hg : (W.alloc o).grownBy w6 v.ownBlock) :
    AdW life v' (pre ++ [x]) w (w6.setCell ⟨w.heap.size + 1, 3, none⟩ v') := by
  have hl := h.lt
  have hne : ∀ k, k < w.heap.size + 2 → some k ≠ v.ownBlock := fun k hk e => by
    have := (h.own.lt k e.symm).1
    omega
  have hB : ∀ k, k < w.heap.size + 2 → w6.heap[k]? = W.heap[k]? := fun k hk => (hg.block k (by simp; omega) (hne k hk)).trans (heap_alloc_old _ _ (by omega))
  have b6 := (hB (w.heap.size + 1) (by omega)).trans h.box
  obtain ⟨g, cap, cur, hv, hg1, hg2, hg3, hg4⟩ := own_data hown (by omega)
  refine ⟨?_, (heap_setCell_other w6 ⟨w.heap.size + 1, 3, none⟩ _ _ (by simp)).trans ((hB _ (by omega)).trans h.res), heap_setCell_same w6 (w.heap.size + 1) 3 _ _ v' b6, ?_⟩
  · have b1 : Below w.heap.size w w6 := ⟨hg.os.trans h.bel.os, hg.tape.trans h.bel.tape, hg.output.trans h.bel.output, Nat.le_trans h.bel.size (Nat.le_trans (by simp) hg.size), fun k hk => (hB k (by omega)).trans (h.bel.block k hk)⟩
    exact b1.setCell (p := ⟨w.heap.size + 1, 3, none⟩) (by simp) _
  · rw [List.map_append, rowD_append, List.length_append]
    have hr : rowD ([x].map ad1) = valsD (ad1 x) := by simp [rowD]
    rw [hr]
    refine hown.kept (row := some (w.heap.size + 1)) (gset _ _ _ _) (.inr ?_)
    rw [hv]
    simp [Value.ownBlock]
    omega
theorem set4 {W : World} {q : Nat} {o0 o1 o2 o3 : Value} {t : TypeId} (a b c d : Value) (h : W.heap[q]? = some (Obj.cells #[o0, o1, o2, o3] t (0, 0))) :
    ((((W.setCell ⟨q, 0, none⟩ a).setCell ⟨q, 1, none⟩ b).setCell ⟨q, 2, none⟩ c).setCell ⟨q, 3, none⟩ d).heap[q]? = some (Obj.cells #[a, b, c, d] t (0, 0)) := by
  have h1 := heap_setCell_same W q 0 _ _ a h
  have h2 := heap_setCell_same _ q 1 _ _ b h1
  have h3 := heap_setCell_same _ q 2 _ _ c h2
  exact heap_setCell_same _ q 3 _ _ d h3
theorem below4 {n : Nat} {w W : World} {q : Nat} (h : Below n w W) (hq : n ≤ q) (a b c d : Value) : Below n w ((((W.setCell ⟨q, 0, none⟩ a).setCell ⟨q, 1, none⟩ b).setCell ⟨q, 2, none⟩ c).setCell ⟨q, 3, none⟩ d) :=
  (((h.setCell (p := ⟨q, 0, none⟩) hq a).setCell (p := ⟨q, 1, none⟩) hq b).setCell (p := ⟨q, 2, none⟩) hq c).setCell (p := ⟨q, 3, none⟩) hq d
theorem own1 {W : World} {B q j n : Nat} {e : TypeId} {k : Nat} {v : Value} {l : List Value} (h : W.ownsRow B e k v n l) (hq : q < B) (x : Value) : (W.setCell ⟨q, j, none⟩ x).ownsRow B e k v n l :=
  h.kept (row := some q) (gset _ _ _ _) (by
    cases hb : v.ownBlock with
    | none => exact .inl rfl
    | some r =>
      refine .inr fun e => ?_
      have := (h.lt r hb).1
      cases e
      omega)
theorem own4 {W : World} {B q n : Nat} {e : TypeId} {k : Nat} {v : Value} {l : List Value} (h : W.ownsRow B e k v n l) (hq : q < B) (a b c d : Value) : ((((W.setCell ⟨q, 0, none⟩ a).setCell ⟨q, 1, none⟩ b).setCell ⟨q, 2, none⟩ c).setCell ⟨q, 3, none⟩ d).ownsRow B e k v n l :=
  own1 (own1 (own1 (own1 h hq a) hq b) hq c) hq d
theorem AdW.grown {life : Int} {v : Value} {pre : List Int} {w W w6 : World} {o : Obj} (h : AdW life v pre w W) (hg : (W.alloc o).grownBy w6 v.ownBlock) :
    w6.heap[w.heap.size + 1]? = some (Obj.cells #[.string sX, .int .i64 1, .int .i64 life, v] 24 (0, 0)) := by
  have hl := h.lt
  refine (hg.block _ (by simp; omega) (fun e => ?_)).trans ((heap_alloc_old _ _ (by omega)).trans h.box)
  have := (h.own.lt _ e.symm).1
  omega
/-- What address returns. -/
def AddrTo (life : Int) (xs : List Int) (w : World) (e : Ending) (w' : World) : Prop :=
  ∃ v, e = .returned (.agg #[.string sX, .int .i64 1, .int .i64 life, v]) ∧ SlD v (xs.map ad1) w' ∧ Below w.heap.size w w'
theorem news_d (W : World) (d : Dt) (t : TypeId) : ∀ (j : Nat) (u : Value), (valsD d)[j]? = some u → (W.alloc (.cells #[.string d.1, .int .i64 d.2.1, .int .i64 d.2.2] t)).cell? ((⟨W.heap.size, 0, none⟩ : Addr).add j) = some u := fun j u hj => by
  have h : (W.alloc (.cells #[.string d.1, .int .i64 d.2.1, .int .i64 d.2.2] t)).heap[W.heap.size]? = some (Obj.cells #[.string d.1, .int .i64 d.2.1, .int .i64 d.2.2] t (0, 0)) := heap_alloc_new W _
  rw [Go.WideShapes.add_plain, Nat.zero_add]
  refine cell_of_blk h j u ?_
  rw [← Array.getElem?_toList]
  exact hj
theorem one_d (d : Dt) : ∀ u ∈ valsD d, u.oneCell' = true := fun u h => by
  simp [valsD] at h
  rcases h with rfl | rfl | rfl <;> rfl

set_option maxHeartbeats 2000000 in
set_option maxRecDepth 100000 in
theorem address_any (life : Int) (xs : List Int) (v : Value) (w : World) (hv : SlN v xs w) (hn : xs.length ≤ 100) :
    Calls Tryd.prog 22 #[.int .i64 life, v] w (AddrTo life xs w) := by
  obtain ⟨p, c, rfl⟩ := hv.form
  obtain ⟨n, hln⟩ : ∃ n, xs.length = n := ⟨_, rfl⟩
  rw [hln] at hv hn ⊢
  have HL := Lib.hid hln
  have HV := Lib.hid hv
  have HW0 := Lib.hid (adW life w)
  obtain ⟨i0, hi, hz0, hz1, hz2⟩ := info_parts infoDD
  have HI := Lib.hid hi
  have HZ0 := Lib.hid hz0
  have HZ1 := Lib.hid hz1
  have HZ2 := Lib.hid hz2
  clear hln hv hi hz0 hz1 hz2
  go_enter Tryd.func22, Tryd.ntmps22
  go_wp2
  go_loopw [7, 12] (fun s7 s12 wr => ∃ (i : Nat) (vs : Value), i ≤ n ∧ s12 = .int .i64 i ∧ Hid (AdW life vs (xs.take i) w wr)) (fun _ s12 _ => n - (intOf s12).toNat)
  case atStart => exact ⟨0, _, Nat.zero_le _, rfl, HW0⟩
  case round =>
    obtain ⟨i, vs, hi, rfl, HW⟩ := hrel
    have b0 := cell_of_blk HW.out.box 0 (.string sX) rfl
    have b1 := cell_of_blk HW.out.box 1 (.int .i64 1) rfl
    have b2 := cell_of_blk HW.out.box 2 (.int .i64 life) rfl
    have b3 := cell_of_blk HW.out.box 3 vs rfl
    have f3 := frz HW.out.box 3
    have z1 := HW.out.lt
    by_cases h1 : i < n
    · have ia : i < xs.length := by rw [HL.out]; exact h1
      have ga : xs[i]? = some xs[i] := List.getElem?_eq_getElem ia
      obtain ⟨g, off, rfl, hg, hc⟩ := (HV.out.keep HW.out.bel).at_ (by omega)
      have c0 := hc i _ ga
      have HT : Hid (xs.take (i + 1) = xs.take i ++ [xs[i]]) := Lib.hid (by rw [List.take_add_one, ga]; rfl)
      generalize xs[i] = x at *
      have hi1 : (i : Int) < (n : Int) := by omega
      have hi0 : (0 : Int) ≤ (i : Int) := by omega
      have HK : Hid ((xs.take i).length = i) := Lib.hid (by rw [List.length_take]; omega)
      have hk1 : i + 1 ≤ 101 := by omega
      clear hc ga ia
      go_wp2_with (at_builtin; refine wpList_append_own _ rfl (.tmp 17) (.tmp 20) 22 rfl (w.heap.size + 2) 48 i0 zDD 3 32 Tryd.underlying22 HI.out HZ0.out HZ1.out HZ2.out rfl (by decide) vs (xs.take i).length (rowD ((xs.take i).map ad1)) rfl (HW.out.own.alloc _) ⟨wr.heap.size, 0, none⟩ 1 1 (valsD (ad1 x)) rfl rfl (news_d wr (ad1 x) 48) (one_d _) (by rw [HK.out]; unfold maxLen; omega) (by rw [HK.out]; omega) (by simp; omega) ?_; intro v' w6 hown hgrow hiff; clear hiff; have hbx6 := HW.out.grown hgrow; have b3 := cell_of_blk hbx6 3 vs rfl; have f3 := frz hbx6 3; clear hbx6; have hw6 := HW.out.push x hown hgrow; rw [HK.out] at hown; obtain ⟨g2, cap2, cur2, rfl, _, _, _, _⟩ := own_data hown (by omega); clear hown hgrow; have HW6 := Lib.hid hw6; clear hw6)
      go_roundw
      case rel => exact ⟨i + 1, _, by omega, by go_num, Lib.hid (by rw [HT.out]; exact HW6.out)⟩
      case measure => simp [intOf]; omega
    · obtain rfl : i = n := by omega
      have r0 := cell_of_blk HW.out.res 0 (.string ⟨#[]⟩) rfl
      have r1 := cell_of_blk HW.out.res 1 (.int .i64 0) rfl
      have r2 := cell_of_blk HW.out.res 2 (.int .i64 0) rfl
      have r3 := cell_of_blk HW.out.res 3 (.slice none 0 0) rfl
      have rf0 := frz HW.out.res 0
      have rf1 := frz HW.out.res 1
      have rf2 := frz HW.out.res 2
      have rf3 := frz HW.out.res 3
      obtain ⟨pv, m, cv, hvs⟩ : ∃ p m c, vs = .slice p m c := by
        obtain ⟨p', c', h⟩ := (own_SlD (l := (xs.take i).map ad1) (by rw [List.length_map]; exact HW.out.own)).form
        exact ⟨p', _, c', h⟩
      subst hvs
      go_wp2
      have hx := set4 (.string sX) (.int .i64 1) (.int .i64 life) (.slice pv m cv) HW.out.res
      have hbx := below4 HW.out.bel (q := w.heap.size) (Nat.le_refl _) (.string sX) (.int .i64 1) (.int .i64 life) (.slice pv m cv)
      have hT : xs.take i = xs := List.take_of_length_le (by rw [HL.out]; exact Nat.le_refl _)
      have hown := HW.out.own
      have HE : Hid (SlD (.slice pv m cv) (xs.map ad1) ((((wr.setCell ⟨w.heap.size, 0, none⟩ (.string sX)).setCell ⟨w.heap.size, 1, none⟩ (.int .i64 1)).setCell ⟨w.heap.size, 2, none⟩ (.int .i64 life)).setCell ⟨w.heap.size, 3, none⟩ (.slice pv m cv))) := Lib.hid (by
        have h2 : (((((wr.setCell ⟨w.heap.size, 0, none⟩ (.string sX)).setCell ⟨w.heap.size, 1, none⟩ (.int .i64 1)).setCell ⟨w.heap.size, 2, none⟩ (.int .i64 life)).setCell ⟨w.heap.size, 3, none⟩ (.slice pv m cv))).ownsRow (w.heap.size + 2) 48 3 (.slice pv m cv) (xs.take i).length (rowD ((xs.take i).map ad1)) :=
          own4 hown (by omega) _ _ _ _
        have h3 := own_SlD (l := (xs.take i).map ad1) (by rw [List.length_map]; exact h2)
        rw [hT] at h3
        exact h3)
      clear hown
      generalize ((((World.setCell _ _ _).setCell _ _).setCell _ _).setCell _ _) = W' at *
      have x0 := cell_of_blk hx 0 (.string sX) rfl
      have x1 := cell_of_blk hx 1 (.int .i64 1) rfl
      have x2 := cell_of_blk hx 2 (.int .i64 life) rfl
      have x3 := cell_of_blk hx 3 (.slice pv m cv) rfl
      refine bodyPost_ret (v := .agg #[.string sX, .int .i64 1, .int .i64 life, .slice pv m cv]) (by simp [results, Tryd.f22, go_sem, x0, x1, x2, x3]) rfl ⟨_, rfl, HE.out, hbx⟩
end Go.Proofs.YtmnbcjchfbfngaaDoor
