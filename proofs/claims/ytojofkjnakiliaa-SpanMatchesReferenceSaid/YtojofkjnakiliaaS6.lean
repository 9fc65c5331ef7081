/- The contract of ends of package span: a closure over a row of all ends, in the order of time; no condition beyond those that each theorem names. -/
import Derived.Test.YtojofkjnakiliaaS5
import Derived.Shelf.SlSortCmp.WholeK
import Derived.RangeFuncBox
import Derived.Lib.OwnBridge
import Derived.Lib.AppendIntMem
import Derived.Laws.MakeOwn
namespace Go.Proofs.Ytojofkjnakiliaa
open Go.RowKit Go.Shelf Go.Sort
open SpP

def valsE (x : Ev) : List Value := [.int .i64 x.1, .int .i64 x.2.1, .int .i64 x.2.2]
def rowE (l : List Ev) : List Value := l.flatMap valsE
theorem rowE_cons (t : Ev) (l : List Ev) : rowE (t :: l) = valsE t ++ rowE l := rfl
theorem rowE_append (a b : List Ev) : rowE (a ++ b) = rowE a ++ rowE b := by simp [rowE]
theorem rowE_len (l : List Ev) : (rowE l).length = l.length * 3 := by
  induction l with
  | nil => rfl
  | cons s r ih => rw [rowE_cons, List.length_append, ih]; simp [valsE]; omega
theorem rowE_get : ∀ (l : List Ev) (i f : Nat) (t : Ev), l[i]? = some t → f < 3 → (rowE l)[i * 3 + f]? = (valsE t)[f]?
  | [], _, _, _, h, _ => by simp at h
  | a :: r, 0, f, t, h, hf => by
    simp at h; subst h
    rw [rowE_cons, List.getElem?_append_left (by simp [valsE]; omega), Nat.zero_mul, Nat.zero_add]
  | a :: r, i + 1, f, t, h, hf => by
    rw [rowE_cons, List.getElem?_append_right (by simp [valsE]; omega), show (i + 1) * 3 + f - (valsE a).length = i * 3 + f by simp [valsE]; omega]
    exact rowE_get r i f t (by simpa using h) hf
theorem evA_snoc {l : List Sp} {i : Nat} {s : Sp} (h : l[i]? = some s) : evA (l.take (i + 1)) = evA (l.take i) ++ [(s.1, 1, 0), (s.2, -1, 0)] := by
  rw [List.take_add_one, h]
  unfold evA
  rw [List.flatMap_append]
  rfl
theorem evB_snoc {l : List Sp} {i : Nat} {s : Sp} (h : l[i]? = some s) : evB (l.take (i + 1)) = evB (l.take i) ++ [(s.1, 0, 1), (s.2, 0, -1)] := by
  rw [List.take_add_one, h]
  unfold evB
  rw [List.flatMap_append]
  rfl
/-- A row of ends, of which a variable's box holds a slice. -/
def EC (B : Nat) (d : List Ev) (W : World) : Prop := ∃ g cap, W.cell? ⟨B, 0, none⟩ = some (.slice (some ⟨g, 0, none⟩) d.length cap) ∧ B < W.heap.size ∧ g < W.heap.size ∧
  ∀ i x, d[i]? = some x → W.cell? ⟨g, i * 3, none⟩ = some (.int .i64 x.1) ∧ W.cell? ⟨g, i * 3 + 1, none⟩ = some (.int .i64 x.2.1) ∧ W.cell? ⟨g, i * 3 + 2, none⟩ = some (.int .i64 x.2.2)
theorem EC.keep {B : Nat} {d : List Ev} {W W' : World} (h : EC B d W) (hb : Below W.heap.size W W') : EC B d W' := by
  obtain ⟨g, cap, h1, h2, h3, h4⟩ := h
  refine ⟨g, cap, (hb.cell (p := ⟨B, 0, none⟩) h2).trans h1, Nat.lt_of_lt_of_le h2 hb.size, Nat.lt_of_lt_of_le h3 hb.size, fun i x hx => ?_⟩
  obtain ⟨c0, c1, c2⟩ := h4 i x hx
  exact ⟨(hb.cell (p := ⟨g, i * 3, none⟩) h3).trans c0, (hb.cell (p := ⟨g, i * 3 + 1, none⟩) h3).trans c1, (hb.cell (p := ⟨g, i * 3 + 2, none⟩) h3).trans c2⟩

theorem ltAt (x y : Ev) : ltOf (fun x y : Ev => Lib.compareInt x.1 y.1) x y = decide (x.1 < y.1) := by
  unfold ltOf Lib.compareInt
  by_cases h1 : x.1 < y.1
  · simp [h1]
  · by_cases h2 : y.1 < x.1 <;> simp [h1, h2]
theorem swoAt : SWO (ltOf fun x y : Ev => Lib.compareInt x.1 y.1) where
  irrefl x := by rw [ltAt]; simp
  trans x y z h1 h2 := by rw [ltAt] at *; simp at *; omega
  ntrans x y z h1 h2 := by rw [ltAt] at *; simp at *; omega

set_option maxHeartbeats 1000000 in
theorem cmp_end (x y : Ev) (W : World) : Calls Try.prog 44 #[.agg #[.int .i64 x.1, .int .i64 x.2.1, .int .i64 x.2.2], .agg #[.int .i64 y.1, .int .i64 y.2.1, .int .i64 y.2.2]] W fun e w' => e = .returned (.int .i64 (Lib.compareInt x.1 y.1)) ∧ ∃ q os', w' = grow (W.drewN q) os' := by
  have hcon := fun W' => AnyG.cmp_Compare_int Try.cmpInt x.1 y.1 W'
  change ∀ W', Calls Try.prog 45 _ _ _ at hcon
  generalize Lib.compareInt x.1 y.1 = r at hcon ⊢
  go_enter Try.func44, Try.ntmps44
  go_wp2_with (go_at_call 45; refine (hcon _).mono ?_; rintro e w' ⟨rfl, rfl⟩)
  go_ret
  exact ⟨rfl, 0, _, by rw [alloc_eq_grow, alloc_eq_grow, grow_grow]; rfl⟩
theorem cmp_lays (blk off size : Nat) (w : World) : CmpLays Try.prog 44 #[] valsE 3 (fun x y => Lib.compareInt x.1 y.1) blk off size w :=
  fun _ _ _ _ x y => cmp_end x y _

theorem holds_row {W : World} {base g cap : Nat} {e : TypeId} {d : List Ev} (h : W.ownsRow base e 3 (.slice (some ⟨g, 0, none⟩) d.length cap) d.length (rowE d)) : HoldsK valsE 3 W g 0 d.toArray := by
  intro t ht
  rw [size_flatK] at ht
  have ht' : t < d.length * 3 := by simpa using ht
  have hi : t / 3 < d.length := by omega
  have hg : d[t / 3]? = some d[t / 3] := List.getElem?_eq_getElem hi
  have hr := rowE_get d (t / 3) (t % 3) _ hg (by omega)
  rw [show t / 3 * 3 + t % 3 = t by omega] at hr
  rw [get_flatK _ _ _ _ ht, Nat.zero_add]
  refine ⟨?_, h.frozenAt t⟩
  rw [h.cellAt t ht', hr]
  have hd : d.toArray[t / 3]! = d[t / 3] := by simp [hi]
  have hv : (valsE d[t / 3])[t % 3]? = some (valsE d[t / 3])[t % 3]! := by
    have : t % 3 < (valsE d[t / 3]).length := by show t % 3 < 3; omega
    simp [this]
  rw [hd, hv]
  rfl
theorem perm_in {d d' : Array Ev} (h : PermIn 0 d.size d d') : d'.toList.Perm d.toList := by
  obtain ⟨h1, _, h3⟩ := h
  rw [← h1] at h3
  simp only [Array.extract_size] at h3
  rw [h1, Array.extract_size] at h3
  exact h3
theorem sorted_in {d : Array Ev} {n : Nat} (hn : n = d.size) (h : SortedIn (ltOf fun x y : Ev => Lib.compareInt x.1 y.1) 0 n d) : d.toList.Pairwise (fun x y => x.1 ≤ y.1) := by
  subst hn
  rw [List.pairwise_iff_getElem]
  intro i j hi hj hij
  have h2 := h i j (Nat.zero_le _) hij (by simpa using hj)
  rw [ltAt, decide_eq_false_iff_not] at h2
  simp only [Array.length_toList] at hi hj
  rw [getElem!_pos d i hi, getElem!_pos d j hj] at h2
  simp only [Array.getElem_toList]
  omega
theorem below_sort {b : Nat} {W : World} {g n : Nat} {d : Array Ev} {os : Array Obj} (hg : b ≤ g) (hb : b ≤ W.heap.size) : RowKit.Below b W (sortWorldK valsE 3 W g 0 n d os) := by
  have h1 : RowKit.Below b W (putRowK valsE 3 (Sort.ahead W n) g 0 d) := Lib.below_putRow (RowKit.Below.refl b W) hg
  exact h1.trans (Lib.below_grow b _ (Nat.le_trans hb h1.size) 0 os)

/-- What ends returns. -/
def EndsPost (a b : List Sp) (w : World) (e : Ending) (w' : World) : Prop := ∃ B d, e = .returned (.func (.func 46) #[] #[.pointer (some ⟨B, 0, none⟩)]) ∧ d.Perm (evs a b) ∧ d.Pairwise (fun x y => x.1 ≤ y.1) ∧ EC B d w' ∧ RowKit.Below w.heap.size w w'

theorem info_parts {T : TypeId} {z : Value} {s b : Nat} (h : (Try.prog.info? T).map (fun i => (i.zero, i.size, i.bytes)) = some (some z, s, b)) : ∃ i, Try.prog.info? T = some i ∧ i.zero = some z ∧ i.size = s ∧ i.bytes = b := by
  obtain ⟨i, h1, h2⟩ := Option.map_eq_some_iff.1 h
  simp only [Prod.mk.injEq] at h2
  exact ⟨i, h1, h2.1, h2.2.1, h2.2.2⟩
def zEnd : Value := .agg #[.int .i64 0, .int .i64 0, .int .i64 0]
theorem infoE : (Try.prog.info? 55).map (fun i => (i.zero, i.size, i.bytes)) = some (some zEnd, 3, 24) := by kernel_rfl
theorem made_ends (w : World) (na nb : Nat) (ha : na ≤ 20000) (hb : nb ≤ 20000) :
    (Instr.makeSlice 56 (.int .i64 0) (.int .i64 (2 * (na : Int) + 2 * (nb : Int)))).run Try.prog w = .ok (.slice (some ⟨w.heap.size, 0, none⟩) 0 (2 * na + 2 * nb)) (w.alloc (.cells (madeCells zEnd.cells ((2 * na + 2 * nb) * 3)) 55)) := by
  obtain ⟨i, h1, h2, h3, h4⟩ := info_parts infoE
  have := run_makeSlice (P := Try.prog) (w := w) 56 55 i zEnd Try.underlying56 h1 h2 .i64 .i64 0 (2 * (na : Int) + 2 * (nb : Int)) (by omega) (by omega) (by rw [h3]; omega) (by rw [h4]; omega) (by omega)
  rw [h3] at this
  rw [this]
  have e : (2 * (na : Int) + 2 * (nb : Int)).toNat = 2 * na + 2 * nb := by omega
  rw [e]
  rfl
theorem owns_made (w : World) (na nb : Nat) (ha : na ≤ 20000) (hb : nb ≤ 20000) : (w.alloc (.cells (madeCells zEnd.cells ((2 * na + 2 * nb) * 3)) 55)).ownsRow w.heap.size 55 3 (.slice (some ⟨w.heap.size, 0, none⟩) 0 (2 * na + 2 * nb)) 0 (rowE []) :=
  World.ownsRow_made w _ _ (Nat.le_refl _) (by unfold maxLen; omega) (size_madeCells _ _)

/-- A variable's box that holds a slice of ends, which is the call's own. -/
def EL (base B : Nat) (l : List Ev) (W : World) : Prop := ∃ g cap, Boxed W B 56 (.slice (some ⟨g, 0, none⟩) l.length cap) ∧ W.ownsRow base 55 3 (.slice (some ⟨g, 0, none⟩) l.length cap) l.length (rowE l)
theorem news_e (W : World) (x y : Ev) (T : TypeId) : ∀ j u, (valsE x ++ valsE y)[j]? = some u → (W.alloc (.cells #[.int .i64 x.1, .int .i64 x.2.1, .int .i64 x.2.2, .int .i64 y.1, .int .i64 y.2.1, .int .i64 y.2.2] T)).cell? ((⟨W.heap.size, 0, none⟩ : Addr).add j) = some u := by
  intro j u h
  rw [Go.WideShapes.add_plain, Nat.zero_add, World.cell?_alloc_at _ _ _ _ rfl]
  simpa [valsE] using h
theorem one_e (x y : Ev) : ∀ u ∈ valsE x ++ valsE y, u.oneCell' = true := by
  intro u hu
  simp [valsE] at hu
  rcases hu with rfl | rfl | rfl | rfl | rfl | rfl <;> rfl
theorem el_push {base B : Nat} {l : List Ev} {W w6 : World} {g cap g' cap' : Nat} (o tmp : Obj) (hbx : Boxed W B 56 (.slice (some ⟨g, 0, none⟩) l.length cap)) (how : W.ownsRow base 55 3 (.slice (some ⟨g, 0, none⟩) l.length cap) l.length (rowE l))
    (hb : base ≤ W.heap.size) (hB : base ≤ B) (x y : Ev) (h6 : w6.ownsRow base 55 3 (.slice (some ⟨g', 0, none⟩) (l.length + 2) cap') (l.length + 2) (rowE l ++ (valsE x ++ valsE y)))
    (hg : ((W.alloc o).alloc tmp).grownBy w6 (Value.slice (some ⟨g, 0, none⟩) l.length cap).ownBlock) :
    w6.cell? ⟨B, 0, none⟩ = some (.slice (some ⟨g, 0, none⟩) l.length cap) ∧ w6.frozen? ⟨B, 0, none⟩ = false ∧ EL base B (l ++ [x, y]) (w6.setCell ⟨B, 0, none⟩ (.slice (some ⟨g', 0, none⟩) (l.length + 2) cap')) ∧ RowKit.Below base W (w6.setCell ⟨B, 0, none⟩ (.slice (some ⟨g', 0, none⟩) (l.length + 2) cap')) := by
  obtain ⟨h1, h2, h3, _, h5⟩ := Boxed.appended (hbx.alloc o) (by decide) (how.alloc o) (by simp; omega) hB h6 hg
  have hl : (l ++ [x, y]).length = l.length + 2 := by simp
  have hr : rowE (l ++ [x, y]) = rowE l ++ (valsE x ++ valsE y) := by rw [rowE_append]; rfl
  refine ⟨h1.cell, h1.frozen, ⟨g', cap', by rw [hl]; exact h2, by rw [hl, hr]; exact h3⟩, ((RowKit.Below.refl base W).alloc hb o).trans h5⟩
theorem el_bound {base B : Nat} {l : List Ev} {W : World} (h : EL base B l W) : B < W.heap.size := by
  obtain ⟨g, cap, h1, _⟩ := h
  exact h1.lt
theorem len_two {k : Nat} (h : k ≤ 80000) : k + 2 ≤ maxLen := by unfold maxLen; omega

theorem cell_sort {W : World} {g n B off : Nat} {d : Array Ev} {os : Array Obj} (hB : B < W.heap.size) (hne : B ≠ g) : (sortWorldK valsE 3 W g 0 n d os).cell? ⟨B, off, none⟩ = W.cell? ⟨B, off, none⟩ := by
  unfold sortWorldK
  rw [cell?_grow _ _ _ (by rw [size_putRowK]; exact hB), cell?_putRowK_other _ _ _ _ _ _ _ (by exact hne)]
  rfl
theorem el_sorted {w W : World} {B g cap : Nat} {a b : List Sp} (hbx : Boxed W B 56 (.slice (some ⟨g, 0, none⟩) (evs a b).length cap)) (how : W.ownsRow w.heap.size 55 3 (.slice (some ⟨g, 0, none⟩) (evs a b).length cap) (evs a b).length (rowE (evs a b)))
    (hne : some B ≠ (Value.slice (some ⟨g, 0, none⟩) (evs a b).length cap).ownBlock) (hg : w.heap.size ≤ g) (hlt : g < W.heap.size) (hw : RowKit.Below w.heap.size w W) (d' : Array Ev) (n : Nat) (os : Array Obj) (hp : PermIn 0 (evs a b).toArray.size (evs a b).toArray d') (hs : SortedIn (ltOf fun x y : Ev => Lib.compareInt x.1 y.1) 0 (evs a b).toArray.size d') :
    EndsPost a b w (.returned (.func (.func 46) #[] #[.pointer (some ⟨B, 0, none⟩)])) (sortWorldK valsE 3 W g 0 n d' os) := by
  have hne2 : B ≠ g := fun q => hne (by rw [q]; rfl)
  have hsz : d'.size = (evs a b).toArray.size := hp.1
  have hlen : d'.toList.length = (evs a b).length := by rw [Array.length_toList, hsz]; rfl
  have hH := holdsK_sortWorldK_c valsE 3 W g 0 (evs a b).toArray d' n os (holds_row how) hlt hsz
  have hws := size_sortWorldK_c valsE 3 W g 0 n d' os
  have hpm : d'.toList.Perm (evs a b) := perm_in hp
  refine ⟨B, d'.toList, rfl, hpm, sorted_in hsz.symm hs, ⟨g, cap, ?_, Nat.lt_of_lt_of_le hbx.lt hws, Nat.lt_of_lt_of_le hlt hws, fun i x hx => ?_⟩, ?_⟩
  · rw [cell_sort hbx.lt hne2, hlen]
    exact hbx.cell
  · have hi : i < d'.size := by have := (List.getElem?_eq_some_iff.1 hx).1; simpa using this
    have hx2 : d'[i]! = x := by
      rw [getElem!_pos d' i hi]
      simpa [Array.getElem?_toList, hi] using hx
    have c0 := (hH.cell hi (show 0 < 3 by omega)).1
    have c1 := (hH.cell hi (show 1 < 3 by omega)).1
    have c2 := (hH.cell hi (show 2 < 3 by omega)).1
    rw [hx2, Nat.zero_add] at c0 c1 c2
    exact ⟨c0, c1, c2⟩
  · exact hw.trans (below_sort hg hw.size)
theorem sort_ends {W : World} {B g cap base : Nat} {l : List Ev} (_hbx : Boxed W B 56 (.slice (some ⟨g, 0, none⟩) l.length cap)) (how : W.ownsRow base 55 3 (.slice (some ⟨g, 0, none⟩) l.length cap) l.length (rowE l)) (hlt : g < W.heap.size) (hl : l.length ≤ 80000) :
    Hid (Calls Try.prog 43 #[.slice (some ⟨g, 0, none⟩) l.length cap, .func (.func 44) #[] #[]] W fun e w' => e = .returned (.tuple #[]) ∧ ∃ d' n os, PermIn 0 l.toArray.size l.toArray d' ∧ SortedIn (ltOf fun x y : Ev => Lib.compareInt x.1 y.1) 0 l.toArray.size d' ∧ w' = sortWorldK valsE 3 W g 0 n d' os) := by
  have eg : ∀ args w, (callFunc 44 args).run Try.prog w = .ok (.enter 44 args) w := enters_of Try.func44 (by kernel_rfl) rfl
  have hcon := AnyQ.slices_SortFunc Try.sortEnd 3 Try.isAgg55 Try.sizeOf55 valsE (fun _ => rfl) (fun x v hv => by simp [valsE] at hv; rcases hv with rfl | rfl | rfl <;> rfl) (fun x y : Ev => Lib.compareInt x.1 y.1) swoAt 44 #[] g 0 cap l.toArray W eg (cmp_lays g 0 l.toArray.size W) (holds_row how) hlt (by simp; omega)
  exact Lib.hid hcon

set_option maxHeartbeats 2000000 in
set_option maxRecDepth 100000 in
theorem ends_any {va vb : Value} {a b : List Sp} {w : World} (ha : SlS va a w) (hb : SlS vb b w) (la : a.length ≤ 20000) (lb : b.length ≤ 20000) :
    Calls Try.prog 28 #[va, vb] w (EndsPost a b w) := by
  have SA := Lib.hid ha
  have SB := Lib.hid hb
  obtain ⟨pa, ca, rfl⟩ := ha.form
  obtain ⟨pb, cb, rfl⟩ := hb.form
  clear ha hb
  have hmk := made_ends w a.length b.length la lb
  have OW := Lib.hid (owns_made w a.length b.length la lb)
  obtain ⟨na, hna⟩ : ∃ n, a.length = n := ⟨_, rfl⟩
  obtain ⟨nb, hnb⟩ : ∃ n, b.length = n := ⟨_, rfl⟩
  rw [hna] at hmk OW la SA ⊢
  rw [hnb] at hmk OW lb SB ⊢
  have HNA := Lib.hid hna
  have HNB := Lib.hid hnb
  clear hna hnb
  generalize hc0 : madeCells zEnd.cells ((2 * na + 2 * nb) * 3) = c0 at *
  generalize hcap : 2 * na + 2 * nb = cap at *
  clear hc0
  have HCAP := Lib.hid hcap
  clear hcap
  obtain ⟨i0, hi0, hz0, hz1, hz2⟩ := info_parts infoE
  have HI := Lib.hid hi0
  have HZ0 := Lib.hid hz0
  have HZ1 := Lib.hid hz1
  have HZ2 := Lib.hid hz2
  clear hi0 hz0 hz1 hz2
  go_enter Try.func28, Try.ntmps28
  go_wp2
  have hE0 : EL w.heap.size (w.heap.size + 1) [] ((w.alloc (.cells c0 55)).alloc (.cells #[.slice (some ⟨w.heap.size, 0, none⟩) 0 cap] 56)) :=
    ⟨w.heap.size, cap, by have := Boxed.new (w.alloc (.cells c0 55)) 56 (.slice (some ⟨w.heap.size, 0, none⟩) 0 cap); rwa [World.size_alloc] at this, OW.out.alloc _⟩
  have hB0 : RowKit.Below w.heap.size w ((w.alloc (.cells c0 55)).alloc (.cells #[.slice (some ⟨w.heap.size, 0, none⟩) 0 cap] 56)) := ((RowKit.Below.refl _ w).alloc (Nat.le_refl _) _).alloc (by simp) _
  generalize ((w.alloc (.cells c0 55)).alloc (.cells #[.slice (some ⟨w.heap.size, 0, none⟩) 0 cap] 56)) = W0 at *
  obtain ⟨B, hB⟩ : ∃ B, w.heap.size + 1 = B := ⟨_, rfl⟩
  rw [hB] at hE0 ⊢
  have HBB := Lib.hid hB
  have HE0 := Lib.hid hE0
  have HB0 := Lib.hid hB0
  clear hB hE0 hB0 OW hmk
  go_loopw [20] (fun s20 wr => ∃ i : Nat, i ≤ na ∧ s20 = .int .i64 i ∧ Hid (EL w.heap.size B (evA (a.take i)) wr) ∧ Hid (RowKit.Below w.heap.size w wr)) (fun s20 _ => na - (intOf s20).toNat)
  case atStart => exact ⟨0, Nat.zero_le _, rfl, HE0, HB0⟩
  case round =>
    obtain ⟨i, hi, rfl, HE, HW⟩ := hrel
    by_cases h1 : i < na
    · have ia : i < a.length := by rw [HNA.out]; exact h1
      have ga : a[i]? = some a[i] := List.getElem?_eq_getElem ia
      have hSAr := SA.out.keep HW.out
      obtain ⟨ba, oa, rfl, hlt, hRS⟩ : ∃ b off, pa = some ⟨b, off, none⟩ ∧ b < wr.heap.size ∧ RS b off a wr := by
        rw [← HNA.out] at hSAr
        exact hSAr.at_ (by omega)
      obtain ⟨a0, a1⟩ := hRS.at_ ga
      have HSN := Lib.hid (evA_snoc ga)
      obtain ⟨g, cap1, hbx, how⟩ := HE.out
      have hlen : (evA (a.take i)).length ≤ 80000 := by rw [evA_len, List.length_take]; omega
      have hws : w.heap.size ≤ wr.heap.size := HW.out.size
      have hbl := hbx.lt
      have hBw : w.heap.size ≤ B := by have := HBB.out; omega
      generalize a[i] = s at *
      obtain ⟨x, y⟩ := s
      simp only at a0 a1
      obtain ⟨L, hL⟩ : ∃ L, evA (a.take i) = L := ⟨_, rfl⟩
      rw [hL] at hbx how hlen HSN
      obtain ⟨k, hk⟩ : ∃ k, L.length = k := ⟨_, rfl⟩
      have HBX := Lib.hid hbx
      have HOW := Lib.hid how
      have hc1 : wr.cell? ⟨B, 0, none⟩ = some (.slice (some ⟨g, 0, none⟩) k cap1) := by rw [← hk]; exact hbx.cell
      have hc2 : (wr.alloc (.cells #[.int .i64 x, .int .i64 y] 34)).cell? ⟨B, 0, none⟩ = some (.slice (some ⟨g, 0, none⟩) k cap1) := by rw [← hk]; exact (hbx.alloc _).cell
      rw [hk] at hlen
      have HK := Lib.hid hk
      clear hSAr ga hRS hbx how hL HE hk
      go_wp2_with (at_builtin; go_loud (refine wpList_append_own _ rfl (.tmp 24) (.tmp 31) 56 rfl w.heap.size 55 i0 zEnd 3 24 Try.underlying56 HI.out HZ0.out HZ1.out HZ2.out rfl (by decide) (.slice (some ⟨g, 0, none⟩) k cap1) k (rowE L) rfl (by rw [← HK.out]; exact (HOW.out.alloc _).alloc _) ⟨wr.heap.size + 1, 0, none⟩ 2 2 (valsE (x, 1, 0) ++ valsE (y, -1, 0)) rfl rfl (by have := news_e (wr.alloc (.cells #[.int .i64 x, .int .i64 y] 34)) (x, 1, 0) (y, -1, 0) 55; rw [World.size_alloc] at this; exact this) (one_e _ _) (len_two hlen) (by omega) (by simp; omega) (fun v' w6 hown' hgrow _ => ?_); obtain ⟨g2, cap2, rfl⟩ := ownsRow_succ hown'; rw [← HK.out] at hown' hgrow; have hpush := el_push _ _ HBX.out HOW.out hws hBw (x, 1, 0) (y, -1, 0) hown' hgrow; rw [HK.out] at hpush; obtain ⟨p1, p2, p3, p4⟩ := hpush; have P3 := Lib.hid p3; have P4 := Lib.hid p4; clear hown' hgrow p3 p4))
      go_roundw
      case rel => exact ⟨i + 1, by omega, by go_num, Lib.hid (by rw [HSN.out]; exact P3.out), Lib.hid (HW.out.trans P4.out)⟩
      case measure => simp [intOf]; omega
    · obtain rfl : i = na := by omega
      have hE1 := HE.out
      rw [List.take_of_length_le (by rw [HNA.out]; exact Nat.le_refl _)] at hE1
      have HE1 : Hid (EL w.heap.size B (evA a ++ evB (b.take 0)) wr) := Lib.hid (by simpa [evB] using hE1)
      have HNA2 := HNA
      clear hE1 HE HE0 HB0
      have HW1 := HW
      clear HW
      generalize wr = w2 at *
      go_wp2
      go_loopw [36] (fun s36 wr => ∃ i : Nat, i ≤ nb ∧ s36 = .int .i64 i ∧ Hid (EL w.heap.size B (evA a ++ evB (b.take i)) wr) ∧ Hid (RowKit.Below w.heap.size w wr)) (fun s36 _ => nb - (intOf s36).toNat)
      case atStart => exact ⟨0, Nat.zero_le _, rfl, HE1, HW1⟩
      case round =>
        obtain ⟨i, hi, rfl, HE, HW⟩ := hrel
        by_cases h1 : i < nb
        · have ia : i < b.length := by rw [HNB.out]; exact h1
          have ga : b[i]? = some b[i] := List.getElem?_eq_getElem ia
          have hSBr := SB.out.keep HW.out
          obtain ⟨bb, ob, rfl, hlt, hRS⟩ : ∃ b' off, pb = some ⟨b', off, none⟩ ∧ b' < wr.heap.size ∧ RS b' off b wr := by
            rw [← HNB.out] at hSBr
            exact hSBr.at_ (by omega)
          obtain ⟨a0, a1⟩ := hRS.at_ ga
          have HSN := Lib.hid (congrArg (evA a ++ ·) (evB_snoc ga))
          obtain ⟨g, cap1, hbx, how⟩ := HE.out
          have hlen : (evA a ++ evB (b.take i)).length ≤ 80000 := by rw [List.length_append, evA_len, evB_len, List.length_take, HNA2.out]; omega
          have hws : w.heap.size ≤ wr.heap.size := HW.out.size
          have hbl := hbx.lt
          have hBw : w.heap.size ≤ B := by have := HBB.out; omega
          generalize b[i] = s at *
          obtain ⟨x, y⟩ := s
          simp only at a0 a1
          obtain ⟨L, hL⟩ : ∃ L, evA a ++ evB (b.take i) = L := ⟨_, rfl⟩
          simp only [← List.append_assoc, hL] at HSN
          rw [hL] at hbx how hlen
          obtain ⟨k, hk⟩ : ∃ k, L.length = k := ⟨_, rfl⟩
          have HBX := Lib.hid hbx
          have HOW := Lib.hid how
          have hc1 : wr.cell? ⟨B, 0, none⟩ = some (.slice (some ⟨g, 0, none⟩) k cap1) := by rw [← hk]; exact hbx.cell
          have hc2 : (wr.alloc (.cells #[.int .i64 x, .int .i64 y] 34)).cell? ⟨B, 0, none⟩ = some (.slice (some ⟨g, 0, none⟩) k cap1) := by rw [← hk]; exact (hbx.alloc _).cell
          rw [hk] at hlen
          have HK := Lib.hid hk
          clear hSBr ga hRS hbx how hL HE hk
          go_wp2_with (at_builtin; go_loud (refine wpList_append_own _ rfl (.tmp 40) (.tmp 47) 56 rfl w.heap.size 55 i0 zEnd 3 24 Try.underlying56 HI.out HZ0.out HZ1.out HZ2.out rfl (by decide) (.slice (some ⟨g, 0, none⟩) k cap1) k (rowE L) rfl (by rw [← HK.out]; exact (HOW.out.alloc _).alloc _) ⟨wr.heap.size + 1, 0, none⟩ 2 2 (valsE (x, 0, 1) ++ valsE (y, 0, -1)) rfl rfl (by have := news_e (wr.alloc (.cells #[.int .i64 x, .int .i64 y] 34)) (x, 0, 1) (y, 0, -1) 55; rw [World.size_alloc] at this; exact this) (one_e _ _) (len_two hlen) (by omega) (by simp; omega) (fun v' w6 hown' hgrow _ => ?_); obtain ⟨g2, cap2, rfl⟩ := ownsRow_succ hown'; rw [← HK.out] at hown' hgrow; have hpush := el_push _ _ HBX.out HOW.out hws hBw (x, 0, 1) (y, 0, -1) hown' hgrow; rw [HK.out] at hpush; obtain ⟨p1, p2, p3, p4⟩ := hpush; have P3 := Lib.hid p3; have P4 := Lib.hid p4; clear hown' hgrow p3 p4))
          go_roundw
          case rel => exact ⟨i + 1, by omega, by go_num, Lib.hid (by rw [HSN.out]; exact P3.out), Lib.hid (HW.out.trans P4.out)⟩
          case measure => simp [intOf]; omega
        · obtain rfl : i = nb := by omega
          have hE2 := HE.out
          rw [List.take_of_length_le (by rw [HNB.out]; exact Nat.le_refl _)] at hE2
          have hlen : (evs a b).length ≤ 80000 := by unfold evs; rw [List.length_append, evA_len, evB_len, HNA2.out, HNB.out]; omega
          obtain ⟨g, cap1, hbx, how⟩ := hE2
          have hbg := hbx.not_row (by decide) how
          have hgl := (how.lt g rfl)
          have hc1 := hbx.cell
          have hfz := el_sorted (w := w) hbx how hbg hgl.1 hgl.2 HW.out
          have hcon := sort_ends hbx how hgl.2 hlen
          change Hid (Calls _ _ #[.slice (some ⟨g, 0, none⟩) (evs a b).length cap1, _] _ _) at hcon
          have hc2 : wr.cell? ⟨B, 0, none⟩ = some (.slice (some ⟨g, 0, none⟩) (evs a b).length cap1) := hc1
          have HF := Lib.hid hfz
          clear HE hbx how hbg hc1 hfz
          go_wp2_with (go_at_call 43; refine hcon.out.mono ?_; rintro e w' ⟨rfl, d', n, os, hp, hs, rfl⟩)
          go_ret
          exact HF.out d' n os hp hs
end Go.Proofs.Ytojofkjnakiliaa
