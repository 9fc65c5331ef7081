/- slices.AppendSeq, Collect and SortedStableFunc at sets; no condition beyond those that each theorem names. -/
import Derived.Test.YtmnbcjchfbfngaaDoorM3
namespace Go.Proofs.YtmnbcjchfbfngaaDoor
set_option linter.unusedSimpArgs false
set_option linter.unusedVariables false
open Go.RowKit Go.Shelf
open NmP
attribute [local go_sem] Oper.semAt_some

def zSet : Value := .agg #[.string ⟨#[]⟩, .int .i64 0, .int .i64 0, .slice none 0 0]
theorem infoST : (Tryd.prog.info? 24).map (fun i => (i.zero, i.size, i.bytes)) = some (some zSet, 4, 56) := by kernel_rfl
theorem one_t (s : Ss) : ∀ u ∈ s.vals, u.oneCell' = true := fun u h => by
  simp [Ss.vals] at h
  rcases h with rfl | rfl | rfl | rfl <;> rfl
theorem news_t (W : World) (s : Ss) (t : TypeId) : ∀ (j : Nat) (u : Value), (s.vals)[j]? = some u → (W.alloc (.cells #[.string s.x, .int .i64 s.t, .int .i64 s.f, .slice s.p s.n s.c] t)).cell? ((⟨W.heap.size, 0, none⟩ : Addr).add j) = some u := fun j u hj => by
  have h : (W.alloc (.cells #[.string s.x, .int .i64 s.t, .int .i64 s.f, .slice s.p s.n s.c] t)).heap[W.heap.size]? = some (Obj.cells #[.string s.x, .int .i64 s.t, .int .i64 s.f, .slice s.p s.n s.c] t (0, 0)) := heap_alloc_new W _
  rw [Go.WideShapes.add_plain, Nat.zero_add]
  refine cell_of_blk h j u ?_
  rw [← Array.getElem?_toList]
  exact hj
/-- What has been collected. -/
def ApI (B : Nat) (pre : List Ss) (W : World) : Prop := ∃ v, Boxed W B 25 v ∧ W.ownsRow B 24 4 v pre.length (rowT pre)
theorem ApI.own (B : Nat) : Own (ApI B) := fun s X Y row hs hg hr => by
  have h := holdsRow_own (β := List Ss) B B 25 24 4 (fun s => s.length) (fun s => rowT s) (fun _ _ => True) s X Y row (by obtain ⟨v, h1, h2⟩ := hs; exact ⟨v, h1, h2, trivial⟩) hg hr
  obtain ⟨v, h1, h2, _⟩ := h
  exact ⟨v, h1, h2⟩
theorem blk_own {β : Type} (Bx : Nat) (cs : Array Value) (t : TypeId) : Own (fun (_ : β) W => W.heap[Bx]? = some (Obj.cells cs t (0, 0))) := fun s X Y row hs hg hr => by
  refine (hg.block Bx (Array.getElem?_eq_some_iff.1 hs).1 (fun e => ?_)).trans hs
  obtain ⟨o, ho, hc⟩ := hr Bx e.symm
  rw [hs] at ho
  cases ho
  cases hc
def CollTo (w : World) (L : List Ss) (e : Ending) (w' : World) : Prop := ∃ v, e = .returned v ∧ w'.ownsRow w.heap.size 24 4 v L.length (rowT L) ∧ Below w.heap.size w w'

set_option maxHeartbeats 4000000 in
set_option maxRecDepth 100000 in
theorem appendSeq_in (n : Nat) (hn : 3 ≤ n) (Bx b off cap : Nat) (L : List Ss) (hL : L.length ≤ 1000000) (w : World) (hb : b < w.heap.size) (hBx : Bx < w.heap.size)
    (hbx : w.cell? ⟨Bx, 0, none⟩ = some (.slice (some ⟨b, off, none⟩) L.length cap)) (hR : RT b off L w) :
    CallsIn Fence.wide n Tryd.prog 71 #[.slice none 0 0, .func (.func 56) #[] #[.pointer (some ⟨Bx, 0, none⟩)]] w (CollTo w L) := by
  have bS := Boxed.new w 25 (.slice none 0 0)
  have hB0 : Below w.heap.size w (w.alloc (.cells #[.slice none 0 0] 25)) := (Below.refl _ w).alloc (Nat.le_refl _) _
  have hst := values_stops (n - 1) (by omega) Bx w.heap.size b off cap L hL hb hBx (w.alloc (.cells #[.slice none 0 0] 25)) (by simp) ((hB0.cell (p := ⟨Bx, 0, none⟩) hBx).trans hbx) (hR.keep hb hB0)
  refine callsIn_of_wp_marks Tryd.func71 rfl trivial ?_ rfl
  simp only [Tryd.ntmps71, List.size_toArray, List.length_cons, List.length_nil, Nat.reduceAdd, Nat.reduceSub, Array.replicate_succ, Array.replicate_zero, List.push_toArray, List.append_toArray, List.nil_append, List.cons_append]
  gi_wp2
  refine wpIn_rangeFunc_ownH rfl (by omega) (gf := 56) (lb := #[.pointer (some ⟨Bx, 0, none⟩)]) rfl trivial (enters_of Tryd.func56 (by kernel_rfl) rfl)
    hst belowK_t (belowK_b (by simp)) (Below.refl _ _) (fun _ => rfl)
    (fun pre W => (ApI w.heap.size pre W ∧ pre.length ≤ 1000000) ∧ Below w.heap.size w W)
    (fun _ _ _ => False)
    (OwnFrom.and (OwnFrom.and (Own.from (ApI.own _) _) (fun _ _ _ _ h _ _ => h)) (ownFrom_below (Nat.le_refl _) (by simp)))
    (fun _ _ _ _ _ hs _ _ => hs)
    ⟨⟨⟨_, bS, World.ownsRow_nil _ _ _ _⟩, Nat.zero_le _⟩, hB0⟩
    (fun x a' W => ∃ By, w.heap.size < By ∧ W.heap[By]? = some (Obj.cells #[.string x.x, .int .i64 x.t, .int .i64 x.f, .slice x.p x.n x.c] 24 (0, 0)) ∧ a' = { tmps := #[.slice none 0 0, .func (.func 56) #[] #[.pointer (some ⟨Bx, 0, none⟩)], .pointer (some ⟨w.heap.size, 0, none⟩), undef, .slice none 0 0, .pointer (some ⟨By, 0, none⟩), .func (.func 56) #[] #[.pointer (some ⟨Bx, 0, none⟩)], .agg #[.string x.x, .int .i64 x.t, .int .i64 x.f, .slice x.p x.n x.c], undef, undef, undef, undef, undef], defers := [] })
    (fun x a' u X Y row hs hg hr => by
      obtain ⟨By, h1, h2, h3⟩ := hs
      exact ⟨By, h1, blk_own (β := Unit) By _ _ () X Y row h2 hg (fun r e => (hr r e).2), h3⟩)
    ?assign ?body ?done ?stop
  case assign =>
    rintro lk pre x W K ⟨⟨hV, hlen⟩, hB⟩ hK
    have hsz := hB.size
    obtain ⟨v0, hv0, hv1⟩ := hV
    have hlt := hv0.lt
    gi_wp2
    exact hK _ _ ((KeepsOthers.alloc _ _).from _) ((Below.refl _ W).alloc hsz _) ⟨⟨⟨v0, hv0.alloc _, hv1.alloc _⟩, hlen⟩, hB.alloc hsz _⟩ ⟨W.heap.size, hlt, heap_alloc_new W _, rfl⟩
  case body =>
    rintro lk pre x a' W hl hr ⟨⟨hV, h4⟩, hB⟩ ⟨By, hBy, hX, rfl⟩ hlen
    obtain ⟨v, hb2, ho⟩ := hV
    have c2 := hb2.cell
    have f2 := hb2.frozen
    have x0 := cell_of_blk hX 0 (.string x.x) rfl
    have x1 := cell_of_blk hX 1 (.int .i64 x.t) rfl
    have x2 := cell_of_blk hX 2 (.int .i64 x.f) rfl
    have x3 := cell_of_blk hX 3 (.slice x.p x.n x.c) rfl
    obtain ⟨k, hk⟩ : ∃ k, pre.length = k := ⟨_, rfl⟩
    rw [hk] at ho hlen h4
    obtain ⟨i0, hi0, hz0, hz1, hz2⟩ := info_parts infoST
    have HI := Lib.hid hi0
    have HZ0 := Lib.hid hz0
    have HZ1 := Lib.hid hz1
    have HZ2 := Lib.hid hz2
    have HB := Lib.hid hB
    have HO := Lib.hid ho
    have HB2 := Lib.hid hb2
    have HK := Lib.hid hk
    have hsz := hB.size
    have hlt2 := hb2.lt
    clear hB ho hk hb2 hX hi0 hz0 hz1 hz2 hbx hR hst bS hB0
    gi_wp2_with (gi_at_builtin; refine wpListIn_append_own _ rfl (.tmp 8) (.tmp 10) 25 rfl w.heap.size 24 i0 zSet 4 56 Tryd.underlying25 HI.out HZ0.out HZ1.out HZ2.out rfl (by decide) v k (rowT pre) rfl (HO.out.alloc _) ⟨W.heap.size, 0, none⟩ 1 1 x.vals rfl rfl (news_t W x 24) (one_t x) (by unfold maxLen; omega) (by omega) (by simp; omega) ?_; intro v' w6 hown' hgrow hiff; clear hiff; obtain ⟨g2, cap2, rfl⟩ := ownsRow_succ hown'; have hap := HB2.out.appended (by decide) HO.out hsz (Nat.le_refl _) hown' hgrow; have c2 := hap.1.cell; have f2 := hap.1.frozen; have HAP := Lib.hid hap; clear hap hown' hgrow)
    obtain ⟨_, q2, q3, q4, q5⟩ := HAP.out
    refine ⟨q4.from _, q5, ⟨⟨_, q2, ?_⟩, by rw [List.length_append, HK.out]; simp; omega⟩, HB.out.trans q5⟩
    rw [List.length_append, HK.out, rowT_append]
    have hr1 : rowT [x] = x.vals := by simp [rowT]
    rw [hr1]
    exact q3
  case done =>
    rintro D ys W hD rfl ⟨⟨hV, h4⟩, hB⟩ hK
    obtain ⟨v, hb2, ho⟩ := hV
    have c2 := hb2.cell
    have HB := Lib.hid hB
    have HO := Lib.hid ho
    have HK := Lib.hid hK
    clear hB ho hb2 hbx hR hst bS hB0 hK
    gi_wp2
    refine ⟨by simp, .inl ⟨_, _, rfl, run_takeDeferred HK.out, ?_⟩⟩
    exact ⟨_, results_tmp rfl _ _ _, v, rfl, ownsRow_putObj HO.out _ HK.out rfl, HB.out.trans (belowK_b (w := w) (Nat.le_refl _) W D _ _ (by simp at hD; omega) HK.out rfl rfl)⟩
  case stop =>
    rintro D c pre W _ _ h _
    exact h.elim
end Go.Proofs.YtmnbcjchfbfngaaDoor
