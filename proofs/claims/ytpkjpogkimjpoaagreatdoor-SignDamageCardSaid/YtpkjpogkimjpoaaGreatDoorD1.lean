/- The parts of layer 8's head: a set of an address, All at the empty zone, Digest of any bytes; no condition beyond those that each theorem names. -/
import Derived.Test.YtpkjpogkimjpoaaGreatDoorG5
namespace Go.Proofs.YtpkjpogkimjpoaaGreatDoor
set_option linter.unusedSimpArgs false
set_option linter.unusedVariables false
open Go.RowKit
open NmP

def AddrTo (s : ByteArray) (n : Int) (w : World) (e : Ending) (w' : World) : Prop :=
  ∃ b, e = .returned (.agg #[.string s, .int .i64 1, .int .i64 5, .slice (some ⟨b, 0, none⟩) 1 1]) ∧ SlD (.slice (some ⟨b, 0, none⟩) 1 1) [(⟨#[]⟩, n, 0)] w' ∧ Below w.heap.size w w'
theorem SlD.one (w W : World) (b : Nat) (n : Int) (h : W.heap[b]? = some (Obj.cells #[.string ⟨#[]⟩, .int .i64 n, .int .i64 0] 38 (0, 0))) : SlD (.slice (some ⟨b, 0, none⟩) 1 1) [(⟨#[]⟩, n, 0)] W :=
  .inr ⟨b, 0, 1, rfl, (Array.getElem?_eq_some_iff.1 h).1, fun m u hm => by
    have hm2 : (valsD (⟨#[]⟩, n, 0) ++ [])[m]? = some u := hm
    rw [List.append_nil] at hm2
    match m, hm2 with
    | 0, hm2 => simp [valsD] at hm2; subst hm2; exact cell_of_blk h 0 _ rfl
    | 1, hm2 => simp [valsD] at hm2; subst hm2; exact cell_of_blk h 1 _ rfl
    | 2, hm2 => simp [valsD] at hm2; subst hm2; exact cell_of_blk h 2 _ rfl
    | (k + 3), hm2 => simp [valsD] at hm2⟩
theorem address_any (s : ByteArray) (n : Int) (w : World) : Calls Tryz.prog 9 #[.string s, .int .i64 n] w (AddrTo s n w) := by
  go_enter Tryz.func9, Tryz.ntmps9
  have hx : ((w.alloc (.cells #[.string s, .int .i64 1, .int .i64 5, .slice (some ⟨w.heap.size + 1, 0, none⟩) 1 1] 24)).alloc (.cells #[.string ⟨#[]⟩, .int .i64 n, .int .i64 0] 38)).heap[w.heap.size]? = some (Obj.cells #[.string s, .int .i64 1, .int .i64 5, .slice (some ⟨w.heap.size + 1, 0, none⟩) 1 1] 24 (0, 0)) := by
    rw [heap_alloc_old _ _ (by simp)]; exact heap_alloc_new w _
  have hy : ((w.alloc (.cells #[.string s, .int .i64 1, .int .i64 5, .slice (some ⟨w.heap.size + 1, 0, none⟩) 1 1] 24)).alloc (.cells #[.string ⟨#[]⟩, .int .i64 n, .int .i64 0] 38)).heap[w.heap.size + 1]? = some (Obj.cells #[.string ⟨#[]⟩, .int .i64 n, .int .i64 0] 38 (0, 0)) := by
    have := heap_alloc_new (w.alloc (.cells #[.string s, .int .i64 1, .int .i64 5, .slice (some ⟨w.heap.size + 1, 0, none⟩) 1 1] 24)) (.cells #[.string ⟨#[]⟩, .int .i64 n, .int .i64 0] 38)
    simpa using this
  have HX := Lib.hid hx
  have HY := Lib.hid hy
  clear hx hy
  go_wp2
  have y0 := cell_of_blk HX.out 0 (.string s) rfl
  have y1 := cell_of_blk HX.out 1 (.int .i64 1) rfl
  have y2 := cell_of_blk HX.out 2 (.int .i64 5) rfl
  have y3 := cell_of_blk HX.out 3 (.slice (some ⟨w.heap.size + 1, 0, none⟩) 1 1) rfl
  have hb := ((Below.refl _ w).alloc (Nat.le_refl _) (.cells #[.string s, .int .i64 1, .int .i64 5, .slice (some ⟨w.heap.size + 1, 0, none⟩) 1 1] 24)).alloc (by simp) (.cells #[.string ⟨#[]⟩, .int .i64 n, .int .i64 0] 38)
  refine bodyPost_ret (v := .agg #[.string s, .int .i64 1, .int .i64 5, .slice (some ⟨w.heap.size + 1, 0, none⟩) 1 1]) (by simp [results, Tryz.f9, go_sem, y0, y1, y2, y3]) rfl ⟨w.heap.size + 1, rfl, SlD.one w _ _ n HY.out, hb⟩
theorem two_set {W : World} {q : Nat} {o0 o1 : Value} {t : TypeId} (a b : Value) (h : W.heap[q]? = some (Obj.cells #[o0, o1] t (0, 0))) :
    ((W.setCell ⟨q, 0, none⟩ a).setCell ⟨q, 1, none⟩ b).heap[q]? = some (Obj.cells #[a, b] t (0, 0)) := by
  have h1 := heap_setCell_same W q 0 _ _ a h
  have h2 := heap_setCell_same _ q 1 _ _ b h1
  simpa using h2
theorem below_setq {n : Nat} (W : World) (q j : Nat) (v : Value) (hq : n ≤ q) : Below n W (W.setCell ⟨q, j, none⟩ v) :=
  ⟨rfl, rfl, rfl, by simp, fun k hk => heap_setCell_other W ⟨q, j, none⟩ k v (fun e => by have e2 : k = q := e; omega)⟩
def zone0 : Value := .agg #[.string ⟨#[]⟩, .slice none 0 0]
theorem ordered0 (w : World) : Calls Tryz.prog 49 #[.agg #[.string ⟨#[]⟩, .slice none 0 0]] w fun e w' => e = .returned (.bool false) ∧ Below w.heap.size w w' := by
  have HV := Lib.hid (fun W => valid_any ⟨#[]⟩ W (by decide))
  rw [show validB (ByteArray.toList ⟨#[]⟩) = false by simp [validB]] at HV
  go_enter Tryz.func49, Tryz.ntmps49
  go_wp2_with (go_at_call 39; (with_reducible refine (HV.out _).mono ?_); rintro e w1 ⟨rfl, rfl⟩)
  go_ret
  exact ⟨rfl, (Below.refl _ w).alloc (Nat.le_refl _) _⟩
theorem zvalid0 (w : World) : Calls Tryz.prog 26 #[.agg #[.string ⟨#[]⟩, .slice none 0 0]] w fun e w' => e = .returned (.bool false) ∧ Below w.heap.size w w' := by
  have HO := Lib.hid ordered0
  have HB := Lib.hid ((Below.refl _ w).alloc (Nat.le_refl _) (.cells #[.string ⟨#[]⟩, .slice none 0 0] 43))
  go_enter Tryz.func26, Tryz.ntmps26
  go_wp2_with (go_at_call 49; (with_reducible refine (HO.out _).mono ?_); rintro e w1 ⟨rfl, hb1⟩)
  go_ret
  exact ⟨rfl, HB.out.trans (hb1.mono HB.out.size)⟩
theorem all0 (p : Option Addr) (n c : Nat) (f u : Int) (w : World) : Calls Tryz.prog 10 #[.agg #[.string ⟨#[]⟩, .slice none 0 0], .slice p n c, .int .i64 f, .int .i64 u] w fun e w' => e = .returned (.tuple #[.agg #[.string ⟨#[]⟩, .slice none 0 0], .int .i64 1]) ∧ Below w.heap.size w w' := by
  have HO := Lib.hid zvalid0
  have hb0 : Below w.heap.size w ((w.alloc (.cells #[.string ⟨#[]⟩, .slice none 0 0] 43)).alloc (.cells #[.string ⟨#[]⟩, .slice none 0 0] 43)) := ((Below.refl _ w).alloc (Nat.le_refl _) _).alloc (by simp) _
  have hy : ((w.alloc (.cells #[.string ⟨#[]⟩, .slice none 0 0] 43)).alloc (.cells #[.string ⟨#[]⟩, .slice none 0 0] 43)).heap[w.heap.size + 1]? = some (Obj.cells #[.string ⟨#[]⟩, .slice none 0 0] 43 (0, 0)) := by
    have := heap_alloc_new (w.alloc (.cells #[.string ⟨#[]⟩, .slice none 0 0] 43)) (.cells #[.string ⟨#[]⟩, .slice none 0 0] 43)
    simpa using this
  have HB0 := Lib.hid hb0
  have HY := Lib.hid hy
  clear hb0 hy
  go_enter Tryz.func10, Tryz.ntmps10
  go_wp2_with (go_at_call 26; (with_reducible refine (HO.out _).mono ?_); rintro e w1 ⟨rfl, hb1⟩; have HB1 := Lib.hid (HB0.out.trans (hb1.mono HB0.out.size)); have HY1 := Lib.hid ((hb1.block (w.heap.size + 1) (Array.getElem?_eq_some_iff.1 HY.out).1).trans HY.out); clear hb1; have y0 := cell_of_blk HY1.out 0 (.string ⟨#[]⟩) rfl; have y1 := cell_of_blk HY1.out 1 (.slice none 0 0) rfl; have f0 := frozen_of_blk HY1.out 0; have f1 := frozen_of_blk HY1.out 1; have hlt := (Array.getElem?_eq_some_iff.1 HY1.out).1)
  have hx := two_set (.string ⟨#[]⟩) (.slice none 0 0) HY1.out
  have x0 := cell_of_blk hx 0 (.string ⟨#[]⟩) rfl
  have x1 := cell_of_blk hx 1 (.slice none 0 0) rfl
  refine bodyPost_ret (v := .tuple #[.agg #[.string ⟨#[]⟩, .slice none 0 0], .int .i64 1]) (by simp [results, Tryz.f10, go_sem, x0, x1]) rfl ⟨rfl, ?_⟩
  exact (HB1.out.trans (below_setq w1 (w.heap.size + 1) 0 _ (by omega))).trans (below_setq _ (w.heap.size + 1) 1 _ (by omega))
theorem digest_any (v : Value) (xs : List Value) (w : World) (hv : SlV w.heap.size v xs (w.alloc (.cells #[.int .u64 14695981039346656037] 61))) (hb : IsB xs) (hn : xs.length ≤ 1000000) :
    Calls Tryz.prog 11 #[v] w fun e w' => e = .returned (.int .u64 (digN 14695981039346656037 xs : Nat)) ∧ Below w.heap.size w w' := by
  have hd : DigAt w.heap.size 14695981039346656037 (w.alloc (.cells #[.int .u64 14695981039346656037] 61)) := heap_alloc_new w _
  have HW := Lib.hid (write_any w.heap.size 14695981039346656037 v xs _ hd (by decide) hv hb hn)
  clear hd
  generalize digN 14695981039346656037 xs = D at *
  go_enter Tryz.func11, Tryz.ntmps11
  go_wp2_with (go_at_call 30; (with_reducible refine (HW.out).mono ?_); rintro e w1 ⟨rfl, hd1, hg1⟩; have HG1 := Lib.hid hg1; clear hg1; have k0 := cell_of_blk hd1 0 (.int .u64 D) rfl)
  go_ret
  exact ⟨rfl, ((Below.refl _ w).alloc (Nat.le_refl _) _).grown HG1.out (by simp) (fun k hk => by cases hk; exact Nat.le_refl _)⟩
end Go.Proofs.YtpkjpogkimjpoaaGreatDoor
