/- The contracts of the reader of package record: datum, repeat, Read; no condition beyond those that each theorem names. -/
import Derived.Test.YtmnbcjchfbfngaaDoorQ1
import Derived.Test.YtmnbcjchfbfngaaDoorRC
import Derived.Deep.RegionHeld3
import Derived.Deep.AppendLies
import Derived.Deep.RegionLaw
namespace Go.Proofs.YtmnbcjchfbfngaaDoor
set_option linter.unusedSimpArgs false
set_option linter.unusedVariables false
open Go.RowKit
open NmP

def zDat : Value := .agg #[.string ⟨#[]⟩, .int .i64 0, .int .i64 0]
theorem infoD : (Tryd.prog.info? 48).map (fun i => (i.zero, i.size, i.bytes)) = some (some zDat, 3, 32) := by kernel_rfl
theorem tkS_len (n : Nat) (s : Rs) : (tkS n s).1.length ≤ s.1.length := by
  unfold tkS
  split
  · exact Nat.le_refl _
  · rw [List.length_drop]; omega
theorem txtS_len (s : Rs) : (txtS s).1.length ≤ s.1.length := Nat.le_trans (tkS_len _ _) (tkS_len _ _)
/-- The datum that is read, and what is left. -/
def datV (s : Rs) : Dt := (⟨(txtV s).toArray⟩, wrap64 (numV (tkV 8 (txtS s))), wrap64 (numV (tkV 8 (tkS 8 (txtS s)))))
def datS (s : Rs) : Rs := tkS 8 (tkS 8 (txtS s))
/-- Data that the call owns. -/
def OwnD (B : Nat) (v : Value) (l : List Dt) (w : World) : Prop := w.ownsRow B 48 3 v l.length (rowD l)
theorem ownD_nil (B : Nat) (w : World) : OwnD B (.slice none 0 0) [] w := ⟨rfl, .inl ⟨rfl, rfl⟩⟩
theorem RdAt.keepR {W W' : World} {r : Nat} {s : Rs} {s0 s1 s2 s3 : Value} (h : RdAt W r s s0 s1 s2 s3) (hb : ∀ k, k ≤ r → W'.heap[k]? = W.heap[k]?) : RdAt W' r s s0 s1 s2 s3 := by
  obtain ⟨v, h1, h2⟩ := h.at_
  exact ⟨⟨v, by rw [hb r (Nat.le_refl _)]; exact h1, h2.keep (fun k hk => hb k (by omega))⟩⟩
theorem RdAt.lt {W : World} {r : Nat} {s : Rs} {s0 s1 s2 s3 : Value} (h : RdAt W r s s0 s1 s2 s3) : r < W.heap.size := by
  obtain ⟨v, h1, _⟩ := h.at_
  exact (Array.getElem?_eq_some_iff.1 h1).1
theorem below_of_grown {w w' : World} {r : Nat} (h : w.grownBy w' (some r)) (hr : r < w.heap.size) : Below r w w' :=
  ⟨h.os, h.tape, h.output, h.size, fun k hk => h.block k (by omega) (by simp; omega)⟩
/-- A call that puts a datum behind the data of the set that is read. -/
def DatTo (r : Nat) (s : Rs) (s0 s1 s2 : Value) (l : List Dt) (w : World) (e : Ending) (w' : World) : Prop :=
  e = .returned (.tuple #[]) ∧ ∃ v', RdAt w' r (datS s) s0 s1 s2 v' ∧ OwnD (r + 1) v' (l ++ [datV s]) w' ∧ Below r w w'

set_option maxHeartbeats 2000000 in
set_option maxRecDepth 100000 in
theorem datum_r (r : Nat) (s : Rs) (s0 s1 s2 v3 : Value) (l : List Dt) (w : World) (hr : RdAt w r s s0 s1 s2 v3) (hl : s.1.length ≤ 1000000) (hd : OwnD (r + 1) v3 l w) (hn : l.length ≤ 1000) :
    Calls Tryd.prog 47 #[.pointer (some ⟨r, 0, none⟩)] w (DatTo r s s0 s1 s2 l w) := by
  have T1 := Lib.hid (text_r r s s0 s1 s2 v3 w hr hl)
  have T2 := Lib.hid (fun W (h : RdAt W r (txtS s) s0 s1 s2 v3) => number_r r (txtS s) s0 s1 s2 v3 W h (Nat.le_trans (txtS_len s) hl))
  have T3 := Lib.hid (fun W (h : RdAt W r (tkS 8 (txtS s)) s0 s1 s2 v3) => number_r r (tkS 8 (txtS s)) s0 s1 s2 v3 W h (Nat.le_trans (tkS_len _ _) (Nat.le_trans (txtS_len s) hl)))
  unfold TxtTo at T1
  unfold NumTo at T2 T3
  have HS : Hid (tkS 8 (tkS 8 (txtS s)) = datS s) := Lib.hid rfl
  have HV : Hid (((⟨(txtV s).toArray⟩, wrap64 (numV (tkV 8 (txtS s))), wrap64 (numV (tkV 8 (tkS 8 (txtS s))))) : Dt) = datV s) := Lib.hid rfl
  rw [HS.out] at T3
  have HD := Lib.hid hd
  have hrl := hr.lt
  obtain ⟨i0, hi0, hz0, hz1, hz2⟩ := info_parts infoD
  have HI := Lib.hid hi0
  have HZ0 := Lib.hid hz0
  have HZ1 := Lib.hid hz1
  have HZ2 := Lib.hid hz2
  clear hi0 hz0 hz1 hz2 hd hr
  unfold DatTo
  generalize datV s = d at *
  generalize datS s = sd at *
  generalize (⟨(txtV s).toArray⟩ : ByteArray) = dx at *
  generalize wrap64 (numV (tkV 8 (txtS s))) = dn at *
  generalize wrap64 (numV (tkV 8 (tkS 8 (txtS s)))) = dm at *
  generalize tkS 8 (txtS s) = sb at *
  generalize txtS s = sa at *
  have hv := HV.out
  subst hv
  clear HV HS
  go_enter Tryd.func47, Tryd.ntmps47
  go_wp2_with (first | (go_at_call 43; refine (T1.out).mono ?_; rintro e w1 ⟨rfl, h2, h3⟩; have A1 := Lib.hid h2; have B1 := Lib.hid h3; clear h2 h3) | (go_at_call 44; (with_reducible refine (T2.out _ A1.out).mono ?_); rintro e w2 ⟨rfl, h2, h3⟩; have A2 := Lib.hid h2; have B2 := Lib.hid (grown_trans B1.out h3); clear h2 h3) | (go_at_call 44; (with_reducible refine (T3.out _ A2.out).mono ?_); rintro e w3 ⟨rfl, h2, h3⟩; have A3 := Lib.hid h2; have B3 := Lib.hid (grown_trans B2.out h3); clear h2 h3))
  have hown : w3.ownsRow (r + 1) 48 3 v3 l.length (rowD l) := World.ownsRow.kept HD.out B3.out (by
    cases ho : v3.ownBlock with
    | none => exact .inl rfl
    | some k =>
      right
      have := (World.ownsRow.lt HD.out k ho).1
      intro e
      simp only [Option.some.injEq] at e
      omega)
  obtain ⟨lv, hblk, hsl⟩ := A3.out.at_
  have hr3 : r < w3.heap.size := A3.out.lt
  have hob : ∀ k, v3.ownBlock = some k → r < k ∧ k < w3.heap.size := fun k hk => by
    have := World.ownsRow.lt hown k hk
    omega
  have hw4 : (w3.alloc (.cells #[.string dx, .int .i64 dn, .int .i64 dm] 48)).heap[r]? = w3.heap[r]? := heap_alloc_old w3 _ hr3
  have hw5 : (w3.alloc (.cells #[.string dx, .int .i64 dn, .int .i64 dm] 48)).heap[w3.heap.size]? = some (Obj.cells #[.string dx, .int .i64 dn, .int .i64 dm] 48 (0, 0)) := heap_alloc_new w3 _
  have hown4 := hown.alloc (.cells #[.string dx, .int .i64 dn, .int .i64 dm] 48)
  have hbel4 : Below r w (w3.alloc (.cells #[.string dx, .int .i64 dn, .int .i64 dm] 48)) := (below_of_grown B3.out hrl).alloc (by omega) _
  have hsz4 : (w3.alloc (.cells #[.string dx, .int .i64 dn, .int .i64 dm] 48)).heap.size = w3.heap.size + 1 := by simp
  have hsl4 : SlB r lv sd.1 (w3.alloc (.cells #[.string dx, .int .i64 dn, .int .i64 dm] 48)) := hsl.keep (fun k hk => heap_alloc_old w3 _ (by omega))
  rw [hblk] at hw4
  clear T1 T2 T3 A1 B1 A2 B2 A3 B3 hblk hown hsl HD
  generalize w3.alloc _ = w4 at *
  generalize w3.heap.size = n5 at *
  have c5 := cell_of_blk hw4 5 v3 rfl
  have f5 := frozen_of_blk hw4 5
  have b0 := cell_of_blk hw5 0 (.string dx) rfl
  have b1 := cell_of_blk hw5 1 (.int .i64 dn) rfl
  have b2 := cell_of_blk hw5 2 (.int .i64 dm) rfl
  have hrn : r < w4.heap.size := by omega
  have hnn : n5 < w4.heap.size := by omega
  have ak : v3.ownBlock ≠ some r := fun e => by have := hob r e; omega
  have an : v3.ownBlock ≠ some n5 := fun e => by have := hob n5 e; omega
  have hw6 : (w4.alloc (.cells #[.string dx, .int .i64 dn, .int .i64 dm] 48)).drew.heap[r]? = some (Obj.cells #[lv, .bool sd.2, s0, s1, s2, v3] 73 (0, 0)) := (heap_alloc_old w4 _ hrn).trans hw4
  have fa := frozen_of_blk hw6 5
  have HW6 := Lib.hid hw6
  have HW4 := Lib.hid hw4
  have HW5 := Lib.hid hw5
  clear hw6 hw4 hw5
  have HZ := Lib.hid hsz4
  clear hsz4
  go_region_law ((refine step_append_lies _ (by rfl) _ _ _ (by rfl) (r + 1) 48 i0 _ 3 32 Tryd.underlying22 HI.out HZ0.out HZ1.out HZ2.out rfl (by omega) v3 l.length (rowD l) (by rfl) ((hown4.alloc _).drew) ⟨w4.heap.size, 0, none⟩ 1 1 [.string dx, .int .i64 dn, .int .i64 dm] (by rfl) (by rfl) (World.news_of_block (cs := #[.string dx, .int .i64 dn, .int .i64 dm]) (t := 48) (fr := (0, 0)) (heap_alloc_new w4 _)) (by simp [Value.oneCell']) (by omega) (by unfold maxLen; omega) (by omega) (by simp; omega) (w4.heap.size + 1) (by simp) ?_; intro gg cap w5 hown1 hgrow hat hlt; have h5 : w5.heap[r]? = some (Obj.cells #[lv, .bool sd.2, s0, s1, s2, v3] 73 (0, 0)) := (hgrow.block r (by simp; omega) (Ne.symm ak)).trans HW6.out; have g5 := cell_of_blk h5 5 v3 rfl; have gf := frozen_of_blk h5 5; have H5 := Lib.hid h5; have HO := Lib.hid hown1; have HG := Lib.hid hgrow; clear h5 hown1 hgrow hat))
  all_goals
    go_end0
    have hk5 : ∀ k, k < r → (w5.setCell ⟨r, 5, none⟩ (.slice (some ⟨gg, 0, none⟩) (l.length + 1) cap)).heap[k]? = w4.heap[k]? := fun k hk => by
      rw [heap_setCell_other w5 ⟨r, 5, none⟩ k _ (by simp; omega), HG.out.block k (by simp; omega) (fun e => by have := hob k e.symm; omega)]
      exact heap_alloc_old w4 _ (by omega)
    refine ⟨rfl, .slice (some ⟨gg, 0, none⟩) (l.length + 1) cap, ⟨⟨lv, heap_setCell_same w5 r 5 _ _ _ H5.out, hsl4.keep hk5⟩⟩, ?_, ?_⟩
    · have := ownsRow_setCell_below HO.out (a := ⟨r, 5, none⟩) (by simp) (.slice (some ⟨gg, 0, none⟩) (l.length + 1) cap)
      unfold OwnD
      rw [List.length_append, rowD_append]
      exact this
    · have h1 : Below r w (w4.alloc (.cells #[.string dx, .int .i64 dn, .int .i64 dm] 48)).drew := below_drewD (hbel4.alloc (by omega) _) 1
      exact (h1.grown HG.out (by simp; omega) (fun k hk => by have := hob k hk; omega)).setCell (Nat.le_refl _) _
end Go.Proofs.YtmnbcjchfbfngaaDoor
