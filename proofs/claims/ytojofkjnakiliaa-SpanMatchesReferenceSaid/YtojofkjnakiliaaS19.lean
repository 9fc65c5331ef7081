/- The contract of Both of the reference of package span; no condition beyond those that each theorem names. -/
import Derived.Test.YtojofkjnakiliaaS18
import Derived.BigRegion
namespace Go.Proofs.Ytojofkjnakiliaa
open Go.RowKit Go.Shelf
open SpP

theorem meet_eq (x y u v : Int) : meet (x, y) (u, v) = if max x u < min y v then [(max x u, min y v)] else [] := rfl
theorem both_end (b : List Sp) : bothL [] b = [] := rfl
theorem both_go (s : Sp) (r b : List Sp) : bothL (s :: r) b = meetL s b ++ bothL r b := rfl
theorem meet_end (x : Sp) : meetL x [] = [] := rfl
theorem meet_go (x s : Sp) (r : List Sp) : meetL x (s :: r) = meet x s ++ meetL x r := rfl

set_option maxHeartbeats 2000000 in
set_option maxRecDepth 100000 in
theorem rboth_any {va vb : Value} {a b : List Sp} {w : World} (ha : SlS va a w) (hb : SlS vb b w) (la : a.length ≤ 1000) (lb : b.length ≤ 1000) : Calls Try.prog 36 #[va, vb] w (SlPost (bothL a b) w) := by
  obtain ⟨R, hR⟩ : ∃ R, bothL a b = R := ⟨_, rfl⟩
  rw [hR]
  obtain ⟨p, c, rfl⟩ := ha.form
  obtain ⟨q, d, rfl⟩ := hb.form
  have SA := Lib.hid ha
  have SB := Lib.hid hb
  obtain ⟨n, hln⟩ : ∃ n, a.length = n := ⟨_, rfl⟩
  obtain ⟨m, hlm⟩ : ∃ m, b.length = m := ⟨_, rfl⟩
  rw [hln] at la SA ⊢
  rw [hlm] at lb SB ⊢
  have HL := Lib.hid hln
  have HM := Lib.hid hlm
  have HR := Lib.hid hR
  obtain ⟨i0, hi0, hz0, hz1, hz2⟩ := info_parts infoS
  have HI := Lib.hid hi0
  have HZ0 := Lib.hid hz0
  have HZ1 := Lib.hid hz1
  have HZ2 := Lib.hid hz2
  clear ha hb hln hlm hR hi0 hz0 hz1 hz2
  go_enter Try.func36, Try.ntmps36
  go_wp2
  go_loopw [5, 6] (fun s5 s6 wr => ∃ (i k : Nat) (p5 : Option Addr) (c5 : Nat) (o : List Sp), i ≤ n ∧ s5 = .slice p5 k c5 ∧ s6 = .int .i64 i ∧ k ≤ 1000 * i ∧ Hid (o.length = k) ∧ Hid (o ++ bothL (a.drop i) b = R) ∧ Hid (wr.ownsRow w.heap.size 34 2 s5 k (rowS o)) ∧ Hid (RowKit.Below w.heap.size w wr)) (fun _ s6 _ => n - (intOf s6).toNat)
  case atStart => exact ⟨0, 0, none, 0, [], Nat.zero_le _, rfl, rfl, Nat.zero_le _, Lib.hid rfl, HR, Lib.hid (World.ownsRow_nil _ _ _ _), Lib.hid (RowKit.Below.refl _ _)⟩
  case round =>
    obtain ⟨i, k, p5, c5, o, hi, rfl, rfl, hk, HK, HG, HO, HW⟩ := hrel
    by_cases h1 : i < n
    · have ia : i < a.length := by rw [HL.out]; exact h1
      have ga : a[i]? = some a[i] := List.getElem?_eq_getElem ia
      obtain ⟨b', off, rfl, hlt, hRS⟩ : ∃ b off, p = some ⟨b, off, none⟩ ∧ b < w.heap.size ∧ RS b off a w := SA.out.at_ (by omega)
      have hZ := fun W (h : RowKit.Below w.heap.size w W) => (hRS.keep hlt h).at_ ga
      have hG := HG.out
      rw [drop_of ga, both_go] at hG
      have hi1 : (i : Int) < (n : Int) := by omega
      have hi0 : (0 : Int) ≤ (i : Int) := by omega
      generalize a[i] = xx at *
      obtain ⟨x, y⟩ := xx
      have HZ := Lib.hid hZ
      have HG2 := Lib.hid hG
      clear ga hRS hZ HG HR SA HL hG
      go_wp2
      go_loopw [5, 7] (fun s5 s7 wr => ∃ (j k : Nat) (p5 : Option Addr) (c5 : Nat) (o : List Sp), j ≤ m ∧ s5 = .slice p5 k c5 ∧ s7 = .int .i64 j ∧ k ≤ 1000 * i + j ∧ Hid (o.length = k) ∧ Hid (o ++ (meetL (x, y) (b.drop j) ++ bothL (a.drop (i + 1)) b) = R) ∧ Hid (wr.ownsRow w.heap.size 34 2 s5 k (rowS o)) ∧ Hid (RowKit.Below w.heap.size w wr)) (fun _ s7 _ => m - (intOf s7).toNat)
      case atStart => exact ⟨0, k, p5, c5, o, Nat.zero_le _, rfl, rfl, by omega, HK, HG2, HO, HW⟩
      case round =>
        clear HK HG2 HO HW
        obtain ⟨j, k, p5, c5, o, hj, rfl, rfl, hk, HK, HG, HO, HW⟩ := hrel
        have hws := HW.out.size
        by_cases h2 : j < m
        · have jb : j < b.length := by rw [HM.out]; exact h2
          have gb : b[j]? = some b[j] := List.getElem?_eq_getElem jb
          obtain ⟨b2, off2, rfl, hlt2, hRS⟩ : ∃ b2 off, q = some ⟨b2, off, none⟩ ∧ b2 < w.heap.size ∧ RS b2 off b w := SB.out.at_ (by omega)
          have hZ := fun W (h : RowKit.Below w.heap.size w W) => (hRS.keep hlt2 h).at_ gb
          have hG := HG.out
          rw [drop_of gb, meet_go] at hG
          have hj1 : (j : Int) < (m : Int) := by omega
          have hj0 : (0 : Int) ≤ (j : Int) := by omega
          generalize b[j] = yy at *
          obtain ⟨u, v⟩ := yy
          rw [meet_eq] at hG
          have HY := Lib.hid hZ
          have HG := Lib.hid hG
          clear gb hRS hZ SB HM hG
          obtain ⟨z0, z1⟩ := HZ.out _ HW.out
          obtain ⟨y0, y1⟩ := HY.out _ HW.out
          have hWA : RowKit.Below w.heap.size w (wr.alloc (Obj.cells #[.int .i64 0, .int .i64 0] 34)) := HW.out.alloc hws _
          obtain ⟨z2, z3⟩ := HZ.out _ hWA
          obtain ⟨y2, y3⟩ := HY.out _ hWA
          clear hWA
          simp only at z0 z1 y0 y1 z2 z3 y2 y3
          go_wp2
          go_region
          have hb8 : ((wr.alloc (cellsS (max x u, min y v))).drew).heap[wr.heap.size]? = some (cellsS (max x u, min y v)) := World.alloc_heap_new wr _
          have ho8 : ((wr.alloc (cellsS (max x u, min y v))).drew).ownsRow w.heap.size 34 2 (.slice p5 k c5) k (rowS o) := HO.out.alloc _
          have hw8 : RowKit.Below w.heap.size w ((wr.alloc (cellsS (max x u, min y v))).drew) := below_drewN (HW.out.alloc hws _) 1
          have hG := HG.out
          unfold cellsS at hb8 ho8 hw8
          simp only at hb8 ho8 hw8
          clear z0 z1 y0 y1 z2 z3 y2 y3 HO HW HG
          generalize World.drew _ = w8 at *
          generalize wr.heap.size = B8 at *
          generalize max x u = M at *
          generalize min y v = N at *
          have HO := Lib.hid ho8
          have HW := Lib.hid hw8
          obtain ⟨⟨e0, e1⟩, f0, f1⟩ := box2 (x := (M, N)) hb8
          simp only at e0 e1
          have hblt := (Array.getElem?_eq_some_iff.1 hb8).1
          have hws8 := hw8.size
          clear hb8 ho8 hw8
          by_cases hq : M < N
          · rw [if_pos hq] at hG
            have HG2 : Hid ((o ++ [(M, N)]) ++ (meetL (x, y) (b.drop (j + 1)) ++ bothL (a.drop (i + 1)) b) = R) := Lib.hid (by rw [List.append_assoc, ← List.append_assoc [(M, N)]]; exact hG)
            clear hG
            go_wp2_with (at_builtin; refine wpList_append_own _ rfl (.tmp 49) (.tmp 51) 22 rfl w.heap.size 34 i0 zSp 2 16 Try.underlying22 HI.out HZ0.out HZ1.out HZ2.out rfl (by decide) (.slice p5 (k) c5) (k) (rowS (o)) rfl (HO.out.alloc _) ⟨w8.heap.size, 0, none⟩ 1 1 (valsS (M, N)) rfl rfl (news_s w8 (M, N) 34) (one_s _) (by unfold maxLen; omega) (by omega) (by simp; omega) (fun v' w6 hown' hgrow _ => ?_); obtain ⟨g2, cap2, rfl⟩ := ownsRow_succ hown'; have hw6 := own_keep HW.out HO.out hgrow; have HO6 := Lib.hid (own_row hown'); clear HO HW hown' hgrow; have HW := Lib.hid hw6; clear hw6)
            go_roundw
            case rel => exact ⟨j + 1, k + 1, _, cap2, o ++ [(M, N)], by omega, rfl, by go_num, by omega, Lib.hid (by rw [List.length_append, HK.out]; rfl), HG2, HO6, HW⟩
            case measure => simp [intOf]; omega
          · rw [if_neg hq, List.nil_append] at hG
            have HG2 := Lib.hid hG
            clear hG
            go_wp2
            go_roundw
            case rel => exact ⟨j + 1, k, p5, c5, o, by omega, rfl, by go_num, by omega, HK, HG2, HO, HW⟩
            case measure => simp [intOf]; omega
        · obtain rfl : j = m := by omega
          have hG := HG.out
          rw [List.drop_eq_nil_of_le (by rw [HM.out]; exact Nat.le_refl _), meet_end, List.nil_append] at hG
          have HG2 := Lib.hid hG
          clear hG HG
          have hj2 : ¬ (j : Int) < (j : Int) := by omega
          go_wp2
          go_roundw
          case rel => exact ⟨i + 1, k, p5, c5, o, by omega, rfl, by go_num, by omega, HK, HG2, HO, HW⟩
          case measure => simp [intOf]; omega
    · obtain rfl : i = n := by omega
      have hG := HG.out
      rw [List.drop_eq_nil_of_le (by rw [HL.out]; exact Nat.le_refl _), both_end, List.append_nil] at hG
      subst hG
      clear HG HR SA HL
      have hi2 : ¬ (i : Int) < (i : Int) := by omega
      go_wp2
      go_ret
      exact SlPost.of (SlS.owned (base := w.heap.size) (by rw [HK.out]; exact HO.out)) HW.out
end Go.Proofs.Ytojofkjnakiliaa
