/- The contract of classes of package lexer; no condition beyond those that each theorem names. -/
import Derived.Test.YtojofkjnakiliaaDoorL8
namespace Go.Proofs.YtojofkjnakiliaaDoor
open Go.RowKit
open NmP

theorem below_row (V w : World) (g : Nat) (cs : Array Value) (h : w.heap.size ≤ g) : Below w.heap.size V (V.setRow g cs) :=
  ⟨rfl, rfl, rfl, by simp, fun k hk => setRow_other _ _ _ _ (by omega)⟩

set_option maxHeartbeats 2000000 in
set_option maxRecDepth 100000 in
theorem classes_any (w : World) :
    Calls Tryd.prog 13 #[] w fun e w' => e = .returned (.agg kindsA) ∧ Below w.heap.size w w' := by
  have hsz : ((w.alloc (.cells Tryd.zeroCells35 35)).alloc (.cells Tryd.zeroCells35 35)).heap.size = w.heap.size + 2 := by simp
  have k0 : KR (fun _ => 0) w.heap.size ((w.alloc (.cells Tryd.zeroCells35 35)).alloc (.cells Tryd.zeroCells35 35)) := (KR.zero w).other (heap_alloc_old _ _ (by simp))
  have k1 : KR (fun _ => 0) (w.heap.size + 1) ((w.alloc (.cells Tryd.zeroCells35 35)).alloc (.cells Tryd.zeroCells35 35)) := by
    have := KR.zero (w.alloc (.cells Tryd.zeroCells35 35))
    rwa [World.size_alloc] at this
  have hB : Below w.heap.size w ((w.alloc (.cells Tryd.zeroCells35 35)).alloc (.cells Tryd.zeroCells35 35)) := ((Below.refl _ w).alloc (Nat.le_refl _) _).alloc (by simp) _
  have H0 := Lib.hid k0
  have H1 := Lib.hid k1
  have HB := Lib.hid hB
  have HS := Lib.hid hsz
  clear k0 k1 hB hsz
  go_enter Tryd.func13, Tryd.ntmps13
  go_wp2
  go_loopw [2] (fun s2 wr => ∃ c : Nat, 97 ≤ c ∧ c ≤ 123 ∧ s2 = .int .i32 c ∧ Hid (KR (fun _ => 0) w.heap.size wr) ∧ Hid (KR (g1 c) (w.heap.size + 1) wr) ∧ Hid (Below w.heap.size w wr) ∧ Hid (wr.heap.size = w.heap.size + 2)) (fun s2 _ => 123 - (intOf s2).toNat)
  case atStart => exact ⟨97, by omega, by omega, rfl, H0, Lib.hid (by
    obtain ⟨cs, h1, h2, h3⟩ := H1.out
    exact ⟨cs, h1, h2, fun n hn => by rw [h3 n hn]; unfold g1; rw [if_neg (by omega)]⟩), HB, HS⟩
  case round =>
    obtain ⟨c, hc0, hc, rfl, I0, I1, IB, IS⟩ := hrel
    clear H0 H1 HB HS
    by_cases h1 : c ≤ 122
    · have hcell := I1.out.cell c (by omega)
      have hfree := I1.out.free c
      have J1 := Lib.hid (I1.out.set c 4 (by omega) (g1 (c + 1)) (fun n hn => by unfold g1; (repeat' split) <;> omega))
      have J0 := Lib.hid (I0.out.other (heap_setCell_other wr ⟨w.heap.size + 1, c, none⟩ w.heap.size (.int .i64 ((4 : Nat) : Int)) (by show w.heap.size ≠ w.heap.size + 1; omega)))
      have JB := Lib.hid (IB.out.setCell (p := ⟨w.heap.size + 1, c, none⟩) (by show w.heap.size ≤ w.heap.size + 1; omega) (.int .i64 ((4 : Nat) : Int)))
      go_wp2
      go_roundw
      case measure => simp [intOf]; omega
      case rel => exact ⟨c + 1, by omega, by omega, by go_num, J0, J1, JB, Lib.hid (by rw [← IS.out]; simp)⟩
    · obtain rfl : c = 123 := by omega
      go_wp2
      have I1b : Hid (KR (g2 48) (w.heap.size + 1) wr) := Lib.hid (by
        obtain ⟨cs, h1, h2, h3⟩ := I1.out
        exact ⟨cs, h1, h2, fun n hn => by rw [h3 n hn]; unfold g1 g2; congr 2; (repeat' split) <;> omega⟩)
      clear I1
      go_loopw [3] (fun s3 wr => ∃ c : Nat, 48 ≤ c ∧ c ≤ 58 ∧ s3 = .int .i32 c ∧ Hid (KR (fun _ => 0) w.heap.size wr) ∧ Hid (KR (g2 c) (w.heap.size + 1) wr) ∧ Hid (Below w.heap.size w wr) ∧ Hid (wr.heap.size = w.heap.size + 2)) (fun s3 _ => 58 - (intOf s3).toNat)
      case atStart => exact ⟨48, by omega, by omega, rfl, I0, I1b, IB, IS⟩
      case round =>
        obtain ⟨c, hc0, hc, rfl, I0, I1, IB, IS⟩ := hrel
        clear I1b
        by_cases h1 : c ≤ 57
        · have hcell := I1.out.cell c (by omega)
          have hfree := I1.out.free c
          have J1 := Lib.hid (I1.out.set c 3 (by omega) (g2 (c + 1)) (fun n hn => by unfold g2; (repeat' split) <;> omega))
          have J0 := Lib.hid (I0.out.other (heap_setCell_other wr ⟨w.heap.size + 1, c, none⟩ w.heap.size (.int .i64 ((3 : Nat) : Int)) (by show w.heap.size ≠ w.heap.size + 1; omega)))
          have JB := Lib.hid (IB.out.setCell (p := ⟨w.heap.size + 1, c, none⟩) (by show w.heap.size ≤ w.heap.size + 1; omega) (.int .i64 ((3 : Nat) : Int)))
          go_wp2
          go_roundw
          case measure => simp [intOf]; omega
          case rel => exact ⟨c + 1, by omega, by omega, by go_num, J0, J1, JB, Lib.hid (by rw [← IS.out]; simp)⟩
        · obtain rfl : c = 58 := by omega
          have hsz := IS.out
          have I1b : Hid (KR (g3 0) (w.heap.size + 1) wr) := Lib.hid (by
            obtain ⟨cs, h1, h2, h3⟩ := I1.out
            exact ⟨cs, h1, h2, h3⟩)
          clear I1
          go_wp2
          go_loopw [5] (fun s5 wr => ∃ (p : Nat) (W : World), p ≤ 6 ∧ wr = W.iter sgS p ∧ Hid (W.heap.size = w.heap.size + 2) ∧ Hid (KR (fun _ => 0) w.heap.size W) ∧ Hid (KR (g3 p) (w.heap.size + 1) W) ∧ Hid (Below w.heap.size w W)) (fun _ wr => 6 - posOf (w.heap.size + 2) wr)
          case atStart => exact ⟨0, wr, by omega, rfl, IS, I0, I1b, IB⟩
          case round =>
            obtain ⟨p, W, hp, rfl, IS, I0, I1, IB⟩ := hrel
            have hps : p = 0 ∨ p = 1 ∨ p = 2 ∨ p = 3 ∨ p = 4 ∨ p = 5 ∨ p = 6 := by omega
            have K1 : ∀ q, KR (g3 p) (w.heap.size + 1) (W.iter sgS q) := fun q => I1.out.other (heap_alloc_old _ _ (by rw [IS.out]; omega))
            rcases hps with rfl | rfl | rfl | rfl | rfl | rfl | rfl
            · have hnx : (Instr.next (.pointer (some ⟨w.heap.size + 2, 0, none⟩)) true 0).run Tryd.prog (W.iter sgS 0) = .ok (.tuple #[.bool true, .int .i64 0, .int .i32 123]) (W.iter sgS 1) := by
                have h := run_next_ascii (P := Tryd.prog) W sgS 0 0 (by decide) (by decide)
                rw [IS.out] at h; exact h
              have hcell := (K1 1).cell 123 (by omega)
              have hfree := (K1 1).free 123
              have hset := iter_setCell W sgS 1 (w.heap.size + 1) 123 (.int .i64 8) (by rw [IS.out]; omega)
              have J1 := Lib.hid (I1.out.set 123 8 (by omega) (g3 1) (by decide))
              have J0 := Lib.hid (I0.out.other (heap_setCell_other W ⟨w.heap.size + 1, 123, none⟩ w.heap.size (.int .i64 ((8 : Nat) : Int)) (by show w.heap.size ≠ w.heap.size + 1; omega)))
              have JB := Lib.hid (IB.out.setCell (p := ⟨w.heap.size + 1, 123, none⟩) (by show w.heap.size ≤ w.heap.size + 1; omega) (.int .i64 ((8 : Nat) : Int)))
              have HP1 := Lib.hid (posOf_iter W sgS 0 _ IS.out)
              have HSet := Lib.hid hset
              have HP2 := Lib.hid (posOf_iter (W.setCell ⟨w.heap.size + 1, 123, none⟩ (.int .i64 8)) sgS 1 (w.heap.size + 2) (by rw [← IS.out]; simp))
              clear hset K1
              go_wp2
              go_roundw
              case measure => rw [HSet.out, HP1.out, HP2.out]; omega
              case rel => exact ⟨1, W.setCell ⟨w.heap.size + 1, 123, none⟩ (.int .i64 8), by omega, HSet.out, Lib.hid (by rw [← IS.out]; simp), J0, J1, JB⟩
            · have hnx : (Instr.next (.pointer (some ⟨w.heap.size + 2, 0, none⟩)) true 0).run Tryd.prog (W.iter sgS 1) = .ok (.tuple #[.bool true, .int .i64 1, .int .i32 125]) (W.iter sgS 2) := by
                have h := run_next_ascii (P := Tryd.prog) W sgS 1 0 (by decide) (by decide)
                rw [IS.out] at h; exact h
              have hcell := (K1 2).cell 125 (by omega)
              have hfree := (K1 2).free 125
              have hset := iter_setCell W sgS 2 (w.heap.size + 1) 125 (.int .i64 8) (by rw [IS.out]; omega)
              have J1 := Lib.hid (I1.out.set 125 8 (by omega) (g3 2) (by decide))
              have J0 := Lib.hid (I0.out.other (heap_setCell_other W ⟨w.heap.size + 1, 125, none⟩ w.heap.size (.int .i64 ((8 : Nat) : Int)) (by show w.heap.size ≠ w.heap.size + 1; omega)))
              have JB := Lib.hid (IB.out.setCell (p := ⟨w.heap.size + 1, 125, none⟩) (by show w.heap.size ≤ w.heap.size + 1; omega) (.int .i64 ((8 : Nat) : Int)))
              have HP1 := Lib.hid (posOf_iter W sgS 1 _ IS.out)
              have HSet := Lib.hid hset
              have HP2 := Lib.hid (posOf_iter (W.setCell ⟨w.heap.size + 1, 125, none⟩ (.int .i64 8)) sgS 2 (w.heap.size + 2) (by rw [← IS.out]; simp))
              clear hset K1
              go_wp2
              go_roundw
              case measure => rw [HSet.out, HP1.out, HP2.out]; omega
              case rel => exact ⟨2, W.setCell ⟨w.heap.size + 1, 125, none⟩ (.int .i64 8), by omega, HSet.out, Lib.hid (by rw [← IS.out]; simp), J0, J1, JB⟩
            · have hnx : (Instr.next (.pointer (some ⟨w.heap.size + 2, 0, none⟩)) true 0).run Tryd.prog (W.iter sgS 2) = .ok (.tuple #[.bool true, .int .i64 2, .int .i32 59]) (W.iter sgS 3) := by
                have h := run_next_ascii (P := Tryd.prog) W sgS 2 0 (by decide) (by decide)
                rw [IS.out] at h; exact h
              have hcell := (K1 3).cell 59 (by omega)
              have hfree := (K1 3).free 59
              have hset := iter_setCell W sgS 3 (w.heap.size + 1) 59 (.int .i64 8) (by rw [IS.out]; omega)
              have J1 := Lib.hid (I1.out.set 59 8 (by omega) (g3 3) (by decide))
              have J0 := Lib.hid (I0.out.other (heap_setCell_other W ⟨w.heap.size + 1, 59, none⟩ w.heap.size (.int .i64 ((8 : Nat) : Int)) (by show w.heap.size ≠ w.heap.size + 1; omega)))
              have JB := Lib.hid (IB.out.setCell (p := ⟨w.heap.size + 1, 59, none⟩) (by show w.heap.size ≤ w.heap.size + 1; omega) (.int .i64 ((8 : Nat) : Int)))
              have HP1 := Lib.hid (posOf_iter W sgS 2 _ IS.out)
              have HSet := Lib.hid hset
              have HP2 := Lib.hid (posOf_iter (W.setCell ⟨w.heap.size + 1, 59, none⟩ (.int .i64 8)) sgS 3 (w.heap.size + 2) (by rw [← IS.out]; simp))
              clear hset K1
              go_wp2
              go_roundw
              case measure => rw [HSet.out, HP1.out, HP2.out]; omega
              case rel => exact ⟨3, W.setCell ⟨w.heap.size + 1, 59, none⟩ (.int .i64 8), by omega, HSet.out, Lib.hid (by rw [← IS.out]; simp), J0, J1, JB⟩
            · have hnx : (Instr.next (.pointer (some ⟨w.heap.size + 2, 0, none⟩)) true 0).run Tryd.prog (W.iter sgS 3) = .ok (.tuple #[.bool true, .int .i64 3, .int .i32 44]) (W.iter sgS 4) := by
                have h := run_next_ascii (P := Tryd.prog) W sgS 3 0 (by decide) (by decide)
                rw [IS.out] at h; exact h
              have hcell := (K1 4).cell 44 (by omega)
              have hfree := (K1 4).free 44
              have hset := iter_setCell W sgS 4 (w.heap.size + 1) 44 (.int .i64 8) (by rw [IS.out]; omega)
              have J1 := Lib.hid (I1.out.set 44 8 (by omega) (g3 4) (by decide))
              have J0 := Lib.hid (I0.out.other (heap_setCell_other W ⟨w.heap.size + 1, 44, none⟩ w.heap.size (.int .i64 ((8 : Nat) : Int)) (by show w.heap.size ≠ w.heap.size + 1; omega)))
              have JB := Lib.hid (IB.out.setCell (p := ⟨w.heap.size + 1, 44, none⟩) (by show w.heap.size ≤ w.heap.size + 1; omega) (.int .i64 ((8 : Nat) : Int)))
              have HP1 := Lib.hid (posOf_iter W sgS 3 _ IS.out)
              have HSet := Lib.hid hset
              have HP2 := Lib.hid (posOf_iter (W.setCell ⟨w.heap.size + 1, 44, none⟩ (.int .i64 8)) sgS 4 (w.heap.size + 2) (by rw [← IS.out]; simp))
              clear hset K1
              go_wp2
              go_roundw
              case measure => rw [HSet.out, HP1.out, HP2.out]; omega
              case rel => exact ⟨4, W.setCell ⟨w.heap.size + 1, 44, none⟩ (.int .i64 8), by omega, HSet.out, Lib.hid (by rw [← IS.out]; simp), J0, J1, JB⟩
            · have hnx : (Instr.next (.pointer (some ⟨w.heap.size + 2, 0, none⟩)) true 0).run Tryd.prog (W.iter sgS 4) = .ok (.tuple #[.bool true, .int .i64 4, .int .i32 61]) (W.iter sgS 5) := by
                have h := run_next_ascii (P := Tryd.prog) W sgS 4 0 (by decide) (by decide)
                rw [IS.out] at h; exact h
              have hcell := (K1 5).cell 61 (by omega)
              have hfree := (K1 5).free 61
              have hset := iter_setCell W sgS 5 (w.heap.size + 1) 61 (.int .i64 8) (by rw [IS.out]; omega)
              have J1 := Lib.hid (I1.out.set 61 8 (by omega) (g3 5) (by decide))
              have J0 := Lib.hid (I0.out.other (heap_setCell_other W ⟨w.heap.size + 1, 61, none⟩ w.heap.size (.int .i64 ((8 : Nat) : Int)) (by show w.heap.size ≠ w.heap.size + 1; omega)))
              have JB := Lib.hid (IB.out.setCell (p := ⟨w.heap.size + 1, 61, none⟩) (by show w.heap.size ≤ w.heap.size + 1; omega) (.int .i64 ((8 : Nat) : Int)))
              have HP1 := Lib.hid (posOf_iter W sgS 4 _ IS.out)
              have HSet := Lib.hid hset
              have HP2 := Lib.hid (posOf_iter (W.setCell ⟨w.heap.size + 1, 61, none⟩ (.int .i64 8)) sgS 5 (w.heap.size + 2) (by rw [← IS.out]; simp))
              clear hset K1
              go_wp2
              go_roundw
              case measure => rw [HSet.out, HP1.out, HP2.out]; omega
              case rel => exact ⟨5, W.setCell ⟨w.heap.size + 1, 61, none⟩ (.int .i64 8), by omega, HSet.out, Lib.hid (by rw [← IS.out]; simp), J0, J1, JB⟩
            · have hnx : (Instr.next (.pointer (some ⟨w.heap.size + 2, 0, none⟩)) true 0).run Tryd.prog (W.iter sgS 5) = .ok (.tuple #[.bool true, .int .i64 5, .int .i32 64]) (W.iter sgS 6) := by
                have h := run_next_ascii (P := Tryd.prog) W sgS 5 0 (by decide) (by decide)
                rw [IS.out] at h; exact h
              have hcell := (K1 6).cell 64 (by omega)
              have hfree := (K1 6).free 64
              have hset := iter_setCell W sgS 6 (w.heap.size + 1) 64 (.int .i64 8) (by rw [IS.out]; omega)
              have J1 := Lib.hid (I1.out.set 64 8 (by omega) (g3 6) (by decide))
              have J0 := Lib.hid (I0.out.other (heap_setCell_other W ⟨w.heap.size + 1, 64, none⟩ w.heap.size (.int .i64 ((8 : Nat) : Int)) (by show w.heap.size ≠ w.heap.size + 1; omega)))
              have JB := Lib.hid (IB.out.setCell (p := ⟨w.heap.size + 1, 64, none⟩) (by show w.heap.size ≤ w.heap.size + 1; omega) (.int .i64 ((8 : Nat) : Int)))
              have HP1 := Lib.hid (posOf_iter W sgS 5 _ IS.out)
              have HSet := Lib.hid hset
              have HP2 := Lib.hid (posOf_iter (W.setCell ⟨w.heap.size + 1, 64, none⟩ (.int .i64 8)) sgS 6 (w.heap.size + 2) (by rw [← IS.out]; simp))
              clear hset K1
              go_wp2
              go_roundw
              case measure => rw [HSet.out, HP1.out, HP2.out]; omega
              case rel => exact ⟨6, W.setCell ⟨w.heap.size + 1, 64, none⟩ (.int .i64 8), by omega, HSet.out, Lib.hid (by rw [← IS.out]; simp), J0, J1, JB⟩
            · have hnx : (Instr.next (.pointer (some ⟨w.heap.size + 2, 0, none⟩)) true 0).run Tryd.prog (W.iter sgS 6) = .ok (.tuple #[.bool false]) (W.iter sgS 6) := by
                have h := run_next_end (P := Tryd.prog) W sgS 6 0 (by decide)
                rw [IS.out] at h; exact h
              have K6 := K1 6
              have Z6 : KR (fun _ => 0) w.heap.size (W.iter sgS 6) := I0.out.other (heap_alloc_old _ _ (by rw [IS.out]; omega))
              have B6 : Below w.heap.size w (W.iter sgS 6) := IB.out.alloc (by rw [IS.out]; omega) _
              clear K1 I0 I1 IB IS
              generalize W.iter sgS 6 = V at *
              have hm := marks_row V (w.heap.size + 1) K6
              have Z7 := marks_zero V (w.heap.size + 1) w.heap.size (by omega) Z6
              have B7 := Lib.hid (marks_below V (w.heap.size + 1) w (by omega) B6)
              have i0 := K6.cell 32 (by omega)
              have i1 := K6.cell 9 (by omega)
              have i2 := K6.cell 10 (by omega)
              have i3 := K6.cell 35 (by omega)
              have i4 := K6.cell 45 (by omega)
              have i5 := K6.cell 46 (by omega)
              have i6 := K6.cell 42 (by omega)
              have i7 := K6.cell 34 (by omega)
              have j0 := K6.free 32
              have j1 := K6.free 9
              have j2 := K6.free 10
              have j3 := K6.free 35
              have j4 := K6.free 45
              have j5 := K6.free 46
              have j6 := K6.free 42
              have j7 := K6.free 34
              obtain ⟨zs, hz1, hz2, hz3⟩ := Z7
              have HM := Lib.hid hm
              have HZ1 := Lib.hid hz1
              have HZ2 := Lib.hid hz2
              clear K6 Z6 B6 hz3 hm hz1 hz2
              unfold marks at HM HZ1
              go_wp2_with (first | (with_reducible refine wpList_load_row (by with_unfolding_all rfl) 35 _ (by with_unfolding_all rfl) (w.heap.size + 1) (by with_unfolding_all rfl) 35 kindsA (0, 0) _ HM.out Tryd.underlying35 (by with_unfolding_all rfl) info62 ?_) | (with_reducible refine wpList_store_row (by with_unfolding_all rfl) 35 _ _ (by with_unfolding_all rfl) w.heap.size kindsA (by with_unfolding_all rfl) (by with_unfolding_all rfl) 35 zs HZ1.out info62 (HZ2.out.trans kindsA_size.symm) kindsA_one ?_))
              refine bodyPost_ret (results_cell_row rfl _ _ w.heap.size 35 kindsA (0, 0) _ rfl (setRow_heap _ w.heap.size zs kindsA 35 (0, 0) HZ1.out) Tryd.underlying35 rfl info62) rfl ⟨rfl, ?_⟩
              have B8 := B7.out
              unfold marks at B8
              exact B8.trans (below_row _ w _ kindsA (Nat.le_refl _))
end Go.Proofs.YtojofkjnakiliaaDoor
