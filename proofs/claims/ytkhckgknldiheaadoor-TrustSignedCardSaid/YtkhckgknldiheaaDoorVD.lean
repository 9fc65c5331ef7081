/- The contract of Datum of the reference implementation of records: a datum is valid for a type; no condition beyond those that the theorem names. -/
import Derived.Test.YtkhckgknldiheaaDoorVT
namespace Go.Proofs.YtkhckgknldiheaaDoor
set_option linter.unusedSimpArgs false
set_option linter.unusedVariables false
open Go.RowKit
open NmP

theorem zero_rng (y : Int) : (decide (0 ≤ y) && decide (y ≤ 0)) = (y == 0) := by
  rw [Bool.eq_iff_iff, Bool.and_eq_true, decide_eq_true_iff, decide_eq_true_iff, beq_iff_eq]
  omega

theorem okD_1 (x : ByteArray) (n m : Int) : okD 1 (x, n, m) = ((decide (1 ≤ n) && decide (n ≤ 1000000)) && (m == 0) && !(false && !decide (n % 2 = 0)) && x.toList.isEmpty) := by
  rw [← zero_rng m]; rfl
theorem okD_2 (x : ByteArray) (n m : Int) : okD 2 (x, n, m) = ((n == 0) && (m == 0) && !(false && !decide (n % 2 = 0)) && (validB x.toList && !wildB x.toList)) := by
  rw [← zero_rng n, ← zero_rng m]; rfl
theorem okD_3 (x : ByteArray) (n m : Int) : okD 3 (x, n, m) = ((n == 0) && (m == 0) && !(false && !decide (n % 2 = 0)) && (validB x.toList && !wildB x.toList)) := by
  rw [← zero_rng n, ← zero_rng m]; rfl
theorem okD_4 (x : ByteArray) (n m : Int) : okD 4 (x, n, m) = ((decide (0 ≤ n) && decide (n ≤ 65535)) && (decide (0 ≤ m) && decide (m ≤ 100000)) && !(false && !decide (n % 2 = 0)) && x.toList.isEmpty) := by
  rfl
theorem okD_5 (x : ByteArray) (n m : Int) : okD 5 (x, n, m) = ((n == 0) && (m == 0) && !(false && !decide (n % 2 = 0)) && plainB x.toList) := by
  rw [← zero_rng n, ← zero_rng m]; rfl
theorem okD_6 (x : ByteArray) (n m : Int) : okD 6 (x, n, m) = ((decide (1 ≤ n) && decide (n ≤ 1000000)) && (decide (1 ≤ m) && decide (m ≤ 3)) && !(false && !decide (n % 2 = 0)) && x.toList.isEmpty) := by
  rfl
theorem okD_7 (x : ByteArray) (n m : Int) : okD 7 (x, n, m) = ((decide (1 ≤ n) && decide (n ≤ 1000000)) && (decide (1 ≤ m) && decide (m ≤ 3)) && !(false && !decide (n % 2 = 0)) && x.toList.isEmpty) := by
  rfl
theorem okD_8 (x : ByteArray) (n m : Int) : okD 8 (x, n, m) = ((decide (2 ≤ n) && decide (n ≤ 510)) && (m == 0) && !(true && !decide (n % 2 = 0)) && validB x.toList) := by
  rw [← zero_rng m]; rfl

set_option maxHeartbeats 4000000 in
set_option maxRecDepth 100000 in
theorem rdatum_any (t : Nat) (ht : 1 ≤ t ∧ t ≤ 8) (x : ByteArray) (n m : Int) (w : World) (hx : x.size ≤ maxLen) :
    Calls Tryd.prog 53 #[.int .i64 t, .agg #[.string x, .int .i64 n, .int .i64 m]] w (ToB (okD t (x, n, m)) w) := by
  have hb0 := (Below.refl _ w).alloc (Nat.le_refl _) (.cells #[.string x, .int .i64 n, .int .i64 m] 65)
  have hk0 : (w.alloc (.cells #[.string x, .int .i64 n, .int .i64 m] 65)).heap[w.heap.size]? = some (Obj.cells #[.string x, .int .i64 n, .int .i64 m] 65 (0, 0)) := heap_alloc_new w _
  have k0 := cell_of_blk hk0 0 (.string x) rfl
  have k1 := cell_of_blk hk0 1 (.int .i64 n) rfl
  have k2 := cell_of_blk hk0 2 (.int .i64 m) rfl
  have HK := Lib.hid hk0
  have HB := Lib.hid hb0
  have HZ : Hid (w.heap.size < (w.alloc (.cells #[.string x, .int .i64 n, .int .i64 m] 65)).heap.size) := Lib.hid (by simp)
  clear hb0 hk0
  have HV := Lib.hid (fun W => rvalid_any x W hx)
  have HW := Lib.hid (fun W => rwild_any x W hx)
  have HQ := Lib.hid (fun W => rtext_any x W hx)
  obtain ⟨h1, h8⟩ := ht
  have hc : t = 1 ∨ t = 2 ∨ t = 3 ∨ t = 4 ∨ t = 5 ∨ t = 6 ∨ t = 7 ∨ t = 8 := by omega
  clear h1 h8
  rcases hc with rfl | rfl | rfl | rfl | rfl | rfl | rfl | rfl
  · skip
    cases hE : x.toList.isEmpty
    · skip
      have hE2 : (x.toList == []) = false := by rw [← hE]; cases x.toList <;> rfl
      have HR : Hid (okD 1 (x, n, m) = false) := Lib.hid (by rw [okD_1]; simp [hE])
      go_enter Tryd.func53, Tryd.ntmps53
      go_wp2
      go_ret
      exact ⟨by rw [HR.out]; rfl, HB.out⟩
    · skip
      have hE2 : (x.toList == []) = true := by rw [← hE]; cases x.toList <;> rfl
      cases hN : (decide (1 ≤ n) && decide (n ≤ 1000000))
      · skip
        have CN := Lib.hid (fun W => by have := rwithin_any n 1 1000000 W; rwa [hN] at this)
        have HR : Hid (okD 1 (x, n, m) = false) := Lib.hid (by rw [okD_1]; simp [hE, hN])
        go_enter Tryd.func53, Tryd.ntmps53
        go_wp2_with (first | (go_at_call 50; first | ((with_reducible refine (CN.out _).mono ?_); rintro e w1 ⟨rfl, rfl⟩)))
        go_ret
        exact ⟨by rw [HR.out]; rfl, HB.out⟩
      · skip
        have CN := Lib.hid (fun W => by have := rwithin_any n 1 1000000 W; rwa [hN] at this)
        have n0 : 0 ≤ n := by simp at hN; omega
        cases hM0 : (m == 0)
        · skip
          have HR : Hid (okD 1 (x, n, m) = false) := Lib.hid (by rw [okD_1]; simp [hE, hN, hM0])
          go_enter Tryd.func53, Tryd.ntmps53
          go_wp2_with (first | (go_at_call 50; first | ((with_reducible refine (CN.out _).mono ?_); rintro e w1 ⟨rfl, rfl⟩)))
          go_ret
          exact ⟨by rw [HR.out]; rfl, HB.out⟩
        · skip
          have HR : Hid (okD 1 (x, n, m) = true) := Lib.hid (by rw [okD_1]; simp [hE, hN, hM0])
          go_enter Tryd.func53, Tryd.ntmps53
          go_wp2_with (first | (go_at_call 50; first | ((with_reducible refine (CN.out _).mono ?_); rintro e w1 ⟨rfl, rfl⟩)))
          go_ret
          exact ⟨by rw [HR.out]; rfl, HB.out⟩
  · skip
    cases hV : validB x.toList
    · skip
      rw [hV] at HV
      have HR : Hid (okD 2 (x, n, m) = false) := Lib.hid (by rw [okD_2]; simp [hV])
      go_enter Tryd.func53, Tryd.ntmps53
      go_wp2_with (first | (go_at_call 37; (with_reducible refine (HV.out _).mono ?_); rintro e w1 ⟨rfl, hb1⟩; have HB1 := Lib.hid (HB.out.trans (hb1.mono HB.out.size)); have hk1 := (hb1.block w.heap.size HZ.out).trans HK.out; have j0 := cell_of_blk hk1 0 (.string x) rfl; have j1 := cell_of_blk hk1 1 (.int .i64 n) rfl; have j2 := cell_of_blk hk1 2 (.int .i64 m) rfl; clear hb1 hk1))
      go_ret
      exact ⟨by rw [HR.out]; rfl, HB1.out⟩
    · skip
      rw [hV] at HV
      cases hW : wildB x.toList
      · skip
        rw [hW] at HW
        cases hN0 : (n == 0)
        · skip
          have HR : Hid (okD 2 (x, n, m) = false) := Lib.hid (by rw [okD_2]; simp [hV, hW, hN0])
          go_enter Tryd.func53, Tryd.ntmps53
          go_wp2_with (first | (go_at_call 37; (with_reducible refine (HV.out _).mono ?_); rintro e w1 ⟨rfl, hb1⟩; have HB1 := Lib.hid (HB.out.trans (hb1.mono HB.out.size)); have hk1 := (hb1.block w.heap.size HZ.out).trans HK.out; have j0 := cell_of_blk hk1 0 (.string x) rfl; have j1 := cell_of_blk hk1 1 (.int .i64 n) rfl; have j2 := cell_of_blk hk1 2 (.int .i64 m) rfl; clear hb1 hk1) | (go_at_call 52; (with_reducible refine (HW.out _).mono ?_); rintro e w2 ⟨rfl, rfl⟩))
          go_ret
          exact ⟨by rw [HR.out]; rfl, HB1.out⟩
        · skip
          cases hM0 : (m == 0)
          · skip
            have HR : Hid (okD 2 (x, n, m) = false) := Lib.hid (by rw [okD_2]; simp [hV, hW, hN0, hM0])
            go_enter Tryd.func53, Tryd.ntmps53
            go_wp2_with (first | (go_at_call 37; (with_reducible refine (HV.out _).mono ?_); rintro e w1 ⟨rfl, hb1⟩; have HB1 := Lib.hid (HB.out.trans (hb1.mono HB.out.size)); have hk1 := (hb1.block w.heap.size HZ.out).trans HK.out; have j0 := cell_of_blk hk1 0 (.string x) rfl; have j1 := cell_of_blk hk1 1 (.int .i64 n) rfl; have j2 := cell_of_blk hk1 2 (.int .i64 m) rfl; clear hb1 hk1) | (go_at_call 52; (with_reducible refine (HW.out _).mono ?_); rintro e w2 ⟨rfl, rfl⟩))
            go_ret
            exact ⟨by rw [HR.out]; rfl, HB1.out⟩
          · skip
            have HR : Hid (okD 2 (x, n, m) = true) := Lib.hid (by rw [okD_2]; simp [hV, hW, hN0, hM0])
            go_enter Tryd.func53, Tryd.ntmps53
            go_wp2_with (first | (go_at_call 37; (with_reducible refine (HV.out _).mono ?_); rintro e w1 ⟨rfl, hb1⟩; have HB1 := Lib.hid (HB.out.trans (hb1.mono HB.out.size)); have hk1 := (hb1.block w.heap.size HZ.out).trans HK.out; have j0 := cell_of_blk hk1 0 (.string x) rfl; have j1 := cell_of_blk hk1 1 (.int .i64 n) rfl; have j2 := cell_of_blk hk1 2 (.int .i64 m) rfl; clear hb1 hk1) | (go_at_call 52; (with_reducible refine (HW.out _).mono ?_); rintro e w2 ⟨rfl, rfl⟩))
            go_ret
            exact ⟨by rw [HR.out]; rfl, HB1.out⟩
      · skip
        rw [hW] at HW
        have HR : Hid (okD 2 (x, n, m) = false) := Lib.hid (by rw [okD_2]; simp [hV, hW])
        go_enter Tryd.func53, Tryd.ntmps53
        go_wp2_with (first | (go_at_call 37; (with_reducible refine (HV.out _).mono ?_); rintro e w1 ⟨rfl, hb1⟩; have HB1 := Lib.hid (HB.out.trans (hb1.mono HB.out.size)); have hk1 := (hb1.block w.heap.size HZ.out).trans HK.out; have j0 := cell_of_blk hk1 0 (.string x) rfl; have j1 := cell_of_blk hk1 1 (.int .i64 n) rfl; have j2 := cell_of_blk hk1 2 (.int .i64 m) rfl; clear hb1 hk1) | (go_at_call 52; (with_reducible refine (HW.out _).mono ?_); rintro e w2 ⟨rfl, rfl⟩))
        go_ret
        exact ⟨by rw [HR.out]; rfl, HB1.out⟩
  · skip
    cases hV : validB x.toList
    · skip
      rw [hV] at HV
      have HR : Hid (okD 3 (x, n, m) = false) := Lib.hid (by rw [okD_3]; simp [hV])
      go_enter Tryd.func53, Tryd.ntmps53
      go_wp2_with (first | (go_at_call 37; (with_reducible refine (HV.out _).mono ?_); rintro e w1 ⟨rfl, hb1⟩; have HB1 := Lib.hid (HB.out.trans (hb1.mono HB.out.size)); have hk1 := (hb1.block w.heap.size HZ.out).trans HK.out; have j0 := cell_of_blk hk1 0 (.string x) rfl; have j1 := cell_of_blk hk1 1 (.int .i64 n) rfl; have j2 := cell_of_blk hk1 2 (.int .i64 m) rfl; clear hb1 hk1))
      go_ret
      exact ⟨by rw [HR.out]; rfl, HB1.out⟩
    · skip
      rw [hV] at HV
      cases hW : wildB x.toList
      · skip
        rw [hW] at HW
        cases hN0 : (n == 0)
        · skip
          have HR : Hid (okD 3 (x, n, m) = false) := Lib.hid (by rw [okD_3]; simp [hV, hW, hN0])
          go_enter Tryd.func53, Tryd.ntmps53
          go_wp2_with (first | (go_at_call 37; (with_reducible refine (HV.out _).mono ?_); rintro e w1 ⟨rfl, hb1⟩; have HB1 := Lib.hid (HB.out.trans (hb1.mono HB.out.size)); have hk1 := (hb1.block w.heap.size HZ.out).trans HK.out; have j0 := cell_of_blk hk1 0 (.string x) rfl; have j1 := cell_of_blk hk1 1 (.int .i64 n) rfl; have j2 := cell_of_blk hk1 2 (.int .i64 m) rfl; clear hb1 hk1) | (go_at_call 52; (with_reducible refine (HW.out _).mono ?_); rintro e w2 ⟨rfl, rfl⟩))
          go_ret
          exact ⟨by rw [HR.out]; rfl, HB1.out⟩
        · skip
          cases hM0 : (m == 0)
          · skip
            have HR : Hid (okD 3 (x, n, m) = false) := Lib.hid (by rw [okD_3]; simp [hV, hW, hN0, hM0])
            go_enter Tryd.func53, Tryd.ntmps53
            go_wp2_with (first | (go_at_call 37; (with_reducible refine (HV.out _).mono ?_); rintro e w1 ⟨rfl, hb1⟩; have HB1 := Lib.hid (HB.out.trans (hb1.mono HB.out.size)); have hk1 := (hb1.block w.heap.size HZ.out).trans HK.out; have j0 := cell_of_blk hk1 0 (.string x) rfl; have j1 := cell_of_blk hk1 1 (.int .i64 n) rfl; have j2 := cell_of_blk hk1 2 (.int .i64 m) rfl; clear hb1 hk1) | (go_at_call 52; (with_reducible refine (HW.out _).mono ?_); rintro e w2 ⟨rfl, rfl⟩))
            go_ret
            exact ⟨by rw [HR.out]; rfl, HB1.out⟩
          · skip
            have HR : Hid (okD 3 (x, n, m) = true) := Lib.hid (by rw [okD_3]; simp [hV, hW, hN0, hM0])
            go_enter Tryd.func53, Tryd.ntmps53
            go_wp2_with (first | (go_at_call 37; (with_reducible refine (HV.out _).mono ?_); rintro e w1 ⟨rfl, hb1⟩; have HB1 := Lib.hid (HB.out.trans (hb1.mono HB.out.size)); have hk1 := (hb1.block w.heap.size HZ.out).trans HK.out; have j0 := cell_of_blk hk1 0 (.string x) rfl; have j1 := cell_of_blk hk1 1 (.int .i64 n) rfl; have j2 := cell_of_blk hk1 2 (.int .i64 m) rfl; clear hb1 hk1) | (go_at_call 52; (with_reducible refine (HW.out _).mono ?_); rintro e w2 ⟨rfl, rfl⟩))
            go_ret
            exact ⟨by rw [HR.out]; rfl, HB1.out⟩
      · skip
        rw [hW] at HW
        have HR : Hid (okD 3 (x, n, m) = false) := Lib.hid (by rw [okD_3]; simp [hV, hW])
        go_enter Tryd.func53, Tryd.ntmps53
        go_wp2_with (first | (go_at_call 37; (with_reducible refine (HV.out _).mono ?_); rintro e w1 ⟨rfl, hb1⟩; have HB1 := Lib.hid (HB.out.trans (hb1.mono HB.out.size)); have hk1 := (hb1.block w.heap.size HZ.out).trans HK.out; have j0 := cell_of_blk hk1 0 (.string x) rfl; have j1 := cell_of_blk hk1 1 (.int .i64 n) rfl; have j2 := cell_of_blk hk1 2 (.int .i64 m) rfl; clear hb1 hk1) | (go_at_call 52; (with_reducible refine (HW.out _).mono ?_); rintro e w2 ⟨rfl, rfl⟩))
        go_ret
        exact ⟨by rw [HR.out]; rfl, HB1.out⟩
  · skip
    cases hE : x.toList.isEmpty
    · skip
      have hE2 : (x.toList == []) = false := by rw [← hE]; cases x.toList <;> rfl
      have HR : Hid (okD 4 (x, n, m) = false) := Lib.hid (by rw [okD_4]; simp [hE])
      go_enter Tryd.func53, Tryd.ntmps53
      go_wp2
      go_ret
      exact ⟨by rw [HR.out]; rfl, HB.out⟩
    · skip
      have hE2 : (x.toList == []) = true := by rw [← hE]; cases x.toList <;> rfl
      cases hN : (decide (0 ≤ n) && decide (n ≤ 65535))
      · skip
        have CN := Lib.hid (fun W => by have := rwithin_any n 0 65535 W; rwa [hN] at this)
        have HR : Hid (okD 4 (x, n, m) = false) := Lib.hid (by rw [okD_4]; simp [hE, hN])
        go_enter Tryd.func53, Tryd.ntmps53
        go_wp2_with (first | (go_at_call 50; first | ((with_reducible refine (CN.out _).mono ?_); rintro e w1 ⟨rfl, rfl⟩)))
        go_ret
        exact ⟨by rw [HR.out]; rfl, HB.out⟩
      · skip
        have CN := Lib.hid (fun W => by have := rwithin_any n 0 65535 W; rwa [hN] at this)
        have n0 : 0 ≤ n := by simp at hN; omega
        cases hM : (decide (0 ≤ m) && decide (m ≤ 100000))
        · skip
          have CM := Lib.hid (fun W => by have := rwithin_any m 0 100000 W; rwa [hM] at this)
          have HR : Hid (okD 4 (x, n, m) = false) := Lib.hid (by rw [okD_4]; simp [hE, hN, hM])
          go_enter Tryd.func53, Tryd.ntmps53
          go_wp2_with (first | (go_at_call 50; first | ((with_reducible refine (CN.out _).mono ?_); rintro e w1 ⟨rfl, rfl⟩) | ((with_reducible refine (CM.out _).mono ?_); rintro e w1 ⟨rfl, rfl⟩)))
          go_ret
          exact ⟨by rw [HR.out]; rfl, HB.out⟩
        · skip
          have CM := Lib.hid (fun W => by have := rwithin_any m 0 100000 W; rwa [hM] at this)
          have HR : Hid (okD 4 (x, n, m) = true) := Lib.hid (by rw [okD_4]; simp [hE, hN, hM])
          go_enter Tryd.func53, Tryd.ntmps53
          go_wp2_with (first | (go_at_call 50; first | ((with_reducible refine (CN.out _).mono ?_); rintro e w1 ⟨rfl, rfl⟩) | ((with_reducible refine (CM.out _).mono ?_); rintro e w1 ⟨rfl, rfl⟩)))
          go_ret
          exact ⟨by rw [HR.out]; rfl, HB.out⟩
  · skip
    cases hQ : plainB x.toList
    · skip
      rw [hQ] at HQ
      have HR : Hid (okD 5 (x, n, m) = false) := Lib.hid (by rw [okD_5]; simp [hQ])
      go_enter Tryd.func53, Tryd.ntmps53
      go_wp2_with (first | (go_at_call 77; (with_reducible refine (HQ.out _).mono ?_); rintro e w2 ⟨rfl, rfl⟩))
      go_ret
      exact ⟨by rw [HR.out]; rfl, HB.out⟩
    · skip
      rw [hQ] at HQ
      cases hN0 : (n == 0)
      · skip
        have HR : Hid (okD 5 (x, n, m) = false) := Lib.hid (by rw [okD_5]; simp [hQ, hN0])
        go_enter Tryd.func53, Tryd.ntmps53
        go_wp2_with (first | (go_at_call 77; (with_reducible refine (HQ.out _).mono ?_); rintro e w2 ⟨rfl, rfl⟩))
        go_ret
        exact ⟨by rw [HR.out]; rfl, HB.out⟩
      · skip
        cases hM0 : (m == 0)
        · skip
          have HR : Hid (okD 5 (x, n, m) = false) := Lib.hid (by rw [okD_5]; simp [hQ, hN0, hM0])
          go_enter Tryd.func53, Tryd.ntmps53
          go_wp2_with (first | (go_at_call 77; (with_reducible refine (HQ.out _).mono ?_); rintro e w2 ⟨rfl, rfl⟩))
          go_ret
          exact ⟨by rw [HR.out]; rfl, HB.out⟩
        · skip
          have HR : Hid (okD 5 (x, n, m) = true) := Lib.hid (by rw [okD_5]; simp [hQ, hN0, hM0])
          go_enter Tryd.func53, Tryd.ntmps53
          go_wp2_with (first | (go_at_call 77; (with_reducible refine (HQ.out _).mono ?_); rintro e w2 ⟨rfl, rfl⟩))
          go_ret
          exact ⟨by rw [HR.out]; rfl, HB.out⟩
  · skip
    cases hE : x.toList.isEmpty
    · skip
      have hE2 : (x.toList == []) = false := by rw [← hE]; cases x.toList <;> rfl
      have HR : Hid (okD 6 (x, n, m) = false) := Lib.hid (by rw [okD_6]; simp [hE])
      go_enter Tryd.func53, Tryd.ntmps53
      go_wp2
      go_ret
      exact ⟨by rw [HR.out]; rfl, HB.out⟩
    · skip
      have hE2 : (x.toList == []) = true := by rw [← hE]; cases x.toList <;> rfl
      cases hN : (decide (1 ≤ n) && decide (n ≤ 1000000))
      · skip
        have CN := Lib.hid (fun W => by have := rwithin_any n 1 1000000 W; rwa [hN] at this)
        have HR : Hid (okD 6 (x, n, m) = false) := Lib.hid (by rw [okD_6]; simp [hE, hN])
        go_enter Tryd.func53, Tryd.ntmps53
        go_wp2_with (first | (go_at_call 50; first | ((with_reducible refine (CN.out _).mono ?_); rintro e w1 ⟨rfl, rfl⟩)))
        go_ret
        exact ⟨by rw [HR.out]; rfl, HB.out⟩
      · skip
        have CN := Lib.hid (fun W => by have := rwithin_any n 1 1000000 W; rwa [hN] at this)
        have n0 : 0 ≤ n := by simp at hN; omega
        cases hM : (decide (1 ≤ m) && decide (m ≤ 3))
        · skip
          have CM := Lib.hid (fun W => by have := rwithin_any m 1 3 W; rwa [hM] at this)
          have HR : Hid (okD 6 (x, n, m) = false) := Lib.hid (by rw [okD_6]; simp [hE, hN, hM])
          go_enter Tryd.func53, Tryd.ntmps53
          go_wp2_with (first | (go_at_call 50; first | ((with_reducible refine (CN.out _).mono ?_); rintro e w1 ⟨rfl, rfl⟩) | ((with_reducible refine (CM.out _).mono ?_); rintro e w1 ⟨rfl, rfl⟩)))
          go_ret
          exact ⟨by rw [HR.out]; rfl, HB.out⟩
        · skip
          have CM := Lib.hid (fun W => by have := rwithin_any m 1 3 W; rwa [hM] at this)
          have HR : Hid (okD 6 (x, n, m) = true) := Lib.hid (by rw [okD_6]; simp [hE, hN, hM])
          go_enter Tryd.func53, Tryd.ntmps53
          go_wp2_with (first | (go_at_call 50; first | ((with_reducible refine (CN.out _).mono ?_); rintro e w1 ⟨rfl, rfl⟩) | ((with_reducible refine (CM.out _).mono ?_); rintro e w1 ⟨rfl, rfl⟩)))
          go_ret
          exact ⟨by rw [HR.out]; rfl, HB.out⟩
  · skip
    cases hE : x.toList.isEmpty
    · skip
      have hE2 : (x.toList == []) = false := by rw [← hE]; cases x.toList <;> rfl
      have HR : Hid (okD 7 (x, n, m) = false) := Lib.hid (by rw [okD_7]; simp [hE])
      go_enter Tryd.func53, Tryd.ntmps53
      go_wp2
      go_ret
      exact ⟨by rw [HR.out]; rfl, HB.out⟩
    · skip
      have hE2 : (x.toList == []) = true := by rw [← hE]; cases x.toList <;> rfl
      cases hN : (decide (1 ≤ n) && decide (n ≤ 1000000))
      · skip
        have CN := Lib.hid (fun W => by have := rwithin_any n 1 1000000 W; rwa [hN] at this)
        have HR : Hid (okD 7 (x, n, m) = false) := Lib.hid (by rw [okD_7]; simp [hE, hN])
        go_enter Tryd.func53, Tryd.ntmps53
        go_wp2_with (first | (go_at_call 50; first | ((with_reducible refine (CN.out _).mono ?_); rintro e w1 ⟨rfl, rfl⟩)))
        go_ret
        exact ⟨by rw [HR.out]; rfl, HB.out⟩
      · skip
        have CN := Lib.hid (fun W => by have := rwithin_any n 1 1000000 W; rwa [hN] at this)
        have n0 : 0 ≤ n := by simp at hN; omega
        cases hM : (decide (1 ≤ m) && decide (m ≤ 3))
        · skip
          have CM := Lib.hid (fun W => by have := rwithin_any m 1 3 W; rwa [hM] at this)
          have HR : Hid (okD 7 (x, n, m) = false) := Lib.hid (by rw [okD_7]; simp [hE, hN, hM])
          go_enter Tryd.func53, Tryd.ntmps53
          go_wp2_with (first | (go_at_call 50; first | ((with_reducible refine (CN.out _).mono ?_); rintro e w1 ⟨rfl, rfl⟩) | ((with_reducible refine (CM.out _).mono ?_); rintro e w1 ⟨rfl, rfl⟩)))
          go_ret
          exact ⟨by rw [HR.out]; rfl, HB.out⟩
        · skip
          have CM := Lib.hid (fun W => by have := rwithin_any m 1 3 W; rwa [hM] at this)
          have HR : Hid (okD 7 (x, n, m) = true) := Lib.hid (by rw [okD_7]; simp [hE, hN, hM])
          go_enter Tryd.func53, Tryd.ntmps53
          go_wp2_with (first | (go_at_call 50; first | ((with_reducible refine (CN.out _).mono ?_); rintro e w1 ⟨rfl, rfl⟩) | ((with_reducible refine (CM.out _).mono ?_); rintro e w1 ⟨rfl, rfl⟩)))
          go_ret
          exact ⟨by rw [HR.out]; rfl, HB.out⟩
  · skip
    cases hV : validB x.toList
    · skip
      rw [hV] at HV
      have HR : Hid (okD 8 (x, n, m) = false) := Lib.hid (by rw [okD_8]; simp [hV])
      go_enter Tryd.func53, Tryd.ntmps53
      go_wp2_with (first | (go_at_call 37; (with_reducible refine (HV.out _).mono ?_); rintro e w1 ⟨rfl, hb1⟩; have HB1 := Lib.hid (HB.out.trans (hb1.mono HB.out.size)); have hk1 := (hb1.block w.heap.size HZ.out).trans HK.out; have j0 := cell_of_blk hk1 0 (.string x) rfl; have j1 := cell_of_blk hk1 1 (.int .i64 n) rfl; have j2 := cell_of_blk hk1 2 (.int .i64 m) rfl; clear hb1 hk1))
      go_ret
      exact ⟨by rw [HR.out]; rfl, HB1.out⟩
    · skip
      rw [hV] at HV
      cases hN : (decide (2 ≤ n) && decide (n ≤ 510))
      · skip
        have CN := Lib.hid (fun W => by have := rwithin_any n 2 510 W; rwa [hN] at this)
        have HR : Hid (okD 8 (x, n, m) = false) := Lib.hid (by rw [okD_8]; simp [hV, hN])
        go_enter Tryd.func53, Tryd.ntmps53
        go_wp2_with (first | (go_at_call 50; first | ((with_reducible refine (CN.out _).mono ?_); rintro e w1 ⟨rfl, rfl⟩)) | (go_at_call 37; (with_reducible refine (HV.out _).mono ?_); rintro e w1 ⟨rfl, hb1⟩; have HB1 := Lib.hid (HB.out.trans (hb1.mono HB.out.size)); have hk1 := (hb1.block w.heap.size HZ.out).trans HK.out; have j0 := cell_of_blk hk1 0 (.string x) rfl; have j1 := cell_of_blk hk1 1 (.int .i64 n) rfl; have j2 := cell_of_blk hk1 2 (.int .i64 m) rfl; clear hb1 hk1))
        go_ret
        exact ⟨by rw [HR.out]; rfl, HB1.out⟩
      · skip
        have CN := Lib.hid (fun W => by have := rwithin_any n 2 510 W; rwa [hN] at this)
        have n0 : 0 ≤ n := by simp at hN; omega
        cases hEV : decide (n % 2 = 0)
        · skip
          have e0 : (n % 2 == 0) = false := by simpa using hEV
          have HR : Hid (okD 8 (x, n, m) = false) := Lib.hid (by rw [okD_8]; simp [hV, hN, hEV])
          go_enter Tryd.func53, Tryd.ntmps53
          go_wp2_with (first | (go_at_call 50; first | ((with_reducible refine (CN.out _).mono ?_); rintro e w1 ⟨rfl, rfl⟩)) | (go_at_call 37; (with_reducible refine (HV.out _).mono ?_); rintro e w1 ⟨rfl, hb1⟩; have HB1 := Lib.hid (HB.out.trans (hb1.mono HB.out.size)); have hk1 := (hb1.block w.heap.size HZ.out).trans HK.out; have j0 := cell_of_blk hk1 0 (.string x) rfl; have j1 := cell_of_blk hk1 1 (.int .i64 n) rfl; have j2 := cell_of_blk hk1 2 (.int .i64 m) rfl; clear hb1 hk1))
          go_ret
          exact ⟨by rw [HR.out]; rfl, HB1.out⟩
        · skip
          have e0 : (n % 2 == 0) = true := by simpa using hEV
          cases hM0 : (m == 0)
          · skip
            have HR : Hid (okD 8 (x, n, m) = false) := Lib.hid (by rw [okD_8]; simp [hV, hN, hEV, hM0])
            go_enter Tryd.func53, Tryd.ntmps53
            go_wp2_with (first | (go_at_call 50; first | ((with_reducible refine (CN.out _).mono ?_); rintro e w1 ⟨rfl, rfl⟩)) | (go_at_call 37; (with_reducible refine (HV.out _).mono ?_); rintro e w1 ⟨rfl, hb1⟩; have HB1 := Lib.hid (HB.out.trans (hb1.mono HB.out.size)); have hk1 := (hb1.block w.heap.size HZ.out).trans HK.out; have j0 := cell_of_blk hk1 0 (.string x) rfl; have j1 := cell_of_blk hk1 1 (.int .i64 n) rfl; have j2 := cell_of_blk hk1 2 (.int .i64 m) rfl; clear hb1 hk1))
            go_ret
            exact ⟨by rw [HR.out]; rfl, HB1.out⟩
          · skip
            have HR : Hid (okD 8 (x, n, m) = true) := Lib.hid (by rw [okD_8]; simp [hV, hN, hEV, hM0])
            go_enter Tryd.func53, Tryd.ntmps53
            go_wp2_with (first | (go_at_call 50; first | ((with_reducible refine (CN.out _).mono ?_); rintro e w1 ⟨rfl, rfl⟩)) | (go_at_call 37; (with_reducible refine (HV.out _).mono ?_); rintro e w1 ⟨rfl, hb1⟩; have HB1 := Lib.hid (HB.out.trans (hb1.mono HB.out.size)); have hk1 := (hb1.block w.heap.size HZ.out).trans HK.out; have j0 := cell_of_blk hk1 0 (.string x) rfl; have j1 := cell_of_blk hk1 1 (.int .i64 n) rfl; have j2 := cell_of_blk hk1 2 (.int .i64 m) rfl; clear hb1 hk1))
            go_ret
            exact ⟨by rw [HR.out]; rfl, HB1.out⟩
end Go.Proofs.YtkhckgknldiheaaDoor
