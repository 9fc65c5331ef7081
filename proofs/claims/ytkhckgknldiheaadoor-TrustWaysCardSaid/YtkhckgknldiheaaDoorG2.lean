/- The contracts of sum of package sign and of its closure; no condition beyond those that each theorem names. -/
import Derived.Test.YtkhckgknldiheaaDoorG1
import Derived.Lib.ConvBytes
namespace Go.Proofs.YtkhckgknldiheaaDoor
set_option linter.unusedSimpArgs false
set_option linter.unusedVariables false
open Go.RowKit
open NmP

theorem SlV.one {q : Nat} {w : World} (u : Value) (T : TypeId) (hq : q < w.heap.size) : SlV q (.slice (some ⟨w.heap.size, 0, none⟩) 1 1) [u] (w.alloc (.cells #[u] T)) :=
  .inr ⟨w.heap.size, 0, 1, rfl, by omega, fun j v hj => by
    match j, hj with
    | 0, hj => simp at hj; subst hj; rw [World.cell?_alloc_at _ _ _ _ rfl]; rfl
    | (j + 1), hj => simp at hj⟩
theorem DigAt.alloc {q h : Nat} {w : World} (hd : DigAt q h w) (o : Obj) : DigAt q h (w.alloc o) := by
  unfold DigAt at *
  rw [heap_alloc_old w o (Array.getElem?_eq_some_iff.1 hd).1]; exact hd
theorem DigAt.lt {q h : Nat} {w : World} (hd : DigAt q h w) : q < w.heap.size := (Array.getElem?_eq_some_iff.1 hd).1
def intC (k : Nat) : Value := .int .i64 k

set_option maxHeartbeats 2000000 in
set_option maxRecDepth 100000 in
theorem numbers_any (q h : Nat) (v : Value) (ks : List Nat) (w : World) (hd : DigAt q h w) (hh : h < 18446744073709551616) (hv : SlV q v (ks.map intC) w) (hk : ∀ k ∈ ks, k < 9223372036854775808) (hn : ks.length ≤ 1000) :
    Calls Tryd.prog 81 #[v, .pointer (some ⟨q, 0, none⟩)] w (DigTo q (digN h (ks.flatMap numC)) w) := by
  obtain ⟨p, c, rfl⟩ := hv.form
  rw [List.length_map] at hv ⊢
  obtain ⟨n, hln⟩ : ∃ n, ks.length = n := ⟨_, rfl⟩
  rw [hln] at hv hn ⊢
  have HL := Lib.hid hln
  have HV := Lib.hid hv
  have HD := Lib.hid hd
  have HK := Lib.hid hk
  clear hv hd hk hln
  go_enter Tryd.func81, Tryd.ntmps81
  go_wp2
  go_loopw [8] (fun s8 wr => ∃ i : Nat, i ≤ n ∧ s8 = .int .i64 i ∧ Hid (DigAt q (digN h ((ks.take i).flatMap numC)) wr) ∧ Hid (w.grownBy wr (some q))) (fun s8 _ => n - (intOf s8).toNat)
  case atStart => exact ⟨0, Nat.zero_le _, rfl, HD, Lib.hid (grown_refl _ _)⟩
  case round =>
    obtain ⟨i, hi, rfl, H1, H2⟩ := hrel
    by_cases hlt : i < n
    · have ia : i < ks.length := by rw [HL.out]; exact hlt
      have ga : ks[i]? = some ks[i] := List.getElem?_eq_getElem ia
      obtain ⟨g, off, rfl, hg, hc⟩ := HV.out.at_ (by rw [List.length_map]; omega)
      have z := hc i (intC ks[i]) (by rw [List.getElem?_map, ga]; rfl)
      have hgl := World.block_lt_of_cell? w _ z
      rw [← World.cell?_of_block (w' := wr) (a := ⟨g, off + i, none⟩) (H2.out.block g hgl (by simp; exact hg))] at z
      have HT : Hid (digN h ((ks.take (i + 1)).flatMap numC) = digN (digN h ((ks.take i).flatMap numC)) (numC ks[i])) := Lib.hid (by rw [List.take_add_one, ga, List.flatMap_append, digN_append]; simp)
      have hm := HK.out ks[i] (List.getElem_mem ia)
      have HVl : Hid (digN h ((ks.take i).flatMap numC) < 18446744073709551616) := Lib.hid (digN_lt _ h hh)
      generalize digN h ((ks.take i).flatMap numC) = V at *
      generalize ks[i] = m at *
      unfold intC at z
      clear ga hc
      have hi1 : (i : Int) < (n : Int) := by omega
      go_wp2
      go_loopw [5] (fun s5 wq => ∃ k : Nat, k ≤ 8 ∧ s5 = .int .i64 (56 - 8 * (k : Int)) ∧ Hid (DigAt q (digN V ((numC m).take k)) wq) ∧ Hid (w.grownBy wq (some q))) (fun s5 _ => (intOf s5 + 8).toNat)
      case atStart => exact ⟨0, by omega, rfl, H1, H2⟩
      case round =>
        obtain ⟨k, hk, rfl, H3, H4⟩ := hrel
        by_cases hk8 : k < 8
        · have W := Lib.hid (write_any q (digN V ((numC m).take k)) (.slice (some ⟨wr.heap.size, 0, none⟩) 1 1) [.int .u8 ((m : Int) / 2 ^ (56 - 8 * k) % 256)] (wr.alloc (.cells #[.int .u8 ((m : Int) / 2 ^ (56 - 8 * k) % 256)] 5)) (H3.out.alloc _) (digN_lt _ _ HVl.out) (SlV.one _ _ H3.out.lt) (by rw [← numB_eq]; intro v hv; exact isB_num m v (by simp only [List.mem_singleton] at hv; subst hv; exact List.mem_map.2 ⟨k, List.mem_range.2 hk8, rfl⟩)) (by simp))
          unfold DigTo at W
          rw [← numB_eq, ← digN_append, ← numC_take m k hk8, numB_eq] at W
          go_wp2_with (go_at_call 82; refine (W.out).mono ?_; rintro e w2 ⟨rfl, h5, h6⟩; have H5 := Lib.hid h5; have H6 := Lib.hid (grown_trans (grown_trans H4.out (grown_alloc _ _ _)) h6); clear h5 h6)
          go_roundw
          case rel => exact ⟨k + 1, by omega, by congr 1; omega, H5, H6⟩
          case measure =>
            simp [intOf]
            omega
        · obtain rfl : k = 8 := by omega
          have h3 := H3.out
          rw [List.take_of_length_le (by rw [numC_len]; omega), ← HT.out] at h3
          have H3' := Lib.hid h3
          clear h3
          go_wp2
          go_roundw
          case rel => exact ⟨i + 1, hlt, by go_num, H3', H4⟩
          case measure =>
            simp [intOf]
            omega
    · obtain rfl : i = n := by omega
      have h1 := H1.out
      rw [List.take_of_length_le (by have := HL.out; omega)] at h1
      have HE := Lib.hid h1
      clear h1
      go_wp2
      go_end0
      exact ⟨rfl, HE.out, H2.out⟩
/-- The digest of nothing. -/
def F0 : Nat := 14695981039346656037
theorem F0_cast : ((F0 : Nat) : Int) = 14695981039346656037 := rfl
theorem F0_lt : F0 < 18446744073709551616 := by unfold F0; decide
def sumN (xs : List Value) (z : ByteArray) (ks : List Nat) : Nat := digN (digN (digN (digN F0 xs) [.int .u8 z.size]) (Lib.strCells z)) (ks.flatMap numC)
theorem sumN_lt (xs : List Value) (z : ByteArray) (ks : List Nat) : sumN xs z ks < 18446744073709551616 := digN_lt _ _ (digN_lt _ _ (digN_lt _ _ (digN_lt _ _ F0_lt)))
theorem grown_bytes (W : World) (s : ByteArray) (r : Option Nat) : W.grownBy (Lib.bytesWorld W 5 s) r :=
  ⟨rfl, rfl, rfl, by rw [Lib.bytesWorld_size]; omega, fun k hk _ => Lib.bytesWorld_at_old W 5 s k hk⟩
theorem DigAt.bytes {q h : Nat} {W : World} (hd : DigAt q h W) (s : ByteArray) : DigAt q h (Lib.bytesWorld W 5 s) := by
  unfold DigAt at *
  rw [Lib.bytesWorld_at_old W 5 s q (Array.getElem?_eq_some_iff.1 hd).1]; exact hd
theorem SlV.bytes {q : Nat} {W : World} (s : ByteArray) (c : Nat) (hq : q < W.heap.size) : SlV q (.slice (some ⟨W.heap.size, 0, none⟩) s.size c) (Lib.strCells s) (Lib.bytesWorld W 5 s) :=
  .inr ⟨W.heap.size, 0, c, by rw [Lib.strCells_length], by omega, fun j v hj => by
    have hjl : j < s.size := by have := (List.getElem?_eq_some_iff.1 hj).1; rwa [Lib.strCells_length] at this
    rw [Nat.zero_add, Lib.bytesWorld_cell W 5 s j hjl]
    rw [← hj, Lib.strCells, List.getElem?_map]
    have h2 : s.data.toList[j]? = some s.data.toList[j] := List.getElem?_eq_getElem (by simpa using hjl)
    rw [h2, List.getD_eq_getElem?_getD, h2]; rfl⟩
theorem SlV.grow {q : Nat} {v : Value} {xs : List Value} {W W' : World} (h : SlV q v xs W) (hg : W.grownBy W' (some q)) : SlV q v xs W' := by
  rcases h with h | ⟨g, off, c, h1, h2, h3⟩
  · exact .inl h
  · refine .inr ⟨g, off, c, h1, h2, fun j u hj => ?_⟩
    have h4 := h3 j u hj
    rw [World.cell?_of_block (hg.block g (World.block_lt_of_cell? W _ h4) (by simp; exact h2))]; exact h4

theorem SlV.four {q : Nat} {w : World} (a b c d : Nat) (T : TypeId) (hq : q < w.heap.size) : SlV q (.slice (some ⟨w.heap.size, 0, none⟩) 4 4) ([a, b, c, d].map intC) (w.alloc (.cells #[.int .i64 a, .int .i64 b, .int .i64 c, .int .i64 d] T)) :=
  .inr ⟨w.heap.size, 0, 4, rfl, by omega, fun j v hj => by
    match j, hj with
    | 0, hj => simp [intC] at hj; subst hj; rw [World.cell?_alloc_at _ _ _ _ rfl]; rfl
    | 1, hj => simp [intC] at hj; subst hj; rw [World.cell?_alloc_at _ _ _ _ rfl]; rfl
    | 2, hj => simp [intC] at hj; subst hj; rw [World.cell?_alloc_at _ _ _ _ rfl]; rfl
    | 3, hj => simp [intC] at hj; subst hj; rw [World.cell?_alloc_at _ _ _ _ rfl]; rfl
    | (j + 4), hj => simp at hj⟩

set_option maxHeartbeats 2000000 in
set_option maxRecDepth 100000 in
theorem sum_any (v : Value) (xs : List Value) (z : ByteArray) (k1 k2 k3 k4 : Nat) (s0 : Int) (w : World) (hv : SlV (w.heap.size + 1) v xs w) (hb : IsB xs) (hn : xs.length ≤ 100000) (hz : z.size < 256)
    (h1 : k1 < 9223372036854775808) (h2 : k2 < 9223372036854775808) (h3 : k3 < 9223372036854775808) (h4 : k4 < 9223372036854775808) :
    Calls Tryd.prog 59 #[v, .agg #[.string z, .int .i64 k1, .int .i64 k2, .int .i64 k3, .int .i64 k4, .int .u64 s0]] w fun e w' => e = .returned (.int .u64 (sumN xs z [k1, k2, k3, k4])) ∧ Below w.heap.size w w' := by
  have hb0 : Below w.heap.size w ((w.alloc (.cells #[.string z, .int .i64 k1, .int .i64 k2, .int .i64 k3, .int .i64 k4, .int .u64 s0] 49)).alloc (.cells #[.int .u64 14695981039346656037] 119)) := ((Below.refl _ w).alloc (Nat.le_refl _) _).alloc (by simp) _
  have hd0 : DigAt (w.heap.size + 1) F0 ((w.alloc (.cells #[.string z, .int .i64 k1, .int .i64 k2, .int .i64 k3, .int .i64 k4, .int .u64 s0] 49)).alloc (.cells #[.int .u64 14695981039346656037] 119)) := by
    unfold DigAt
    rw [F0_cast]
    have := heap_alloc_new (w.alloc (.cells #[.string z, .int .i64 k1, .int .i64 k2, .int .i64 k3, .int .i64 k4, .int .u64 s0] 49)) (.cells #[.int .u64 14695981039346656037] 119)
    simpa using this
  have hs0 : ((w.alloc (.cells #[.string z, .int .i64 k1, .int .i64 k2, .int .i64 k3, .int .i64 k4, .int .u64 s0] 49)).alloc (.cells #[.int .u64 14695981039346656037] 119)).heap[w.heap.size]? = some (Obj.cells #[.string z, .int .i64 k1, .int .i64 k2, .int .i64 k3, .int .i64 k4, .int .u64 s0] 49 (0, 0)) := by
    rw [heap_alloc_old _ _ (by simp)]; exact heap_alloc_new w _
  have hv0 : SlV (w.heap.size + 1) v xs ((w.alloc (.cells #[.string z, .int .i64 k1, .int .i64 k2, .int .i64 k3, .int .i64 k4, .int .u64 s0] 49)).alloc (.cells #[.int .u64 14695981039346656037] 119)) := (hv.grow (grown_alloc w _ _)).grow (grown_alloc _ _ _)
  obtain ⟨p, c, rfl⟩ := hv.form
  have W1 := Lib.hid (write_any (w.heap.size + 1) F0 (.slice p xs.length c) xs _ hd0 F0_lt hv0 hb (by omega))
  unfold DigTo at W1
  have HB0 := Lib.hid hb0
  have HS0 := Lib.hid hs0
  have HD0 := Lib.hid hd0
  clear hb0 hs0 hd0 hv0 hv hb
  go_enter Tryd.func59, Tryd.ntmps59
  go_wp2_with (first | (go_at_call 82; (with_reducible refine (W1.out).mono ?_); rintro e w1 ⟨rfl, q1, q2⟩; fail))
  (with_reducible refine (W1.out).mono ?_)
  rintro e w1 ⟨rfl, q1, q2⟩
  have D1 := Lib.hid q1
  have G1 := Lib.hid q2
  have hs1 := (q2.block w.heap.size (by simp; omega) (by simp)).trans HS0.out
  have z0 := cell_of_blk hs1 0 (.string z) rfl
  have HS1 := Lib.hid hs1
  clear q1 q2 hs1
  have W2 := Lib.hid (write_any (w.heap.size + 1) (digN F0 xs) (.slice (some ⟨w1.heap.size, 0, none⟩) 1 1) [.int .u8 z.size] (w1.alloc (.cells #[.int .u8 z.size] 5)) (D1.out.alloc _) (digN_lt _ _ F0_lt) (SlV.one _ _ D1.out.lt) (isB_one _ hz) (by simp))
  unfold DigTo at W2
  go_wp2_with (first | (go_at_call 82; (with_reducible refine (W2.out).mono ?_); fail))
  (with_reducible refine (W2.out).mono ?_)
  rintro e w2 ⟨rfl, q1, q2⟩
  have D2 := Lib.hid q1
  have G2 := Lib.hid (grown_trans (grown_trans G1.out (grown_alloc _ _ _)) q2)
  have hs2 := (G2.out.block w.heap.size (by simp; omega) (by simp)).trans HS0.out
  have z0' := cell_of_blk hs2 0 (.string z) rfl
  have HS2 := Lib.hid hs2
  clear q1 q2 hs2 z0 W1 W2 D1 G1 HS1
  have hcv := Lib.run_convert_string_bytes (P := Tryd.prog) w2 9 94 5 z Tryd.underlying9 Tryd.underlying94 Tryd.underlying5
  have W3 := Lib.hid (write_any (w.heap.size + 1) _ (.slice (some ⟨w2.heap.size, 0, none⟩) z.size (grownCap w2 z.size 0 5)) (Lib.strCells z) _ (D2.out.bytes z) (digN_lt _ _ (digN_lt _ _ F0_lt)) (SlV.bytes z _ D2.out.lt) (isB_cells z) (by rw [Lib.strCells_length]; omega))
  unfold DigTo at W3
  have HG := Lib.hid (grown_bytes w2 z (some (w.heap.size + 1)))
  generalize Lib.bytesWorld w2 5 z = wb at *
  generalize grownCap w2 z.size 0 5 = cb at *
  go_wp2_with (first | (go_at_call 82; (with_reducible refine (W3.out).mono ?_); fail))
  (with_reducible refine (W3.out).mono ?_)
  rintro e w3 ⟨rfl, q1, q2⟩
  have D3 := Lib.hid q1
  have G3 := Lib.hid (grown_trans (grown_trans G2.out HG.out) q2)
  have hs3 := (G3.out.block w.heap.size (by simp; omega) (by simp)).trans HS0.out
  have y1 := cell_of_blk hs3 1 (.int .i64 k1) rfl
  have y2 := cell_of_blk hs3 2 (.int .i64 k2) rfl
  have y3 := cell_of_blk hs3 3 (.int .i64 k3) rfl
  have y4 := cell_of_blk hs3 4 (.int .i64 k4) rfl
  clear q1 q2 hs3 z0' W3 D2 G2 HS2 HG hcv
  have W4 := Lib.hid (numbers_any (w.heap.size + 1) _ (.slice (some ⟨w3.heap.size, 0, none⟩) 4 4) [k1, k2, k3, k4] (w3.alloc (.cells #[.int .i64 k1, .int .i64 k2, .int .i64 k3, .int .i64 k4] 3)) (D3.out.alloc _) (digN_lt _ _ (digN_lt _ _ (digN_lt _ _ F0_lt))) (SlV.four _ _ _ _ _ D3.out.lt) (by
    intro k hk
    simp only [List.mem_cons, List.not_mem_nil, or_false] at hk
    rcases hk with rfl | rfl | rfl | rfl <;> assumption) (by simp))
  unfold DigTo at W4
  have HE : Hid (digN (digN (digN (digN F0 xs) [.int .u8 z.size]) (Lib.strCells z)) ([k1, k2, k3, k4].flatMap numC) = sumN xs z [k1, k2, k3, k4]) := Lib.hid rfl
  rw [HE.out] at W4
  go_wp2_with (first | (go_at_call 81; (with_reducible refine (W4.out).mono ?_); rintro e w4 ⟨rfl, q1, q2⟩; have x0 := cell_of_blk q1 0 (.int .u64 (sumN xs z [k1, k2, k3, k4])) rfl; have G4 := Lib.hid (grown_trans (grown_trans G3.out (grown_alloc _ _ _)) q2); clear q1 q2))
  go_ret
  refine ⟨rfl, HB0.out.trans ?_⟩
  have g := G4.out
  exact ⟨g.os, g.tape, g.output, g.size, fun k hk => g.block k (by simp; omega) (by simp; omega)⟩
end Go.Proofs.YtkhckgknldiheaaDoor
