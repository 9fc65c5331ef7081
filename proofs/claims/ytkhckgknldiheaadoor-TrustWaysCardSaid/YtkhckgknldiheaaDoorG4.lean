/- The contract of Sign of package sign where it signs; no condition beyond those that each theorem names. -/
import Derived.Test.YtkhckgknldiheaaDoorG3
namespace Go.Proofs.YtkhckgknldiheaaDoor
set_option linter.unusedSimpArgs false
set_option linter.unusedVariables false
open Go.RowKit
open NmP

theorem OwnBuf.slv {B n : Nat} {v : Value} {xs : List Value} {W0 w : World} (h : Lib.OwnBuf B 5 v n xs W0 w) : ∀ q, w.heap.size ≤ q → SlV q v xs w := fun q hq => by
  have hn := own_len h
  subst hn
  rcases h.1.2 with ⟨rfl, h2⟩ | ⟨g, cap, cur, fz, rfl, h2, h3, _, h4, h5, h6, h7⟩
  · exact .inl ⟨List.length_eq_zero_iff.1 h2, none, 0, rfl⟩
  · have hg := (Array.getElem?_eq_some_iff.1 h3).1
    refine .inr ⟨g, 0, cap, rfl, by omega, fun j u hj => ?_⟩
    rw [Nat.zero_add]
    rw [← h7, List.getElem?_take] at hj
    split at hj
    · have h8 : cur[j]? = some u := by simpa using hj
      simp [World.cell?, h3, h8]
    · cases hj

set_option maxHeartbeats 4000000 in
set_option maxRecDepth 100000 in
theorem sign_ok (s : St) (z : ByteArray) (n1 n2 n3 n4 : Nat) (w : World) (hs : s.In w) (hr : RulesAt w) (hz : z.size ≤ maxLen) (hok : signB s z n1 n2 n3 n4 = true) :
    Calls Tryd.prog 22 #[.agg #[.string s.x, .int .i64 s.typ, .int .i64 s.life, s.v], .string z, .agg #[.int .i64 n1, .int .i64 n2], .int .i64 n3, .int .i64 n4] w fun e w' => e = .returned (.tuple #[.agg #[.string z, .int .i64 n1, .int .i64 n2, .int .i64 n3, .int .i64 n4, .int .u64 (sigSum s z n1 n2 n3 n4)], .int .i64 0]) ∧ Below w.heap.size w w' := by
  have hb0 : Below w.heap.size w (((w.alloc (.cells #[.string s.x, .int .i64 s.typ, .int .i64 s.life, s.v] 25)).alloc (.cells #[.int .i64 n1, .int .i64 n2] 44)).alloc (.cells #[.string ⟨#[]⟩, .int .i64 0, .int .i64 0, .int .i64 0, .int .i64 0, .int .u64 0] 49)) := (((Below.refl _ w).alloc (Nat.le_refl _) _).alloc (by simp) _).alloc (by simp; omega) _
  have hS0 : (((w.alloc (.cells #[.string s.x, .int .i64 s.typ, .int .i64 s.life, s.v] 25)).alloc (.cells #[.int .i64 n1, .int .i64 n2] 44)).alloc (.cells #[.string ⟨#[]⟩, .int .i64 0, .int .i64 0, .int .i64 0, .int .i64 0, .int .u64 0] 49)).heap[w.heap.size]? = some (Obj.cells #[.string s.x, .int .i64 s.typ, .int .i64 s.life, s.v] 25 (0, 0)) := by
    rw [heap_alloc_old _ _ (by simp; omega), heap_alloc_old _ _ (by simp)]; exact heap_alloc_new w _
  have hK0 : (((w.alloc (.cells #[.string s.x, .int .i64 s.typ, .int .i64 s.life, s.v] 25)).alloc (.cells #[.int .i64 n1, .int .i64 n2] 44)).alloc (.cells #[.string ⟨#[]⟩, .int .i64 0, .int .i64 0, .int .i64 0, .int .i64 0, .int .u64 0] 49)).heap[w.heap.size + 1]? = some (Obj.cells #[.int .i64 n1, .int .i64 n2] 44 (0, 0)) := by
    rw [heap_alloc_old _ _ (by simp)]
    have := heap_alloc_new (w.alloc (.cells #[.string s.x, .int .i64 s.typ, .int .i64 s.life, s.v] 25)) (.cells #[.int .i64 n1, .int .i64 n2] 44)
    simpa using this
  have hR0 : (((w.alloc (.cells #[.string s.x, .int .i64 s.typ, .int .i64 s.life, s.v] 25)).alloc (.cells #[.int .i64 n1, .int .i64 n2] 44)).alloc (.cells #[.string ⟨#[]⟩, .int .i64 0, .int .i64 0, .int .i64 0, .int .i64 0, .int .u64 0] 49)).heap[w.heap.size + 2]? = some (Obj.cells #[.string ⟨#[]⟩, .int .i64 0, .int .i64 0, .int .i64 0, .int .i64 0, .int .u64 0] 49 (0, 0)) := by
    have := heap_alloc_new ((w.alloc (.cells #[.string s.x, .int .i64 s.typ, .int .i64 s.life, s.v] 25)).alloc (.cells #[.int .i64 n1, .int .i64 n2] 44)) (.cells #[.string ⟨#[]⟩, .int .i64 0, .int .i64 0, .int .i64 0, .int .i64 0, .int .u64 0] 49)
    simpa using this
  have CV := Lib.hid (valid_set s.x s.typ s.life s.v s.l _ hs.hx hs.hs (hs.hA.keep hb0) (hr.keep hb0))
  have hz0 : w.heap.size + 2 < (((w.alloc (.cells #[.string s.x, .int .i64 s.typ, .int .i64 s.life, s.v] 25)).alloc (.cells #[.int .i64 n1, .int .i64 n2] 44)).alloc (.cells #[.string ⟨#[]⟩, .int .i64 0, .int .i64 0, .int .i64 0, .int .i64 0, .int .u64 0] 49)).heap.size := by simp
  have CK := Lib.hid (fun W => key_any n1 n2 W)
  have CW := Lib.hid (fun W => win_any n3 n4 W)
  have CP := Lib.hid (fun W => hasPrefix_any z W hz)
  have CU := Lib.hid (fun W => Under_all s.x z W hs.hx hz)
  have HV : Hid (setB s.x.toList s.typ s.life s.l = s.ok) := Lib.hid rfl
  rw [HV.out] at CV
  have HB0 := Lib.hid hb0
  have S0 := Lib.hid hS0
  have K0 := Lib.hid hK0
  have R0 := Lib.hid hR0
  unfold signB at hok
  simp only [Bool.and_eq_true, Bool.not_eq_true'] at hok
  obtain ⟨⟨⟨⟨o1, o2⟩, o3⟩, o4⟩, o5⟩ := hok
  have g1 := setB_facts o1
  have hzv : z.size < 256 := by
    unfold inB at o5
    simp only [Bool.and_eq_true] at o5
    have := (valid_small o5.1.2).2
    rw [tl_len] at this
    omega
  have hin : inE s.x.toList z.toList = 0 := by
    unfold inB at o5
    simp only [Bool.and_eq_true] at o5
    unfold inE
    rw [if_pos (by simp [o5.1.1, o5.1.2])]
  have hq1 : n1 < 9223372036854775808 ∧ n2 < 9223372036854775808 := by
    unfold keyB at o2
    simp only [Bool.and_eq_true, decide_eq_true_eq] at o2
    omega
  have hq2 : n3 < 9223372036854775808 ∧ n4 < 9223372036854775808 := by
    unfold winB at o3
    simp only [Bool.and_eq_true, decide_eq_true_eq] at o3
    omega
  have CB := Lib.hid (fun W (hb : Below w.heap.size w W) => bytes_set s.x s.typ s.life s.v s.l W o1 hs.hx hs.hs (hs.hA.keep hb) (hr.keep hb))
  have hxs := isB_set s.x s.typ.toNat s.life.toNat s.l (by have := (valid_small g1.1).2; rw [tl_len] at this; omega) (by omega) (fun d hd => by have := (okD_facts (g1.2.2.2.2.2.2.2 d hd)).1; omega)
  have hxl : (setC s.x s.typ.toNat s.life.toNat s.l).length ≤ 100000 := by
    have h1 := datCs_len s.l (fun d hd => (okD_facts (g1.2.2.2.2.2.2.2 d hd)).1)
    have h2 := (valid_small g1.1).2
    rw [tl_len] at h2
    unfold setC
    simp only [List.length_append, textC_len, numC_len, List.length_cons, List.length_nil]
    omega
  have HSum : Hid ((sumN (setC s.x s.typ.toNat s.life.toNat s.l) z [n1, n2, n3, n4] : Int) = sigSum s z n1 n2 n3 n4) := Lib.hid rfl
  unfold BytesTo at CB
  generalize setC s.x s.typ.toNat s.life.toNat s.l = xs at *
  have HXS := Lib.hid hxs
  have HXL := Lib.hid hxl
  rw [o1] at CV
  rw [o2] at CK
  rw [o3] at CW
  rw [o4] at CP
  rw [o5, hin] at CU
  have HZV := Lib.hid hzv
  have Q1 := Lib.hid hq1
  have Q2 := Lib.hid hq2
  obtain ⟨pv, cv, hvv⟩ := hs.hA.form
  clear hb0 hS0 hK0 hR0 HV hz hs hr o1 o2 o3 o4 o5 hxs hxl hzv hin g1 hq1 hq2
  obtain ⟨sx, st, sl, sv, sd⟩ := s
  simp only at hvv
  subst hvv
  simp only at CB CV CU HB0 S0 K0 R0 hz0 ⊢
  go_enter Tryd.func22, Tryd.ntmps22
  go_wp2_with (first | (go_at_call 30; (with_reducible refine (CV.out).mono ?_); rintro e w1 ⟨rfl, hb1⟩; have HB1 := Lib.hid (HB0.out.trans (hb1.mono HB0.out.size)); have S1 := Lib.hid ((hb1.block w.heap.size (by omega)).trans S0.out); have K1 := Lib.hid ((hb1.block (w.heap.size + 1) (by omega)).trans K0.out); have R1 := Lib.hid ((hb1.block (w.heap.size + 2) (by omega)).trans R0.out); clear hb1 CV; have k0 := cell_of_blk K1.out 0 (.int .i64 n1) rfl; have k1 := cell_of_blk K1.out 1 (.int .i64 n2) rfl; have r0 := cell_of_blk R1.out 0 (.string ⟨#[]⟩) rfl; have rf0 := frozen_of_blk R1.out 0; have r1 := cell_of_blk R1.out 1 (.int .i64 0) rfl; have rf1 := frozen_of_blk R1.out 1; have r2 := cell_of_blk R1.out 2 (.int .i64 0) rfl; have rf2 := frozen_of_blk R1.out 2; have r3 := cell_of_blk R1.out 3 (.int .i64 0) rfl; have rf3 := frozen_of_blk R1.out 3; have r4 := cell_of_blk R1.out 4 (.int .i64 0) rfl; have rf4 := frozen_of_blk R1.out 4; have r5 := cell_of_blk R1.out 5 (.int .u64 0) rfl; have rf5 := frozen_of_blk R1.out 5) | (go_at_call 55; (with_reducible refine (CK.out _).mono ?_); rintro e w2 ⟨rfl, hb2⟩; have HB2 := Lib.hid (HB1.out.trans (hb2.mono HB1.out.size)); have hz1 := (Array.getElem?_eq_some_iff.1 R1.out).1; have S2 := Lib.hid ((hb2.block w.heap.size (by omega)).trans S1.out); have K2 := Lib.hid ((hb2.block (w.heap.size + 1) (by omega)).trans K1.out); have R2 := Lib.hid ((hb2.block (w.heap.size + 2) (by omega)).trans R1.out); clear hb2 CK hz1; clear k0 k1 r0 r1 r2 r3 r4 r5 rf0 rf1 rf2 rf3 rf4 rf5; have k0 := cell_of_blk K2.out 0 (.int .i64 n1) rfl; have k1 := cell_of_blk K2.out 1 (.int .i64 n2) rfl; have s0 := cell_of_blk S2.out 0 (.string sx) rfl; have s1 := cell_of_blk S2.out 1 (.int .i64 st) rfl; have s2 := cell_of_blk S2.out 2 (.int .i64 sl) rfl; have s3 := cell_of_blk S2.out 3 (.slice pv sd.length cv) rfl; have r0 := cell_of_blk R2.out 0 (.string ⟨#[]⟩) rfl; have rf0 := frozen_of_blk R2.out 0; have r1 := cell_of_blk R2.out 1 (.int .i64 0) rfl; have rf1 := frozen_of_blk R2.out 1; have r2 := cell_of_blk R2.out 2 (.int .i64 0) rfl; have rf2 := frozen_of_blk R2.out 2; have r3 := cell_of_blk R2.out 3 (.int .i64 0) rfl; have rf3 := frozen_of_blk R2.out 3; have r4 := cell_of_blk R2.out 4 (.int .i64 0) rfl; have rf4 := frozen_of_blk R2.out 4; have r5 := cell_of_blk R2.out 5 (.int .u64 0) rfl; have rf5 := frozen_of_blk R2.out 5) | (go_at_call 56; (with_reducible refine (CW.out _).mono ?_); rintro e w9 ⟨rfl, rfl⟩) | (go_at_call 33; (with_reducible refine (CP.out _).mono ?_); rintro e w9 ⟨rfl, rfl⟩) | (go_at_call 57; (with_reducible refine (CU.out _).mono ?_); rintro e w9 ⟨rfl, rfl⟩) | (go_at_call 58; (with_reducible refine (CB.out _ HB2.out).mono ?_); rintro e w3 ⟨v3, rfl, hb3⟩; have O3 := Lib.hid hb3; have HB3 := Lib.hid (HB2.out.trans (hb3.2.1.mono HB2.out.size)); have hz2 := (Array.getElem?_eq_some_iff.1 R2.out).1; have R3 := Lib.hid ((hb3.2.1.block (w.heap.size + 2) (by omega)).trans R2.out); have K3 := Lib.hid ((hb3.2.1.block (w.heap.size + 1) (by omega)).trans K2.out); clear hb3 hz2; clear s0 s1 s2 s3; clear k0 k1 r0 r1 r2 r3 r4 r5 rf0 rf1 rf2 rf3 rf4 rf5; have k0 := cell_of_blk K3.out 0 (.int .i64 n1) rfl; have k1 := cell_of_blk K3.out 1 (.int .i64 n2) rfl; have r0 := cell_of_blk R3.out 0 (.string ⟨#[]⟩) rfl; have rf0 := frozen_of_blk R3.out 0; have r1 := cell_of_blk R3.out 1 (.int .i64 0) rfl; have rf1 := frozen_of_blk R3.out 1; have r2 := cell_of_blk R3.out 2 (.int .i64 0) rfl; have rf2 := frozen_of_blk R3.out 2; have r3 := cell_of_blk R3.out 3 (.int .i64 0) rfl; have rf3 := frozen_of_blk R3.out 3; have r4 := cell_of_blk R3.out 4 (.int .i64 0) rfl; have rf4 := frozen_of_blk R3.out 4; have r5 := cell_of_blk R3.out 5 (.int .u64 0) rfl; have rf5 := frozen_of_blk R3.out 5) | (go_at_call 59; fail))
  (with_reducible refine (sum_any v3 xs z n1 n2 n3 n4 0 _ (OwnBuf.slv (O3.out.alloc (.cells #[.string z, .int .i64 n1, .int .i64 n2, .int .i64 n3, .int .i64 n4, .int .u64 0] 49)) _ (by omega)) HXS.out HXL.out HZV.out Q1.out.1 Q1.out.2 Q2.out.1 Q2.out.2).mono ?_)
  rintro e w5 ⟨rfl, hb5⟩
  have hz3 := (Array.getElem?_eq_some_iff.1 R3.out).1
  have G5 := Lib.hid ((hb5.block w3.heap.size (by (try simp); (try omega))).trans (heap_alloc_new w3 _))
  have R5 := Lib.hid (((hb5.block (w.heap.size + 2) (by (try simp); (try omega))).trans (heap_alloc_old w3 _ hz3)).trans R3.out)
  have HB5 := Lib.hid ((HB3.out.alloc HB3.out.size _).trans (hb5.mono (by have := HB3.out.size; (try simp); (try omega))))
  clear hb5
  clear k0 k1 r0 r1 r2 r3 r4 r5 rf0 rf1 rf2 rf3 rf4 rf5
  have r0 := cell_of_blk R5.out 0 (.string ⟨#[]⟩) rfl
  have rf0 := frozen_of_blk R5.out 0
  have r1 := cell_of_blk R5.out 1 (.int .i64 0) rfl
  have rf1 := frozen_of_blk R5.out 1
  have r2 := cell_of_blk R5.out 2 (.int .i64 0) rfl
  have rf2 := frozen_of_blk R5.out 2
  have r3 := cell_of_blk R5.out 3 (.int .i64 0) rfl
  have rf3 := frozen_of_blk R5.out 3
  have r4 := cell_of_blk R5.out 4 (.int .i64 0) rfl
  have rf4 := frozen_of_blk R5.out 4
  have r5 := cell_of_blk R5.out 5 (.int .u64 0) rfl
  have rf5 := frozen_of_blk R5.out 5
  have g0 := cell_of_blk G5.out 0 (.string z) rfl
  have g1 := cell_of_blk G5.out 1 (.int .i64 n1) rfl
  have g2 := cell_of_blk G5.out 2 (.int .i64 n2) rfl
  have g3 := cell_of_blk G5.out 3 (.int .i64 n3) rfl
  have g4 := cell_of_blk G5.out 4 (.int .i64 n4) rfl
  have g5 := cell_of_blk G5.out 5 (.int .u64 0) rfl
  have gf5 := frozen_of_blk G5.out 5
  have hne1 : w.heap.size + 2 ≠ w3.heap.size := by omega
  have hne2 : w3.heap.size ≠ w.heap.size + 2 := by omega
  go_wp2
  have R6 : (w5.setCell ⟨w3.heap.size, 5, none⟩ (.int .u64 (sumN xs z [n1, n2, n3, n4]))).heap[w.heap.size + 1 + 1]? = some (Obj.cells #[.string ⟨#[]⟩, .int .i64 0, .int .i64 0, .int .i64 0, .int .i64 0, .int .u64 0] 49 (0, 0)) := (heap_setCell_other w5 ⟨w3.heap.size, 5, none⟩ _ _ hne1).trans R5.out
  have hx := six_set (.string z) (.int .i64 n1) (.int .i64 n2) (.int .i64 n3) (.int .i64 n4) (.int .u64 (sumN xs z [n1, n2, n3, n4])) R6
  have hbx := below_six (HB5.out.setCell (p := ⟨w3.heap.size, 5, none⟩) HB3.out.size (.int .u64 (sumN xs z [n1, n2, n3, n4]))) (q := w.heap.size + 1 + 1) (by omega) (.string z) (.int .i64 n1) (.int .i64 n2) (.int .i64 n3) (.int .i64 n4) (.int .u64 (sumN xs z [n1, n2, n3, n4]))
  generalize (((((World.setCell _ _ _).setCell _ _).setCell _ _).setCell _ _).setCell _ _).setCell _ _ = W' at *
  have x0 := cell_of_blk hx 0 (.string z) rfl
  have x1 := cell_of_blk hx 1 (.int .i64 n1) rfl
  have x2 := cell_of_blk hx 2 (.int .i64 n2) rfl
  have x3 := cell_of_blk hx 3 (.int .i64 n3) rfl
  have x4 := cell_of_blk hx 4 (.int .i64 n4) rfl
  have x5 := cell_of_blk hx 5 (.int .u64 (sumN xs z [n1, n2, n3, n4])) rfl
  refine bodyPost_ret (v := .tuple #[.agg #[.string z, .int .i64 n1, .int .i64 n2, .int .i64 n3, .int .i64 n4, .int .u64 (sumN xs z [n1, n2, n3, n4])], .int .i64 0]) (by simp [results, Tryd.f22, go_sem, x0, x1, x2, x3, x4, x5]) rfl ⟨?_, hbx⟩
  rw [HSum.out]

/-- Sign, for every set that lies in the world. -/
theorem sign_any (s : St) (z : ByteArray) (n a f u : Int) (w : World) (hs : s.In w) (hr : RulesAt w) (hz : z.size ≤ maxLen) :
    Calls Tryd.prog 22 #[.agg #[.string s.x, .int .i64 s.typ, .int .i64 s.life, s.v], .string z, .agg #[.int .i64 n, .int .i64 a], .int .i64 f, .int .i64 u] w fun e w' => e = .returned (signV s z n a f u) ∧ Below w.heap.size w w' := by
  unfold signV
  cases h : signB s z n a f u
  · rw [if_neg (by simp)]
    exact sign_bad s z n a f u w hs hr hz h
  · rw [if_pos rfl]
    have h0 := h
    unfold signB keyB winB at h0
    simp only [Bool.and_eq_true, decide_eq_true_eq] at h0
    obtain ⟨n', rfl⟩ := Int.eq_ofNat_of_zero_le (show 0 ≤ n by omega)
    obtain ⟨a', rfl⟩ := Int.eq_ofNat_of_zero_le (show 0 ≤ a by omega)
    obtain ⟨f', rfl⟩ := Int.eq_ofNat_of_zero_le (show 0 ≤ f by omega)
    obtain ⟨u', rfl⟩ := Int.eq_ofNat_of_zero_le (show 0 ≤ u by omega)
    exact sign_ok s z n' a' f' u' w hs hr hz h
end Go.Proofs.YtkhckgknldiheaaDoor
