/- The contract of Valid of the reference implementation of records: it is that of package record, for every set; no condition beyond those that each theorem names. -/
import Derived.Test.YtkhckgknldiheaaDoorVD
import Derived.Test.YtkhckgknldiheaaDoorR9
namespace Go.Proofs.YtkhckgknldiheaaDoor
set_option linter.unusedSimpArgs false
set_option linter.unusedVariables false
open Go.RowKit
open NmP

theorem rule_one (t : Nat) (ht : 1 ≤ t ∧ t ≤ 8) : (ruleOf t).one = (decide ((t : Int) = 3) || decide ((t : Int) = 4)) := by
  have hc : t = 1 ∨ t = 2 ∨ t = 3 ∨ t = 4 ∨ t = 5 ∨ t = 6 ∨ t = 7 ∨ t = 8 := by omega
  rcases hc with rfl | rfl | rfl | rfl | rfl | rfl | rfl | rfl <;> rfl
theorem rule_wild (t : Nat) (ht : 1 ≤ t ∧ t ≤ 8) : (ruleOf t).wild = (decide (t = 1) || decide (t = 5) || decide (t = 8)) := by
  have hc : t = 1 ∨ t = 2 ∨ t = 3 ∨ t = 4 ∨ t = 5 ∨ t = 6 ∨ t = 7 ∨ t = 8 := by omega
  rcases hc with rfl | rfl | rfl | rfl | rfl | rfl | rfl | rfl <;> rfl

set_option maxHeartbeats 2000000 in
set_option maxRecDepth 100000 in
theorem rvset_out (x : ByteArray) (typ life : Int) (p : Option Addr) (n c : Nat) (w : World) (hx : x.size ≤ maxLen) (hn : n ≤ maxLen) (hq : ¬ (validB x.toList = true ∧ (1 ≤ typ ∧ typ ≤ 8) ∧ (0 ≤ life ∧ life ≤ 100000) ∧ 1 ≤ n ∧ n ≤ 8)) :
    Calls Tryd.prog 20 #[.agg #[.string x, .int .i64 typ, .int .i64 life, .slice p n c]] w (ToB false w) := by
  have hb0 := (Below.refl _ w).alloc (Nat.le_refl _) (.cells #[.string x, .int .i64 typ, .int .i64 life, .slice p n c] 25)
  have hk0 : (w.alloc (.cells #[.string x, .int .i64 typ, .int .i64 life, .slice p n c] 25)).heap[w.heap.size]? = some (Obj.cells #[.string x, .int .i64 typ, .int .i64 life, .slice p n c] 25 (0, 0)) := heap_alloc_new w _
  have k0 := cell_of_blk hk0 0 (.string x) rfl
  have k1 := cell_of_blk hk0 1 (.int .i64 typ) rfl
  have k2 := cell_of_blk hk0 2 (.int .i64 life) rfl
  have k3 := cell_of_blk hk0 3 (.slice p n c) rfl
  have HK := Lib.hid hk0
  have HB := Lib.hid hb0
  have HZ : Hid (w.heap.size < (w.alloc (.cells #[.string x, .int .i64 typ, .int .i64 life, .slice p n c] 25)).heap.size) := Lib.hid (by simp)
  clear hb0 hk0
  have HV := Lib.hid (fun W => rvalid_any x W hx)
  have CT := Lib.hid (fun W => rwithin_any typ 1 8 W)
  have CF := Lib.hid (fun W => rwithin_any life 0 100000 W)
  have CN := Lib.hid (fun W => rwithin_any (n : Int) 1 8 W)
  cases hv : validB x.toList
  · rw [hv] at HV
    go_enter Tryd.func20, Tryd.ntmps20
    go_wp2_with (first | (go_at_call 37; (with_reducible refine (HV.out _).mono ?_); rintro e w1 ⟨rfl, hb1⟩; have HB1 := Lib.hid (HB.out.trans (hb1.mono HB.out.size)); have HX1 := Lib.hid ((hb1.block w.heap.size HZ.out).trans HK.out); have HL1 := Lib.hid (Nat.lt_of_lt_of_le HZ.out hb1.size); have j0 := cell_of_blk HX1.out 0 (.string x) rfl; have j1 := cell_of_blk HX1.out 1 (.int .i64 typ) rfl; have j2 := cell_of_blk HX1.out 2 (.int .i64 life) rfl; have j3 := cell_of_blk HX1.out 3 (.slice p n c) rfl; clear hb1) | (go_at_call 50; first | ((with_reducible refine (CT.out _).mono ?_); rintro e w2 ⟨rfl, rfl⟩) | ((with_reducible refine (CF.out _).mono ?_); rintro e w2 ⟨rfl, rfl⟩) | ((with_reducible refine (CN.out _).mono ?_); rintro e w2 ⟨rfl, rfl⟩)))
    go_ret
    exact ⟨rfl, HB1.out⟩
  rw [hv] at HV
  cases hCT : (decide (1 ≤ typ) && decide (typ ≤ 8))
  · rw [hCT] at CT
    go_enter Tryd.func20, Tryd.ntmps20
    go_wp2_with (first | (go_at_call 37; (with_reducible refine (HV.out _).mono ?_); rintro e w1 ⟨rfl, hb1⟩; have HB1 := Lib.hid (HB.out.trans (hb1.mono HB.out.size)); have HX1 := Lib.hid ((hb1.block w.heap.size HZ.out).trans HK.out); have HL1 := Lib.hid (Nat.lt_of_lt_of_le HZ.out hb1.size); have j0 := cell_of_blk HX1.out 0 (.string x) rfl; have j1 := cell_of_blk HX1.out 1 (.int .i64 typ) rfl; have j2 := cell_of_blk HX1.out 2 (.int .i64 life) rfl; have j3 := cell_of_blk HX1.out 3 (.slice p n c) rfl; clear hb1) | (go_at_call 50; first | ((with_reducible refine (CT.out _).mono ?_); rintro e w2 ⟨rfl, rfl⟩) | ((with_reducible refine (CF.out _).mono ?_); rintro e w2 ⟨rfl, rfl⟩) | ((with_reducible refine (CN.out _).mono ?_); rintro e w2 ⟨rfl, rfl⟩)))
    go_ret
    exact ⟨rfl, HB1.out⟩
  rw [hCT] at CT
  cases hCF : (decide (0 ≤ life) && decide (life ≤ 100000))
  · rw [hCF] at CF
    go_enter Tryd.func20, Tryd.ntmps20
    go_wp2_with (first | (go_at_call 37; (with_reducible refine (HV.out _).mono ?_); rintro e w1 ⟨rfl, hb1⟩; have HB1 := Lib.hid (HB.out.trans (hb1.mono HB.out.size)); have HX1 := Lib.hid ((hb1.block w.heap.size HZ.out).trans HK.out); have HL1 := Lib.hid (Nat.lt_of_lt_of_le HZ.out hb1.size); have j0 := cell_of_blk HX1.out 0 (.string x) rfl; have j1 := cell_of_blk HX1.out 1 (.int .i64 typ) rfl; have j2 := cell_of_blk HX1.out 2 (.int .i64 life) rfl; have j3 := cell_of_blk HX1.out 3 (.slice p n c) rfl; clear hb1) | (go_at_call 50; first | ((with_reducible refine (CT.out _).mono ?_); rintro e w2 ⟨rfl, rfl⟩) | ((with_reducible refine (CF.out _).mono ?_); rintro e w2 ⟨rfl, rfl⟩) | ((with_reducible refine (CN.out _).mono ?_); rintro e w2 ⟨rfl, rfl⟩)))
    go_ret
    exact ⟨rfl, HB1.out⟩
  rw [hCF] at CF
  cases hCN : (decide (1 ≤ (n : Int)) && decide ((n : Int) ≤ 8))
  · rw [hCN] at CN
    go_enter Tryd.func20, Tryd.ntmps20
    go_wp2_with (first | (go_at_call 37; (with_reducible refine (HV.out _).mono ?_); rintro e w1 ⟨rfl, hb1⟩; have HB1 := Lib.hid (HB.out.trans (hb1.mono HB.out.size)); have HX1 := Lib.hid ((hb1.block w.heap.size HZ.out).trans HK.out); have HL1 := Lib.hid (Nat.lt_of_lt_of_le HZ.out hb1.size); have j0 := cell_of_blk HX1.out 0 (.string x) rfl; have j1 := cell_of_blk HX1.out 1 (.int .i64 typ) rfl; have j2 := cell_of_blk HX1.out 2 (.int .i64 life) rfl; have j3 := cell_of_blk HX1.out 3 (.slice p n c) rfl; clear hb1) | (go_at_call 50; first | ((with_reducible refine (CT.out _).mono ?_); rintro e w2 ⟨rfl, rfl⟩) | ((with_reducible refine (CF.out _).mono ?_); rintro e w2 ⟨rfl, rfl⟩) | ((with_reducible refine (CN.out _).mono ?_); rintro e w2 ⟨rfl, rfl⟩)))
    go_ret
    exact ⟨rfl, HB1.out⟩
  rw [hCN] at CN
  exfalso
  apply hq
  simp at hCT hCF hCN
  exact ⟨hv, hCT, hCF, by omega, by omega⟩

set_option maxHeartbeats 8000000 in
set_option maxRecDepth 100000 in
theorem rvset_main (x : ByteArray) (t : Nat) (life : Int) (l : List Dt) (b off c : Nat) (w : World) (hx : x.size ≤ maxLen) (hv : validB x.toList = true) (ht : 1 ≤ t ∧ t ≤ 8) (hf : 0 ≤ life ∧ life ≤ 100000) (hn : 1 ≤ l.length ∧ l.length ≤ 8)
    (hs : ∀ d ∈ l, d.1.size ≤ maxLen) (hb : b < w.heap.size) (hA : RD b off l w) :
    Calls Tryd.prog 20 #[.agg #[.string x, .int .i64 t, .int .i64 life, .slice (some ⟨b, off, none⟩) l.length c]] w (ToB (setB x.toList t life l) w) := by
  obtain ⟨n, hln⟩ : ∃ n, l.length = n := ⟨_, rfl⟩
  have hR : setB x.toList t life l = (!((decide ((t : Int) = 3) || decide ((t : Int) = 4)) && decide (1 < n)) && !(!(decide (t = 1) || decide (t = 5) || decide (t = 8)) && wildB x.toList) && okFrom t none l) := by
    unfold setB
    rw [hv, hln, show (decide ((1 : Int) ≤ (t : Int)) && decide ((t : Int) ≤ 8)) = true by simp; omega, show (decide ((0 : Int) ≤ life) && decide (life ≤ 100000)) = true by simp; omega, show (decide ((1 : Int) ≤ (n : Int)) && decide ((n : Int) ≤ 8)) = true by simp; omega, Int.toNat_natCast, rule_one t ht, rule_wild t ht]
    simp only [Bool.true_and]
  rw [hR, hln]
  rw [hln] at hn
  have HL := Lib.hid hln
  have HA := Lib.hid hA
  have HS := Lib.hid hs
  have HH := Lib.hid hb
  have hx6 := (valid_small hv).2
  have hb0 := (Below.refl _ w).alloc (Nat.le_refl _) (.cells #[.string x, .int .i64 (t : Int), .int .i64 life, .slice (some ⟨b, off, none⟩) n c] 25)
  have hk0 : (w.alloc (.cells #[.string x, .int .i64 (t : Int), .int .i64 life, .slice (some ⟨b, off, none⟩) n c] 25)).heap[w.heap.size]? = some (Obj.cells #[.string x, .int .i64 (t : Int), .int .i64 life, .slice (some ⟨b, off, none⟩) n c] 25 (0, 0)) := heap_alloc_new w _
  have k0 := cell_of_blk hk0 0 (.string x) rfl
  have k1 := cell_of_blk hk0 1 (.int .i64 (t : Int)) rfl
  have k2 := cell_of_blk hk0 2 (.int .i64 life) rfl
  have k3 := cell_of_blk hk0 3 (.slice (some ⟨b, off, none⟩) n c) rfl
  have HK := Lib.hid hk0
  have HB := Lib.hid hb0
  have HZ : Hid (w.heap.size < (w.alloc (.cells #[.string x, .int .i64 (t : Int), .int .i64 life, .slice (some ⟨b, off, none⟩) n c] 25)).heap.size) := Lib.hid (by simp)
  clear hb0 hk0
  have HV := Lib.hid (fun W => rvalid_any x W hx)
  have CT := Lib.hid (fun W => rwithin_any (t : Int) 1 8 W)
  have CF := Lib.hid (fun W => rwithin_any life 0 100000 W)
  have CN := Lib.hid (fun W => rwithin_any (n : Int) 1 8 W)
  rw [hv] at HV
  rw [show (decide ((1 : Int) ≤ (t : Int)) && decide ((t : Int) ≤ 8)) = true by simp; omega] at CT
  rw [show (decide ((0 : Int) ≤ life) && decide (life ≤ 100000)) = true by simp; omega] at CF
  rw [show (decide ((1 : Int) ≤ (n : Int)) && decide ((n : Int) ≤ 8)) = true by simp; omega] at CN
  have CS := Lib.hid (fun W => rsingle_any (t : Int) W)
  have CW := Lib.hid (fun W => rwild_any x W hx)
  obtain ⟨wb, hwb⟩ : ∃ r, wildB x.toList = r := ⟨_, rfl⟩
  rw [hwb] at CW ⊢
  obtain ⟨n1, n2⟩ := hn
  obtain ⟨t1, t2⟩ := ht
  have hnI : (n : Int) ≤ 8 := by omega
  have KD := Lib.hid (fun (d : Dt) (h : d.1.size ≤ maxLen) W => (show Calls Tryd.prog 53 #[.int .i64 (t : Int), .agg #[.string d.1, .int .i64 d.2.1, .int .i64 d.2.2]] W fun e w' => e = .returned (.bool (okD t d)) ∧ Below W.heap.size W w' from rdatum_any t ⟨t1, t2⟩ d.1 d.2.1 d.2.2 W h))
  have KL := Lib.hid (fun (a d : Dt) W => (show Calls Tryd.prog 54 #[.agg #[.string a.1, .int .i64 a.2.1, .int .i64 a.2.2], .agg #[.string d.1, .int .i64 d.2.1, .int .i64 d.2.2]] W fun e w' => e = .returned (.bool (decide (lessI a d < 0))) ∧ Below W.heap.size W w' from rless_any a.1 d.1 a.2.1 a.2.2 d.2.1 d.2.2 W))
  clear hR hln hA hs hv hwb hb hf hx6
  obtain ⟨R, hR⟩ : ∃ R, okFrom t none l = R := ⟨_, rfl⟩
  rw [hR]
  have HR := Lib.hid hR
  clear hR
  obtain ⟨sg, hsg⟩ : ∃ r, (decide ((t : Int) = 3) || decide ((t : Int) = 4)) = r := ⟨_, rfl⟩
  rw [hsg] at CS ⊢
  have hsg2 : sg = true → t = 3 ∨ t = 4 := fun h => by rw [h] at hsg; simp at hsg; omega
  have hcase : (sg = true ∧ 1 < n) ∨ (sg = true ∧ n = 1 ∧ wb = true) ∨ (sg = false ∧ wb = true ∧ t ≠ 1 ∧ t ≠ 5 ∧ t ≠ 8) ∨ (sg = true ∧ n = 1 ∧ wb = false) ∨ (sg = false ∧ wb = false) ∨ (sg = false ∧ wb = true ∧ t = 1) ∨ (sg = false ∧ wb = true ∧ t = 5) ∨ (sg = false ∧ wb = true ∧ t = 8) := by
    cases sg <;> cases wb <;> simp <;> omega
  clear hsg
  rcases hcase with ⟨rfl, hn1⟩ | ⟨rfl, hn1, rfl⟩ | ⟨rfl, rfl, g1, g5, g8⟩ | ⟨rfl, hn1, rfl⟩ | ⟨rfl, rfl⟩ | ⟨rfl, rfl, htt⟩ | ⟨rfl, rfl, htt⟩ | ⟨rfl, rfl, htt⟩
  · have d1 : (1 : Int) < (n : Int) := by omega
    rw [show (!(true && decide (1 < n))) = false by simp [hn1], Bool.false_and, Bool.false_and]
    go_enter Tryd.func20, Tryd.ntmps20
    go_wp2_with (first | (go_at_call 37; (with_reducible refine (HV.out _).mono ?_); rintro e w1 ⟨rfl, hb1⟩; have HB1 := Lib.hid (HB.out.trans (hb1.mono HB.out.size)); have HX1 := Lib.hid ((hb1.block w.heap.size HZ.out).trans HK.out); have HL1 := Lib.hid (Nat.lt_of_lt_of_le HZ.out hb1.size); have j0 := cell_of_blk HX1.out 0 (.string x) rfl; have j1 := cell_of_blk HX1.out 1 (.int .i64 (t : Int)) rfl; have j2 := cell_of_blk HX1.out 2 (.int .i64 life) rfl; have j3 := cell_of_blk HX1.out 3 (.slice (some ⟨b, off, none⟩) n c) rfl; clear hb1) | (go_at_call 50; first | ((with_reducible refine (CT.out _).mono ?_); rintro e w2 ⟨rfl, rfl⟩) | ((with_reducible refine (CF.out _).mono ?_); rintro e w2 ⟨rfl, rfl⟩) | ((with_reducible refine (CN.out _).mono ?_); rintro e w2 ⟨rfl, rfl⟩)) | (go_at_call 51; (with_reducible refine (CS.out _).mono ?_); rintro e w2 ⟨rfl, rfl⟩) | (go_at_call 52; (with_reducible refine (CW.out _).mono ?_); rintro e w2 ⟨rfl, rfl⟩))
    go_ret
    exact ⟨by rfl, HB1.out⟩
  · have ht := hsg2 rfl
    have e1 : ((t : Int) != 1) = true := by rw [bne_iff_ne]; omega
    have e5 : ((t : Int) != 5) = true := by rw [bne_iff_ne]; omega
    have e8 : ((t : Int) != 8) = true := by rw [bne_iff_ne]; omega
    have d1 : ¬ (1 : Int) < (n : Int) := by omega
    rw [show (!(decide (t = 1) || decide (t = 5) || decide (t = 8)) && true) = true by simp; omega, Bool.not_true, Bool.and_false, Bool.false_and]
    clear hn1
    go_enter Tryd.func20, Tryd.ntmps20
    go_wp2_with (first | (go_at_call 37; (with_reducible refine (HV.out _).mono ?_); rintro e w1 ⟨rfl, hb1⟩; have HB1 := Lib.hid (HB.out.trans (hb1.mono HB.out.size)); have HX1 := Lib.hid ((hb1.block w.heap.size HZ.out).trans HK.out); have HL1 := Lib.hid (Nat.lt_of_lt_of_le HZ.out hb1.size); have j0 := cell_of_blk HX1.out 0 (.string x) rfl; have j1 := cell_of_blk HX1.out 1 (.int .i64 (t : Int)) rfl; have j2 := cell_of_blk HX1.out 2 (.int .i64 life) rfl; have j3 := cell_of_blk HX1.out 3 (.slice (some ⟨b, off, none⟩) n c) rfl; clear hb1) | (go_at_call 50; first | ((with_reducible refine (CT.out _).mono ?_); rintro e w2 ⟨rfl, rfl⟩) | ((with_reducible refine (CF.out _).mono ?_); rintro e w2 ⟨rfl, rfl⟩) | ((with_reducible refine (CN.out _).mono ?_); rintro e w2 ⟨rfl, rfl⟩)) | (go_at_call 51; (with_reducible refine (CS.out _).mono ?_); rintro e w2 ⟨rfl, rfl⟩) | (go_at_call 52; (with_reducible refine (CW.out _).mono ?_); rintro e w2 ⟨rfl, rfl⟩))
    go_ret
    exact ⟨by rfl, HB1.out⟩
  · have e1 : ((t : Int) != 1) = true := by rw [bne_iff_ne]; omega
    have e5 : ((t : Int) != 5) = true := by rw [bne_iff_ne]; omega
    have e8 : ((t : Int) != 8) = true := by rw [bne_iff_ne]; omega
    rw [show (!(decide (t = 1) || decide (t = 5) || decide (t = 8)) && true) = true by simp [g1, g5, g8], Bool.not_true, Bool.and_false, Bool.false_and]
    go_enter Tryd.func20, Tryd.ntmps20
    go_wp2_with (first | (go_at_call 37; (with_reducible refine (HV.out _).mono ?_); rintro e w1 ⟨rfl, hb1⟩; have HB1 := Lib.hid (HB.out.trans (hb1.mono HB.out.size)); have HX1 := Lib.hid ((hb1.block w.heap.size HZ.out).trans HK.out); have HL1 := Lib.hid (Nat.lt_of_lt_of_le HZ.out hb1.size); have j0 := cell_of_blk HX1.out 0 (.string x) rfl; have j1 := cell_of_blk HX1.out 1 (.int .i64 (t : Int)) rfl; have j2 := cell_of_blk HX1.out 2 (.int .i64 life) rfl; have j3 := cell_of_blk HX1.out 3 (.slice (some ⟨b, off, none⟩) n c) rfl; clear hb1) | (go_at_call 50; first | ((with_reducible refine (CT.out _).mono ?_); rintro e w2 ⟨rfl, rfl⟩) | ((with_reducible refine (CF.out _).mono ?_); rintro e w2 ⟨rfl, rfl⟩) | ((with_reducible refine (CN.out _).mono ?_); rintro e w2 ⟨rfl, rfl⟩)) | (go_at_call 51; (with_reducible refine (CS.out _).mono ?_); rintro e w2 ⟨rfl, rfl⟩) | (go_at_call 52; (with_reducible refine (CW.out _).mono ?_); rintro e w2 ⟨rfl, rfl⟩))
    go_ret
    exact ⟨by rfl, HB1.out⟩
  · have d1 : ¬ (1 : Int) < (n : Int) := by omega
    rw [show (!(true && decide (1 < n)) && !(!(decide (t = 1) || decide (t = 5) || decide (t = 8)) && false) && R) = R by simp [hn1]]
    have HN1 := Lib.hid hn1
    clear hn1
    clear hsg2
    go_enter Tryd.func20, Tryd.ntmps20
    go_wp2_with (first | (go_at_call 37; (with_reducible refine (HV.out _).mono ?_); rintro e w1 ⟨rfl, hb1⟩; have HB1 := Lib.hid (HB.out.trans (hb1.mono HB.out.size)); have HX1 := Lib.hid ((hb1.block w.heap.size HZ.out).trans HK.out); have HL1 := Lib.hid (Nat.lt_of_lt_of_le HZ.out hb1.size); have j0 := cell_of_blk HX1.out 0 (.string x) rfl; have j1 := cell_of_blk HX1.out 1 (.int .i64 (t : Int)) rfl; have j2 := cell_of_blk HX1.out 2 (.int .i64 life) rfl; have j3 := cell_of_blk HX1.out 3 (.slice (some ⟨b, off, none⟩) n c) rfl; clear hb1) | (go_at_call 50; first | ((with_reducible refine (CT.out _).mono ?_); rintro e w2 ⟨rfl, rfl⟩) | ((with_reducible refine (CF.out _).mono ?_); rintro e w2 ⟨rfl, rfl⟩) | ((with_reducible refine (CN.out _).mono ?_); rintro e w2 ⟨rfl, rfl⟩)) | (go_at_call 51; (with_reducible refine (CS.out _).mono ?_); rintro e w2 ⟨rfl, rfl⟩) | (go_at_call 52; (with_reducible refine (CW.out _).mono ?_); rintro e w2 ⟨rfl, rfl⟩))
    clear k0 k1 k2 k3 j0 j1 j2 j3 HK HB HZ HV CT CF CN CS CW
    (try clear d1)
    go_loopw [4] (fun s4 wr => ∃ i : Nat, i ≤ n ∧ s4 = .int .i64 i ∧ Hid (okFrom t (prevD l i) (l.drop i) = R) ∧ Hid (Below w1.heap.size w1 wr)) (fun s4 _ => n - (intOf s4).toNat)
    case atStart => exact ⟨0, Nat.zero_le _, rfl, HR, Lib.hid (Below.refl _ _)⟩
    case round =>
      obtain ⟨i, hi, rfl, HO, HW⟩ := hrel
      by_cases hlt : i < n
      · have ia : i < l.length := by rw [HL.out]; exact hlt
        have ga : l[i]? = some l[i] := List.getElem?_eq_getElem ia
        have hrow := (HA.out.keep HH.out HB1.out).keep (Nat.lt_of_lt_of_le HH.out HB1.out.size) HW.out
        obtain ⟨a0, a1, a2⟩ := hrow.at_ ga
        have hx2 := (HW.out.block w.heap.size HL1.out).trans HX1.out
        have z1 := cell_of_blk hx2 1 (.int .i64 (t : Int)) rfl
        have z3 := cell_of_blk hx2 3 (.slice (some ⟨b, off, none⟩) n c) rfl
        have HF0 := Lib.hid (KD.out l[i] (HS.out _ (List.getElem_mem ia)))
        have hO := HO.out
        rw [drop_ofD ga] at hO
        have HP := Lib.hid (prevD_succ ga)
        generalize l[i] = d at *
        obtain ⟨x1, n1', m1⟩ := d
        simp only at a0 a1 a2
        have hlt2 : (i : Int) < (n : Int) := by omega
        have hBL : Hid (Below w.heap.size w wr) := Lib.hid (HB1.out.trans (HW.out.mono HB1.out.size))
        have hfit := HF0.out
        simp only at hfit
        clear HF0
        cases hok : okD t (x1, n1', m1)
        · rw [hok] at hfit
          obtain rfl : R = false := by rw [← hO]; simp [okFrom, hok]
          have HF := Lib.hid hfit
          clear hfit hok hO HO HR KD KL hx2 hrow
          have gz1 := fun d os => cell_regrown z1 d os
          have gz3 := fun d os => cell_regrown z3 d os
          have ga0 := fun d os => cell_regrown a0 d os
          have ga1 := fun d os => cell_regrown a1 d os
          have ga2 := fun d os => cell_regrown a2 d os
          go_wp2
          refine wp_region_quiet_below (by kernel_rfl) (by kernel_rfl) ?_
          repeat (go_big_quiet_step ((first | (go_at_call 53; (with_reducible exact Calls.regrown_of (HF.out _))))))
          refine wpQuiet_nil ?_
          intro _ hw'
          obtain ⟨⟨dq, osq⟩, hw''⟩ := hw'
          subst hw''
          go_wp2
          go_ret
          exact ⟨rfl, hBL.out.trans ((below_regrown _ dq osq).mono hBL.out.size)⟩
        · rw [hok] at hfit
          have HF := Lib.hid hfit
          cases i with
          | zero =>
            have HS2 : Hid (okFrom t (some (x1, n1', m1)) (l.drop 1) = R) := Lib.hid (by simpa [okFrom, hok, prevD] using hO)
            have h10 : (0 : Int) < (n : Int) := by omega
            simp only [Nat.zero_mul, Nat.add_zero] at a0 a1 a2
            clear hfit hok hO HO HR KD KL hx2 hrow
            have gz1 := fun d os => cell_regrown z1 d os
            have gz3 := fun d os => cell_regrown z3 d os
            have ga0 := fun d os => cell_regrown a0 d os
            have ga1 := fun d os => cell_regrown a1 d os
            have ga2 := fun d os => cell_regrown a2 d os
            go_wp2
            refine wp_region_quiet_below (by kernel_rfl) (by kernel_rfl) ?_
            repeat (go_big_quiet_step ((first | (go_at_call 53; (with_reducible exact Calls.regrown_of (HF.out _))))))
            refine wpQuiet_nil ?_
            intro _ hw'
            obtain ⟨⟨dq, osq⟩, hw''⟩ := hw'
            subst hw''
            go_wp2
            go_roundw
            case rel => exact ⟨1, hlt, rfl, Lib.hid (by rw [HP.out]; exact HS2.out), Lib.hid (HW.out.trans ((below_regrown _ dq osq).mono HW.out.size))⟩
            case measure =>
              simp [intOf]
              omega
          | succ k =>
            exact absurd hlt (by have := HN1.out; omega)
      · obtain rfl : i = n := by omega
        have hO := HO.out
        rw [List.drop_eq_nil_of_le (by have := HL.out; omega)] at hO
        obtain rfl : R = true := by rw [← hO]; cases prevD l i <;> rfl
        clear hO
        go_wp2
        go_ret
        exact ⟨rfl, HB1.out.trans (HW.out.mono HB1.out.size)⟩
  · rw [show (!(false && decide (1 < n)) && !(!(decide (t = 1) || decide (t = 5) || decide (t = 8)) && false) && R) = R by simp]
    clear hsg2
    go_enter Tryd.func20, Tryd.ntmps20
    go_wp2_with (first | (go_at_call 37; (with_reducible refine (HV.out _).mono ?_); rintro e w1 ⟨rfl, hb1⟩; have HB1 := Lib.hid (HB.out.trans (hb1.mono HB.out.size)); have HX1 := Lib.hid ((hb1.block w.heap.size HZ.out).trans HK.out); have HL1 := Lib.hid (Nat.lt_of_lt_of_le HZ.out hb1.size); have j0 := cell_of_blk HX1.out 0 (.string x) rfl; have j1 := cell_of_blk HX1.out 1 (.int .i64 (t : Int)) rfl; have j2 := cell_of_blk HX1.out 2 (.int .i64 life) rfl; have j3 := cell_of_blk HX1.out 3 (.slice (some ⟨b, off, none⟩) n c) rfl; clear hb1) | (go_at_call 50; first | ((with_reducible refine (CT.out _).mono ?_); rintro e w2 ⟨rfl, rfl⟩) | ((with_reducible refine (CF.out _).mono ?_); rintro e w2 ⟨rfl, rfl⟩) | ((with_reducible refine (CN.out _).mono ?_); rintro e w2 ⟨rfl, rfl⟩)) | (go_at_call 51; (with_reducible refine (CS.out _).mono ?_); rintro e w2 ⟨rfl, rfl⟩) | (go_at_call 52; (with_reducible refine (CW.out _).mono ?_); rintro e w2 ⟨rfl, rfl⟩))
    clear k0 k1 k2 k3 j0 j1 j2 j3 HK HB HZ HV CT CF CN CS CW
    (try clear d1)
    go_loopw [4] (fun s4 wr => ∃ i : Nat, i ≤ n ∧ s4 = .int .i64 i ∧ Hid (okFrom t (prevD l i) (l.drop i) = R) ∧ Hid (Below w1.heap.size w1 wr)) (fun s4 _ => n - (intOf s4).toNat)
    case atStart => exact ⟨0, Nat.zero_le _, rfl, HR, Lib.hid (Below.refl _ _)⟩
    case round =>
      obtain ⟨i, hi, rfl, HO, HW⟩ := hrel
      by_cases hlt : i < n
      · have ia : i < l.length := by rw [HL.out]; exact hlt
        have ga : l[i]? = some l[i] := List.getElem?_eq_getElem ia
        have hrow := (HA.out.keep HH.out HB1.out).keep (Nat.lt_of_lt_of_le HH.out HB1.out.size) HW.out
        obtain ⟨a0, a1, a2⟩ := hrow.at_ ga
        have hx2 := (HW.out.block w.heap.size HL1.out).trans HX1.out
        have z1 := cell_of_blk hx2 1 (.int .i64 (t : Int)) rfl
        have z3 := cell_of_blk hx2 3 (.slice (some ⟨b, off, none⟩) n c) rfl
        have HF0 := Lib.hid (KD.out l[i] (HS.out _ (List.getElem_mem ia)))
        have hO := HO.out
        rw [drop_ofD ga] at hO
        have HP := Lib.hid (prevD_succ ga)
        generalize l[i] = d at *
        obtain ⟨x1, n1', m1⟩ := d
        simp only at a0 a1 a2
        have hlt2 : (i : Int) < (n : Int) := by omega
        have hBL : Hid (Below w.heap.size w wr) := Lib.hid (HB1.out.trans (HW.out.mono HB1.out.size))
        have hfit := HF0.out
        simp only at hfit
        clear HF0
        cases hok : okD t (x1, n1', m1)
        · rw [hok] at hfit
          obtain rfl : R = false := by rw [← hO]; simp [okFrom, hok]
          have HF := Lib.hid hfit
          clear hfit hok hO HO HR KD KL hx2 hrow
          have gz1 := fun d os => cell_regrown z1 d os
          have gz3 := fun d os => cell_regrown z3 d os
          have ga0 := fun d os => cell_regrown a0 d os
          have ga1 := fun d os => cell_regrown a1 d os
          have ga2 := fun d os => cell_regrown a2 d os
          go_wp2
          refine wp_region_quiet_below (by kernel_rfl) (by kernel_rfl) ?_
          repeat (go_big_quiet_step ((first | (go_at_call 53; (with_reducible exact Calls.regrown_of (HF.out _))))))
          refine wpQuiet_nil ?_
          intro _ hw'
          obtain ⟨⟨dq, osq⟩, hw''⟩ := hw'
          subst hw''
          go_wp2
          go_ret
          exact ⟨rfl, hBL.out.trans ((below_regrown _ dq osq).mono hBL.out.size)⟩
        · rw [hok] at hfit
          have HF := Lib.hid hfit
          cases i with
          | zero =>
            have HS2 : Hid (okFrom t (some (x1, n1', m1)) (l.drop 1) = R) := Lib.hid (by simpa [okFrom, hok, prevD] using hO)
            have h10 : (0 : Int) < (n : Int) := by omega
            simp only [Nat.zero_mul, Nat.add_zero] at a0 a1 a2
            clear hfit hok hO HO HR KD KL hx2 hrow
            have gz1 := fun d os => cell_regrown z1 d os
            have gz3 := fun d os => cell_regrown z3 d os
            have ga0 := fun d os => cell_regrown a0 d os
            have ga1 := fun d os => cell_regrown a1 d os
            have ga2 := fun d os => cell_regrown a2 d os
            go_wp2
            refine wp_region_quiet_below (by kernel_rfl) (by kernel_rfl) ?_
            repeat (go_big_quiet_step ((first | (go_at_call 53; (with_reducible exact Calls.regrown_of (HF.out _))))))
            refine wpQuiet_nil ?_
            intro _ hw'
            obtain ⟨⟨dq, osq⟩, hw''⟩ := hw'
            subst hw''
            go_wp2
            go_roundw
            case rel => exact ⟨1, hlt, rfl, Lib.hid (by rw [HP.out]; exact HS2.out), Lib.hid (HW.out.trans ((below_regrown _ dq osq).mono HW.out.size))⟩
            case measure =>
              simp [intOf]
              omega
          | succ k =>
            have gk : l[k]? = some l[k] := List.getElem?_eq_getElem (by omega)
            obtain ⟨b0, b1, b2⟩ := hrow.at_ gk
            rw [show prevD l (k + 1) = some l[k] from gk] at hO
            have HLS := Lib.hid (KL.out l[k] (x1, n1', m1))
            generalize l[k] = pd at *
            obtain ⟨xp, np, mp⟩ := pd
            simp only at b0 b1 b2
            have hS : (decide (lessI (xp, np, mp) (x1, n1', m1) < 0) && okFrom t (some (x1, n1', m1)) (l.drop (k + 2))) = R := by rw [← hO]; simp [okFrom, hok]
            have hls := HLS.out
            simp only at hls
            clear HLS
            generalize decide (lessI (xp, np, mp) (x1, n1', m1) < 0) = r at *
            have hk1 : (k : Int) < (n : Int) := by omega
            have hk2 : (0 : Int) ≤ (k : Int) := by omega
            have hk3 : (k : Int) + 1 < (n : Int) := by omega
            have LS := Lib.hid hls
            cases r
            · obtain rfl : R = false := by rw [← hS]; rfl
              clear hfit hok hO HO HR KD KL hx2 hrow hS hls
              have gz1 := fun d os => cell_regrown z1 d os
              have gz3 := fun d os => cell_regrown z3 d os
              have ga0 := fun d os => cell_regrown a0 d os
              have ga1 := fun d os => cell_regrown a1 d os
              have ga2 := fun d os => cell_regrown a2 d os
              have gb0 := fun d os => cell_regrown b0 d os
              have gb1 := fun d os => cell_regrown b1 d os
              have gb2 := fun d os => cell_regrown b2 d os
              go_wp2
              refine wp_region_quiet_below (by kernel_rfl) (by kernel_rfl) ?_
              repeat (go_big_quiet_step ((first | (go_at_call 53; (with_reducible exact Calls.regrown_of (HF.out _))) | (go_at_call 54; (with_reducible exact Calls.regrown_of (LS.out _))))))
              refine wpQuiet_nil ?_
              intro _ hw'
              obtain ⟨⟨dq, osq⟩, hw''⟩ := hw'
              subst hw''
              go_wp2
              go_ret
              exact ⟨rfl, hBL.out.trans ((below_regrown _ dq osq).mono hBL.out.size)⟩
            · rw [Bool.true_and] at hS
              have HS2 := Lib.hid hS
              clear hfit hok hO HO HR KD KL hx2 hrow hS hls
              have gz1 := fun d os => cell_regrown z1 d os
              have gz3 := fun d os => cell_regrown z3 d os
              have ga0 := fun d os => cell_regrown a0 d os
              have ga1 := fun d os => cell_regrown a1 d os
              have ga2 := fun d os => cell_regrown a2 d os
              have gb0 := fun d os => cell_regrown b0 d os
              have gb1 := fun d os => cell_regrown b1 d os
              have gb2 := fun d os => cell_regrown b2 d os
              go_wp2
              refine wp_region_quiet_below (by kernel_rfl) (by kernel_rfl) ?_
              repeat (go_big_quiet_step ((first | (go_at_call 53; (with_reducible exact Calls.regrown_of (HF.out _))) | (go_at_call 54; (with_reducible exact Calls.regrown_of (LS.out _))))))
              refine wpQuiet_nil ?_
              intro _ hw'
              obtain ⟨⟨dq, osq⟩, hw''⟩ := hw'
              subst hw''
              go_wp2
              go_roundw
              case rel => exact ⟨k + 2, by omega, by go_num, Lib.hid (by rw [HP.out]; exact HS2.out), Lib.hid (HW.out.trans ((below_regrown _ dq osq).mono HW.out.size))⟩
              case measure =>
                simp [intOf]
                omega
      · obtain rfl : i = n := by omega
        have hO := HO.out
        rw [List.drop_eq_nil_of_le (by have := HL.out; omega)] at hO
        obtain rfl : R = true := by rw [← hO]; cases prevD l i <;> rfl
        clear hO
        go_wp2
        go_ret
        exact ⟨rfl, HB1.out.trans (HW.out.mono HB1.out.size)⟩
  · rw [show (!(false && decide (1 < n)) && !(!(decide (t = 1) || decide (t = 5) || decide (t = 8)) && true) && R) = R by simp [htt]]
    have e1 : ((t : Int) != 1) = false := by rw [htt]; rfl
    clear htt
    clear hsg2
    go_enter Tryd.func20, Tryd.ntmps20
    go_wp2_with (first | (go_at_call 37; (with_reducible refine (HV.out _).mono ?_); rintro e w1 ⟨rfl, hb1⟩; have HB1 := Lib.hid (HB.out.trans (hb1.mono HB.out.size)); have HX1 := Lib.hid ((hb1.block w.heap.size HZ.out).trans HK.out); have HL1 := Lib.hid (Nat.lt_of_lt_of_le HZ.out hb1.size); have j0 := cell_of_blk HX1.out 0 (.string x) rfl; have j1 := cell_of_blk HX1.out 1 (.int .i64 (t : Int)) rfl; have j2 := cell_of_blk HX1.out 2 (.int .i64 life) rfl; have j3 := cell_of_blk HX1.out 3 (.slice (some ⟨b, off, none⟩) n c) rfl; clear hb1) | (go_at_call 50; first | ((with_reducible refine (CT.out _).mono ?_); rintro e w2 ⟨rfl, rfl⟩) | ((with_reducible refine (CF.out _).mono ?_); rintro e w2 ⟨rfl, rfl⟩) | ((with_reducible refine (CN.out _).mono ?_); rintro e w2 ⟨rfl, rfl⟩)) | (go_at_call 51; (with_reducible refine (CS.out _).mono ?_); rintro e w2 ⟨rfl, rfl⟩) | (go_at_call 52; (with_reducible refine (CW.out _).mono ?_); rintro e w2 ⟨rfl, rfl⟩))
    clear k0 k1 k2 k3 j0 j1 j2 j3 HK HB HZ HV CT CF CN CS CW
    (try clear d1)
    go_loopw [4] (fun s4 wr => ∃ i : Nat, i ≤ n ∧ s4 = .int .i64 i ∧ Hid (okFrom t (prevD l i) (l.drop i) = R) ∧ Hid (Below w1.heap.size w1 wr)) (fun s4 _ => n - (intOf s4).toNat)
    case atStart => exact ⟨0, Nat.zero_le _, rfl, HR, Lib.hid (Below.refl _ _)⟩
    case round =>
      obtain ⟨i, hi, rfl, HO, HW⟩ := hrel
      by_cases hlt : i < n
      · have ia : i < l.length := by rw [HL.out]; exact hlt
        have ga : l[i]? = some l[i] := List.getElem?_eq_getElem ia
        have hrow := (HA.out.keep HH.out HB1.out).keep (Nat.lt_of_lt_of_le HH.out HB1.out.size) HW.out
        obtain ⟨a0, a1, a2⟩ := hrow.at_ ga
        have hx2 := (HW.out.block w.heap.size HL1.out).trans HX1.out
        have z1 := cell_of_blk hx2 1 (.int .i64 (t : Int)) rfl
        have z3 := cell_of_blk hx2 3 (.slice (some ⟨b, off, none⟩) n c) rfl
        have HF0 := Lib.hid (KD.out l[i] (HS.out _ (List.getElem_mem ia)))
        have hO := HO.out
        rw [drop_ofD ga] at hO
        have HP := Lib.hid (prevD_succ ga)
        generalize l[i] = d at *
        obtain ⟨x1, n1', m1⟩ := d
        simp only at a0 a1 a2
        have hlt2 : (i : Int) < (n : Int) := by omega
        have hBL : Hid (Below w.heap.size w wr) := Lib.hid (HB1.out.trans (HW.out.mono HB1.out.size))
        have hfit := HF0.out
        simp only at hfit
        clear HF0
        cases hok : okD t (x1, n1', m1)
        · rw [hok] at hfit
          obtain rfl : R = false := by rw [← hO]; simp [okFrom, hok]
          have HF := Lib.hid hfit
          clear hfit hok hO HO HR KD KL hx2 hrow
          have gz1 := fun d os => cell_regrown z1 d os
          have gz3 := fun d os => cell_regrown z3 d os
          have ga0 := fun d os => cell_regrown a0 d os
          have ga1 := fun d os => cell_regrown a1 d os
          have ga2 := fun d os => cell_regrown a2 d os
          go_wp2
          refine wp_region_quiet_below (by kernel_rfl) (by kernel_rfl) ?_
          repeat (go_big_quiet_step ((first | (go_at_call 53; (with_reducible exact Calls.regrown_of (HF.out _))))))
          refine wpQuiet_nil ?_
          intro _ hw'
          obtain ⟨⟨dq, osq⟩, hw''⟩ := hw'
          subst hw''
          go_wp2
          go_ret
          exact ⟨rfl, hBL.out.trans ((below_regrown _ dq osq).mono hBL.out.size)⟩
        · rw [hok] at hfit
          have HF := Lib.hid hfit
          cases i with
          | zero =>
            have HS2 : Hid (okFrom t (some (x1, n1', m1)) (l.drop 1) = R) := Lib.hid (by simpa [okFrom, hok, prevD] using hO)
            have h10 : (0 : Int) < (n : Int) := by omega
            simp only [Nat.zero_mul, Nat.add_zero] at a0 a1 a2
            clear hfit hok hO HO HR KD KL hx2 hrow
            have gz1 := fun d os => cell_regrown z1 d os
            have gz3 := fun d os => cell_regrown z3 d os
            have ga0 := fun d os => cell_regrown a0 d os
            have ga1 := fun d os => cell_regrown a1 d os
            have ga2 := fun d os => cell_regrown a2 d os
            go_wp2
            refine wp_region_quiet_below (by kernel_rfl) (by kernel_rfl) ?_
            repeat (go_big_quiet_step ((first | (go_at_call 53; (with_reducible exact Calls.regrown_of (HF.out _))))))
            refine wpQuiet_nil ?_
            intro _ hw'
            obtain ⟨⟨dq, osq⟩, hw''⟩ := hw'
            subst hw''
            go_wp2
            go_roundw
            case rel => exact ⟨1, hlt, rfl, Lib.hid (by rw [HP.out]; exact HS2.out), Lib.hid (HW.out.trans ((below_regrown _ dq osq).mono HW.out.size))⟩
            case measure =>
              simp [intOf]
              omega
          | succ k =>
            have gk : l[k]? = some l[k] := List.getElem?_eq_getElem (by omega)
            obtain ⟨b0, b1, b2⟩ := hrow.at_ gk
            rw [show prevD l (k + 1) = some l[k] from gk] at hO
            have HLS := Lib.hid (KL.out l[k] (x1, n1', m1))
            generalize l[k] = pd at *
            obtain ⟨xp, np, mp⟩ := pd
            simp only at b0 b1 b2
            have hS : (decide (lessI (xp, np, mp) (x1, n1', m1) < 0) && okFrom t (some (x1, n1', m1)) (l.drop (k + 2))) = R := by rw [← hO]; simp [okFrom, hok]
            have hls := HLS.out
            simp only at hls
            clear HLS
            generalize decide (lessI (xp, np, mp) (x1, n1', m1) < 0) = r at *
            have hk1 : (k : Int) < (n : Int) := by omega
            have hk2 : (0 : Int) ≤ (k : Int) := by omega
            have hk3 : (k : Int) + 1 < (n : Int) := by omega
            have LS := Lib.hid hls
            cases r
            · obtain rfl : R = false := by rw [← hS]; rfl
              clear hfit hok hO HO HR KD KL hx2 hrow hS hls
              have gz1 := fun d os => cell_regrown z1 d os
              have gz3 := fun d os => cell_regrown z3 d os
              have ga0 := fun d os => cell_regrown a0 d os
              have ga1 := fun d os => cell_regrown a1 d os
              have ga2 := fun d os => cell_regrown a2 d os
              have gb0 := fun d os => cell_regrown b0 d os
              have gb1 := fun d os => cell_regrown b1 d os
              have gb2 := fun d os => cell_regrown b2 d os
              go_wp2
              refine wp_region_quiet_below (by kernel_rfl) (by kernel_rfl) ?_
              repeat (go_big_quiet_step ((first | (go_at_call 53; (with_reducible exact Calls.regrown_of (HF.out _))) | (go_at_call 54; (with_reducible exact Calls.regrown_of (LS.out _))))))
              refine wpQuiet_nil ?_
              intro _ hw'
              obtain ⟨⟨dq, osq⟩, hw''⟩ := hw'
              subst hw''
              go_wp2
              go_ret
              exact ⟨rfl, hBL.out.trans ((below_regrown _ dq osq).mono hBL.out.size)⟩
            · rw [Bool.true_and] at hS
              have HS2 := Lib.hid hS
              clear hfit hok hO HO HR KD KL hx2 hrow hS hls
              have gz1 := fun d os => cell_regrown z1 d os
              have gz3 := fun d os => cell_regrown z3 d os
              have ga0 := fun d os => cell_regrown a0 d os
              have ga1 := fun d os => cell_regrown a1 d os
              have ga2 := fun d os => cell_regrown a2 d os
              have gb0 := fun d os => cell_regrown b0 d os
              have gb1 := fun d os => cell_regrown b1 d os
              have gb2 := fun d os => cell_regrown b2 d os
              go_wp2
              refine wp_region_quiet_below (by kernel_rfl) (by kernel_rfl) ?_
              repeat (go_big_quiet_step ((first | (go_at_call 53; (with_reducible exact Calls.regrown_of (HF.out _))) | (go_at_call 54; (with_reducible exact Calls.regrown_of (LS.out _))))))
              refine wpQuiet_nil ?_
              intro _ hw'
              obtain ⟨⟨dq, osq⟩, hw''⟩ := hw'
              subst hw''
              go_wp2
              go_roundw
              case rel => exact ⟨k + 2, by omega, by go_num, Lib.hid (by rw [HP.out]; exact HS2.out), Lib.hid (HW.out.trans ((below_regrown _ dq osq).mono HW.out.size))⟩
              case measure =>
                simp [intOf]
                omega
      · obtain rfl : i = n := by omega
        have hO := HO.out
        rw [List.drop_eq_nil_of_le (by have := HL.out; omega)] at hO
        obtain rfl : R = true := by rw [← hO]; cases prevD l i <;> rfl
        clear hO
        go_wp2
        go_ret
        exact ⟨rfl, HB1.out.trans (HW.out.mono HB1.out.size)⟩
  · rw [show (!(false && decide (1 < n)) && !(!(decide (t = 1) || decide (t = 5) || decide (t = 8)) && true) && R) = R by simp [htt]]
    have e1 : ((t : Int) != 1) = true := by rw [bne_iff_ne]; omega
    have e5 : ((t : Int) != 5) = false := by rw [htt]; rfl
    clear htt
    clear hsg2
    go_enter Tryd.func20, Tryd.ntmps20
    go_wp2_with (first | (go_at_call 37; (with_reducible refine (HV.out _).mono ?_); rintro e w1 ⟨rfl, hb1⟩; have HB1 := Lib.hid (HB.out.trans (hb1.mono HB.out.size)); have HX1 := Lib.hid ((hb1.block w.heap.size HZ.out).trans HK.out); have HL1 := Lib.hid (Nat.lt_of_lt_of_le HZ.out hb1.size); have j0 := cell_of_blk HX1.out 0 (.string x) rfl; have j1 := cell_of_blk HX1.out 1 (.int .i64 (t : Int)) rfl; have j2 := cell_of_blk HX1.out 2 (.int .i64 life) rfl; have j3 := cell_of_blk HX1.out 3 (.slice (some ⟨b, off, none⟩) n c) rfl; clear hb1) | (go_at_call 50; first | ((with_reducible refine (CT.out _).mono ?_); rintro e w2 ⟨rfl, rfl⟩) | ((with_reducible refine (CF.out _).mono ?_); rintro e w2 ⟨rfl, rfl⟩) | ((with_reducible refine (CN.out _).mono ?_); rintro e w2 ⟨rfl, rfl⟩)) | (go_at_call 51; (with_reducible refine (CS.out _).mono ?_); rintro e w2 ⟨rfl, rfl⟩) | (go_at_call 52; (with_reducible refine (CW.out _).mono ?_); rintro e w2 ⟨rfl, rfl⟩))
    clear k0 k1 k2 k3 j0 j1 j2 j3 HK HB HZ HV CT CF CN CS CW
    (try clear d1)
    go_loopw [4] (fun s4 wr => ∃ i : Nat, i ≤ n ∧ s4 = .int .i64 i ∧ Hid (okFrom t (prevD l i) (l.drop i) = R) ∧ Hid (Below w1.heap.size w1 wr)) (fun s4 _ => n - (intOf s4).toNat)
    case atStart => exact ⟨0, Nat.zero_le _, rfl, HR, Lib.hid (Below.refl _ _)⟩
    case round =>
      obtain ⟨i, hi, rfl, HO, HW⟩ := hrel
      by_cases hlt : i < n
      · have ia : i < l.length := by rw [HL.out]; exact hlt
        have ga : l[i]? = some l[i] := List.getElem?_eq_getElem ia
        have hrow := (HA.out.keep HH.out HB1.out).keep (Nat.lt_of_lt_of_le HH.out HB1.out.size) HW.out
        obtain ⟨a0, a1, a2⟩ := hrow.at_ ga
        have hx2 := (HW.out.block w.heap.size HL1.out).trans HX1.out
        have z1 := cell_of_blk hx2 1 (.int .i64 (t : Int)) rfl
        have z3 := cell_of_blk hx2 3 (.slice (some ⟨b, off, none⟩) n c) rfl
        have HF0 := Lib.hid (KD.out l[i] (HS.out _ (List.getElem_mem ia)))
        have hO := HO.out
        rw [drop_ofD ga] at hO
        have HP := Lib.hid (prevD_succ ga)
        generalize l[i] = d at *
        obtain ⟨x1, n1', m1⟩ := d
        simp only at a0 a1 a2
        have hlt2 : (i : Int) < (n : Int) := by omega
        have hBL : Hid (Below w.heap.size w wr) := Lib.hid (HB1.out.trans (HW.out.mono HB1.out.size))
        have hfit := HF0.out
        simp only at hfit
        clear HF0
        cases hok : okD t (x1, n1', m1)
        · rw [hok] at hfit
          obtain rfl : R = false := by rw [← hO]; simp [okFrom, hok]
          have HF := Lib.hid hfit
          clear hfit hok hO HO HR KD KL hx2 hrow
          have gz1 := fun d os => cell_regrown z1 d os
          have gz3 := fun d os => cell_regrown z3 d os
          have ga0 := fun d os => cell_regrown a0 d os
          have ga1 := fun d os => cell_regrown a1 d os
          have ga2 := fun d os => cell_regrown a2 d os
          go_wp2
          refine wp_region_quiet_below (by kernel_rfl) (by kernel_rfl) ?_
          repeat (go_big_quiet_step ((first | (go_at_call 53; (with_reducible exact Calls.regrown_of (HF.out _))))))
          refine wpQuiet_nil ?_
          intro _ hw'
          obtain ⟨⟨dq, osq⟩, hw''⟩ := hw'
          subst hw''
          go_wp2
          go_ret
          exact ⟨rfl, hBL.out.trans ((below_regrown _ dq osq).mono hBL.out.size)⟩
        · rw [hok] at hfit
          have HF := Lib.hid hfit
          cases i with
          | zero =>
            have HS2 : Hid (okFrom t (some (x1, n1', m1)) (l.drop 1) = R) := Lib.hid (by simpa [okFrom, hok, prevD] using hO)
            have h10 : (0 : Int) < (n : Int) := by omega
            simp only [Nat.zero_mul, Nat.add_zero] at a0 a1 a2
            clear hfit hok hO HO HR KD KL hx2 hrow
            have gz1 := fun d os => cell_regrown z1 d os
            have gz3 := fun d os => cell_regrown z3 d os
            have ga0 := fun d os => cell_regrown a0 d os
            have ga1 := fun d os => cell_regrown a1 d os
            have ga2 := fun d os => cell_regrown a2 d os
            go_wp2
            refine wp_region_quiet_below (by kernel_rfl) (by kernel_rfl) ?_
            repeat (go_big_quiet_step ((first | (go_at_call 53; (with_reducible exact Calls.regrown_of (HF.out _))))))
            refine wpQuiet_nil ?_
            intro _ hw'
            obtain ⟨⟨dq, osq⟩, hw''⟩ := hw'
            subst hw''
            go_wp2
            go_roundw
            case rel => exact ⟨1, hlt, rfl, Lib.hid (by rw [HP.out]; exact HS2.out), Lib.hid (HW.out.trans ((below_regrown _ dq osq).mono HW.out.size))⟩
            case measure =>
              simp [intOf]
              omega
          | succ k =>
            have gk : l[k]? = some l[k] := List.getElem?_eq_getElem (by omega)
            obtain ⟨b0, b1, b2⟩ := hrow.at_ gk
            rw [show prevD l (k + 1) = some l[k] from gk] at hO
            have HLS := Lib.hid (KL.out l[k] (x1, n1', m1))
            generalize l[k] = pd at *
            obtain ⟨xp, np, mp⟩ := pd
            simp only at b0 b1 b2
            have hS : (decide (lessI (xp, np, mp) (x1, n1', m1) < 0) && okFrom t (some (x1, n1', m1)) (l.drop (k + 2))) = R := by rw [← hO]; simp [okFrom, hok]
            have hls := HLS.out
            simp only at hls
            clear HLS
            generalize decide (lessI (xp, np, mp) (x1, n1', m1) < 0) = r at *
            have hk1 : (k : Int) < (n : Int) := by omega
            have hk2 : (0 : Int) ≤ (k : Int) := by omega
            have hk3 : (k : Int) + 1 < (n : Int) := by omega
            have LS := Lib.hid hls
            cases r
            · obtain rfl : R = false := by rw [← hS]; rfl
              clear hfit hok hO HO HR KD KL hx2 hrow hS hls
              have gz1 := fun d os => cell_regrown z1 d os
              have gz3 := fun d os => cell_regrown z3 d os
              have ga0 := fun d os => cell_regrown a0 d os
              have ga1 := fun d os => cell_regrown a1 d os
              have ga2 := fun d os => cell_regrown a2 d os
              have gb0 := fun d os => cell_regrown b0 d os
              have gb1 := fun d os => cell_regrown b1 d os
              have gb2 := fun d os => cell_regrown b2 d os
              go_wp2
              refine wp_region_quiet_below (by kernel_rfl) (by kernel_rfl) ?_
              repeat (go_big_quiet_step ((first | (go_at_call 53; (with_reducible exact Calls.regrown_of (HF.out _))) | (go_at_call 54; (with_reducible exact Calls.regrown_of (LS.out _))))))
              refine wpQuiet_nil ?_
              intro _ hw'
              obtain ⟨⟨dq, osq⟩, hw''⟩ := hw'
              subst hw''
              go_wp2
              go_ret
              exact ⟨rfl, hBL.out.trans ((below_regrown _ dq osq).mono hBL.out.size)⟩
            · rw [Bool.true_and] at hS
              have HS2 := Lib.hid hS
              clear hfit hok hO HO HR KD KL hx2 hrow hS hls
              have gz1 := fun d os => cell_regrown z1 d os
              have gz3 := fun d os => cell_regrown z3 d os
              have ga0 := fun d os => cell_regrown a0 d os
              have ga1 := fun d os => cell_regrown a1 d os
              have ga2 := fun d os => cell_regrown a2 d os
              have gb0 := fun d os => cell_regrown b0 d os
              have gb1 := fun d os => cell_regrown b1 d os
              have gb2 := fun d os => cell_regrown b2 d os
              go_wp2
              refine wp_region_quiet_below (by kernel_rfl) (by kernel_rfl) ?_
              repeat (go_big_quiet_step ((first | (go_at_call 53; (with_reducible exact Calls.regrown_of (HF.out _))) | (go_at_call 54; (with_reducible exact Calls.regrown_of (LS.out _))))))
              refine wpQuiet_nil ?_
              intro _ hw'
              obtain ⟨⟨dq, osq⟩, hw''⟩ := hw'
              subst hw''
              go_wp2
              go_roundw
              case rel => exact ⟨k + 2, by omega, by go_num, Lib.hid (by rw [HP.out]; exact HS2.out), Lib.hid (HW.out.trans ((below_regrown _ dq osq).mono HW.out.size))⟩
              case measure =>
                simp [intOf]
                omega
      · obtain rfl : i = n := by omega
        have hO := HO.out
        rw [List.drop_eq_nil_of_le (by have := HL.out; omega)] at hO
        obtain rfl : R = true := by rw [← hO]; cases prevD l i <;> rfl
        clear hO
        go_wp2
        go_ret
        exact ⟨rfl, HB1.out.trans (HW.out.mono HB1.out.size)⟩
  · rw [show (!(false && decide (1 < n)) && !(!(decide (t = 1) || decide (t = 5) || decide (t = 8)) && true) && R) = R by simp [htt]]
    have e1 : ((t : Int) != 1) = true := by rw [bne_iff_ne]; omega
    have e5 : ((t : Int) != 5) = true := by rw [bne_iff_ne]; omega
    have e8 : ((t : Int) != 8) = false := by rw [htt]; rfl
    clear htt
    clear hsg2
    go_enter Tryd.func20, Tryd.ntmps20
    go_wp2_with (first | (go_at_call 37; (with_reducible refine (HV.out _).mono ?_); rintro e w1 ⟨rfl, hb1⟩; have HB1 := Lib.hid (HB.out.trans (hb1.mono HB.out.size)); have HX1 := Lib.hid ((hb1.block w.heap.size HZ.out).trans HK.out); have HL1 := Lib.hid (Nat.lt_of_lt_of_le HZ.out hb1.size); have j0 := cell_of_blk HX1.out 0 (.string x) rfl; have j1 := cell_of_blk HX1.out 1 (.int .i64 (t : Int)) rfl; have j2 := cell_of_blk HX1.out 2 (.int .i64 life) rfl; have j3 := cell_of_blk HX1.out 3 (.slice (some ⟨b, off, none⟩) n c) rfl; clear hb1) | (go_at_call 50; first | ((with_reducible refine (CT.out _).mono ?_); rintro e w2 ⟨rfl, rfl⟩) | ((with_reducible refine (CF.out _).mono ?_); rintro e w2 ⟨rfl, rfl⟩) | ((with_reducible refine (CN.out _).mono ?_); rintro e w2 ⟨rfl, rfl⟩)) | (go_at_call 51; (with_reducible refine (CS.out _).mono ?_); rintro e w2 ⟨rfl, rfl⟩) | (go_at_call 52; (with_reducible refine (CW.out _).mono ?_); rintro e w2 ⟨rfl, rfl⟩))
    clear k0 k1 k2 k3 j0 j1 j2 j3 HK HB HZ HV CT CF CN CS CW
    (try clear d1)
    go_loopw [4] (fun s4 wr => ∃ i : Nat, i ≤ n ∧ s4 = .int .i64 i ∧ Hid (okFrom t (prevD l i) (l.drop i) = R) ∧ Hid (Below w1.heap.size w1 wr)) (fun s4 _ => n - (intOf s4).toNat)
    case atStart => exact ⟨0, Nat.zero_le _, rfl, HR, Lib.hid (Below.refl _ _)⟩
    case round =>
      obtain ⟨i, hi, rfl, HO, HW⟩ := hrel
      by_cases hlt : i < n
      · have ia : i < l.length := by rw [HL.out]; exact hlt
        have ga : l[i]? = some l[i] := List.getElem?_eq_getElem ia
        have hrow := (HA.out.keep HH.out HB1.out).keep (Nat.lt_of_lt_of_le HH.out HB1.out.size) HW.out
        obtain ⟨a0, a1, a2⟩ := hrow.at_ ga
        have hx2 := (HW.out.block w.heap.size HL1.out).trans HX1.out
        have z1 := cell_of_blk hx2 1 (.int .i64 (t : Int)) rfl
        have z3 := cell_of_blk hx2 3 (.slice (some ⟨b, off, none⟩) n c) rfl
        have HF0 := Lib.hid (KD.out l[i] (HS.out _ (List.getElem_mem ia)))
        have hO := HO.out
        rw [drop_ofD ga] at hO
        have HP := Lib.hid (prevD_succ ga)
        generalize l[i] = d at *
        obtain ⟨x1, n1', m1⟩ := d
        simp only at a0 a1 a2
        have hlt2 : (i : Int) < (n : Int) := by omega
        have hBL : Hid (Below w.heap.size w wr) := Lib.hid (HB1.out.trans (HW.out.mono HB1.out.size))
        have hfit := HF0.out
        simp only at hfit
        clear HF0
        cases hok : okD t (x1, n1', m1)
        · rw [hok] at hfit
          obtain rfl : R = false := by rw [← hO]; simp [okFrom, hok]
          have HF := Lib.hid hfit
          clear hfit hok hO HO HR KD KL hx2 hrow
          have gz1 := fun d os => cell_regrown z1 d os
          have gz3 := fun d os => cell_regrown z3 d os
          have ga0 := fun d os => cell_regrown a0 d os
          have ga1 := fun d os => cell_regrown a1 d os
          have ga2 := fun d os => cell_regrown a2 d os
          go_wp2
          refine wp_region_quiet_below (by kernel_rfl) (by kernel_rfl) ?_
          repeat (go_big_quiet_step ((first | (go_at_call 53; (with_reducible exact Calls.regrown_of (HF.out _))))))
          refine wpQuiet_nil ?_
          intro _ hw'
          obtain ⟨⟨dq, osq⟩, hw''⟩ := hw'
          subst hw''
          go_wp2
          go_ret
          exact ⟨rfl, hBL.out.trans ((below_regrown _ dq osq).mono hBL.out.size)⟩
        · rw [hok] at hfit
          have HF := Lib.hid hfit
          cases i with
          | zero =>
            have HS2 : Hid (okFrom t (some (x1, n1', m1)) (l.drop 1) = R) := Lib.hid (by simpa [okFrom, hok, prevD] using hO)
            have h10 : (0 : Int) < (n : Int) := by omega
            simp only [Nat.zero_mul, Nat.add_zero] at a0 a1 a2
            clear hfit hok hO HO HR KD KL hx2 hrow
            have gz1 := fun d os => cell_regrown z1 d os
            have gz3 := fun d os => cell_regrown z3 d os
            have ga0 := fun d os => cell_regrown a0 d os
            have ga1 := fun d os => cell_regrown a1 d os
            have ga2 := fun d os => cell_regrown a2 d os
            go_wp2
            refine wp_region_quiet_below (by kernel_rfl) (by kernel_rfl) ?_
            repeat (go_big_quiet_step ((first | (go_at_call 53; (with_reducible exact Calls.regrown_of (HF.out _))))))
            refine wpQuiet_nil ?_
            intro _ hw'
            obtain ⟨⟨dq, osq⟩, hw''⟩ := hw'
            subst hw''
            go_wp2
            go_roundw
            case rel => exact ⟨1, hlt, rfl, Lib.hid (by rw [HP.out]; exact HS2.out), Lib.hid (HW.out.trans ((below_regrown _ dq osq).mono HW.out.size))⟩
            case measure =>
              simp [intOf]
              omega
          | succ k =>
            have gk : l[k]? = some l[k] := List.getElem?_eq_getElem (by omega)
            obtain ⟨b0, b1, b2⟩ := hrow.at_ gk
            rw [show prevD l (k + 1) = some l[k] from gk] at hO
            have HLS := Lib.hid (KL.out l[k] (x1, n1', m1))
            generalize l[k] = pd at *
            obtain ⟨xp, np, mp⟩ := pd
            simp only at b0 b1 b2
            have hS : (decide (lessI (xp, np, mp) (x1, n1', m1) < 0) && okFrom t (some (x1, n1', m1)) (l.drop (k + 2))) = R := by rw [← hO]; simp [okFrom, hok]
            have hls := HLS.out
            simp only at hls
            clear HLS
            generalize decide (lessI (xp, np, mp) (x1, n1', m1) < 0) = r at *
            have hk1 : (k : Int) < (n : Int) := by omega
            have hk2 : (0 : Int) ≤ (k : Int) := by omega
            have hk3 : (k : Int) + 1 < (n : Int) := by omega
            have LS := Lib.hid hls
            cases r
            · obtain rfl : R = false := by rw [← hS]; rfl
              clear hfit hok hO HO HR KD KL hx2 hrow hS hls
              have gz1 := fun d os => cell_regrown z1 d os
              have gz3 := fun d os => cell_regrown z3 d os
              have ga0 := fun d os => cell_regrown a0 d os
              have ga1 := fun d os => cell_regrown a1 d os
              have ga2 := fun d os => cell_regrown a2 d os
              have gb0 := fun d os => cell_regrown b0 d os
              have gb1 := fun d os => cell_regrown b1 d os
              have gb2 := fun d os => cell_regrown b2 d os
              go_wp2
              refine wp_region_quiet_below (by kernel_rfl) (by kernel_rfl) ?_
              repeat (go_big_quiet_step ((first | (go_at_call 53; (with_reducible exact Calls.regrown_of (HF.out _))) | (go_at_call 54; (with_reducible exact Calls.regrown_of (LS.out _))))))
              refine wpQuiet_nil ?_
              intro _ hw'
              obtain ⟨⟨dq, osq⟩, hw''⟩ := hw'
              subst hw''
              go_wp2
              go_ret
              exact ⟨rfl, hBL.out.trans ((below_regrown _ dq osq).mono hBL.out.size)⟩
            · rw [Bool.true_and] at hS
              have HS2 := Lib.hid hS
              clear hfit hok hO HO HR KD KL hx2 hrow hS hls
              have gz1 := fun d os => cell_regrown z1 d os
              have gz3 := fun d os => cell_regrown z3 d os
              have ga0 := fun d os => cell_regrown a0 d os
              have ga1 := fun d os => cell_regrown a1 d os
              have ga2 := fun d os => cell_regrown a2 d os
              have gb0 := fun d os => cell_regrown b0 d os
              have gb1 := fun d os => cell_regrown b1 d os
              have gb2 := fun d os => cell_regrown b2 d os
              go_wp2
              refine wp_region_quiet_below (by kernel_rfl) (by kernel_rfl) ?_
              repeat (go_big_quiet_step ((first | (go_at_call 53; (with_reducible exact Calls.regrown_of (HF.out _))) | (go_at_call 54; (with_reducible exact Calls.regrown_of (LS.out _))))))
              refine wpQuiet_nil ?_
              intro _ hw'
              obtain ⟨⟨dq, osq⟩, hw''⟩ := hw'
              subst hw''
              go_wp2
              go_roundw
              case rel => exact ⟨k + 2, by omega, by go_num, Lib.hid (by rw [HP.out]; exact HS2.out), Lib.hid (HW.out.trans ((below_regrown _ dq osq).mono HW.out.size))⟩
              case measure =>
                simp [intOf]
                omega
      · obtain rfl : i = n := by omega
        have hO := HO.out
        rw [List.drop_eq_nil_of_le (by have := HL.out; omega)] at hO
        obtain rfl : R = true := by rw [← hO]; cases prevD l i <;> rfl
        clear hO
        go_wp2
        go_ret
        exact ⟨rfl, HB1.out.trans (HW.out.mono HB1.out.size)⟩
theorem rvset_any (x : ByteArray) (typ life : Int) (v : Value) (l : List Dt) (w : World) (hx : x.size ≤ maxLen) (hn : l.length ≤ maxLen) (hs : ∀ d ∈ l, d.1.size ≤ maxLen) (hA : SlD v l w) :
    Calls Tryd.prog 20 #[.agg #[.string x, .int .i64 typ, .int .i64 life, v]] w (ToB (setB x.toList typ life l) w) := by
  obtain ⟨p, c, rfl⟩ := hA.form
  by_cases q : validB x.toList = true ∧ (1 ≤ typ ∧ typ ≤ 8) ∧ (0 ≤ life ∧ life ≤ 100000) ∧ 1 ≤ l.length ∧ l.length ≤ 8
  · obtain ⟨hv, ht, hf, hn⟩ := q
    obtain ⟨b, off, rfl, hb, hR⟩ := hA.at_ (by omega)
    obtain ⟨t, rfl⟩ : ∃ t : Nat, typ = t := ⟨typ.toNat, by omega⟩
    exact rvset_main x t life l b off c w hx hv ⟨by omega, by omega⟩ hf hn hs hb hR
  · have e : setB x.toList typ life l = false := by
      rw [Bool.eq_false_iff]
      intro h
      apply q
      unfold setB at h
      simp only [Bool.and_eq_true, decide_eq_true_eq] at h
      obtain ⟨⟨⟨⟨⟨⟨h1, h2⟩, h3⟩, h4⟩, _⟩, _⟩, _⟩ := h
      exact ⟨h1, h2, h3, by omega, by omega⟩
    rw [e]
    exact rvset_out x typ life p l.length c w hx hn q
end Go.Proofs.YtkhckgknldiheaaDoor
