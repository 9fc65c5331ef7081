/- The contract of Bytes of package record, for all valid sets; no condition beyond those that each theorem names. -/
import Derived.Test.YtkhckgknldiheaaDoorR9
import Derived.Test.YtkhckgknldiheaaDoorB1
import Derived.Deep.RegionHeld3
namespace Go.Proofs.YtkhckgknldiheaaDoor
set_option linter.unusedSimpArgs false
set_option linter.unusedVariables false
open Go.RowKit
open NmP

/-! plain -/
def datC (d : Dt) : List Value := textC d.1 ++ numC d.2.1.toNat ++ numC d.2.2.toNat
def setC (x : ByteArray) (typ life : Nat) (l : List Dt) : List Value := textC x ++ numC typ ++ numC life ++ [.int .u8 l.length] ++ l.flatMap datC
theorem textC_len (s : ByteArray) : (textC s).length = 1 + s.size := by simp [textC, Lib.strCells_length]; omega
theorem numC_len (m : Nat) : (numC m).length = 8 := by simp [numC]
theorem ruleOf_bounds (t : Nat) : 0 ≤ (ruleOf t).lN ∧ (ruleOf t).mN ≤ 1000000 ∧ 0 ≤ (ruleOf t).lM ∧ (ruleOf t).mM ≤ 100000 := by
  unfold ruleOf
  split <;> decide
theorem okD_facts {t : Nat} {d : Dt} (h : okD t d = true) : d.1.size ≤ 60 ∧ 0 ≤ d.2.1 ∧ d.2.1 ≤ 1000000 ∧ 0 ≤ d.2.2 ∧ d.2.2 ≤ 100000 := by
  obtain ⟨b1, b2, b3, b4⟩ := ruleOf_bounds t
  unfold okD fitsB at h
  simp only [Bool.and_eq_true, decide_eq_true_eq] at h
  obtain ⟨⟨⟨h1, h2⟩, _⟩, h4⟩ := h
  refine ⟨?_, by omega, by omega, by omega, by omega⟩
  rw [← tl_len]
  unfold textB at h4
  split at h4
  · simp only [Bool.and_eq_true] at h4
    exact (valid_small h4.1).2
  · split at h4
    · exact (valid_small h4).2
    · split at h4
      · unfold plainB at h4
        simp only [Bool.and_eq_true, decide_eq_true_eq] at h4
        omega
      · simp at h4
        rw [h4]; simp
theorem okFrom_mem {t : Nat} : ∀ {o : Option Dt} {l : List Dt}, okFrom t o l = true → ∀ d ∈ l, okD t d = true
  | _, [], _, _, h => absurd h List.not_mem_nil
  | o, a :: r, h, d, hd => by
    simp only [okFrom, Bool.and_eq_true] at h
    rcases List.mem_cons.1 hd with rfl | hd
    · exact h.1.1
    · exact okFrom_mem h.2 d hd
theorem setB_facts {x : Bs} {typ life : Int} {l : List Dt} (h : setB x typ life l = true) : validB x = true ∧ 1 ≤ typ ∧ typ ≤ 8 ∧ 0 ≤ life ∧ life ≤ 100000 ∧ 1 ≤ l.length ∧ l.length ≤ 8 ∧ ∀ d ∈ l, okD typ.toNat d = true := by
  unfold setB at h
  simp only [Bool.and_eq_true, decide_eq_true_eq] at h
  obtain ⟨⟨⟨⟨⟨⟨h1, h2⟩, h3⟩, h4⟩, _⟩, _⟩, h7⟩ := h
  exact ⟨h1, h2.1, h2.2, h3.1, h3.2, by omega, by omega, okFrom_mem h7⟩

/-! boxes known whole -/
theorem cell_of_blk {W : World} {b : Nat} {cs : Array Value} {t : TypeId} (h : W.heap[b]? = some (Obj.cells cs t (0, 0))) (j : Nat) (u : Value) (hu : cs[j]? = some u) : W.cell? ⟨b, j, none⟩ = some u := by
  simp [World.cell?, h, hu]
theorem KeepNB.set {w w' : World} (h : KeepNB w w') {k : Nat} {cs : Array Value} {fr : Nat × Nat} (hi : w.heap[k]? = some (Obj.cells cs 25 fr)) : w'.heap[k]? = some (Obj.cells cs 25 fr) := h k cs _ fr (by decide) hi
theorem KeepNB.dat {w w' : World} (h : KeepNB w w') {k : Nat} {cs : Array Value} {fr : Nat × Nat} (hi : w.heap[k]? = some (Obj.cells cs 65 fr)) : w'.heap[k]? = some (Obj.cells cs 65 fr) := h k cs _ fr (by decide) hi
theorem own_len {B n : Nat} {v : Value} {xs : List Value} {W0 w : World} (h : Lib.OwnBuf B 5 v n xs W0 w) : n = xs.length := by
  have := h.1.1
  omega
theorem own_len' {B n : Nat} {v : Value} {xs : List Value} {W0 w : World} (h : Lib.OwnBuf B 5 v n xs W0 w) : Lib.OwnBuf B 5 v xs.length xs W0 w := by
  have := own_len h
  subst this
  exact h
theorem datC_len (d : Dt) : (datC d).length = d.1.size + 17 := by
  simp [datC, textC_len, numC_len]; omega
theorem datCs_len : ∀ (l : List Dt), (∀ d ∈ l, d.1.size ≤ 60) → (l.flatMap datC).length ≤ 77 * l.length
  | [], _ => by simp
  | a :: r, h => by
    have h1 := datCs_len r (fun d hd => h d (List.mem_cons_of_mem _ hd))
    have h2 := h a List.mem_cons_self
    rw [List.flatMap_cons, List.length_append, datC_len, List.length_cons]
    omega
/-- A call that ends with the bytes of a set. -/
def BytesTo (w : World) (xs : List Value) (e : Ending) (w' : World) : Prop := ∃ v', e = .returned (.tuple #[v', .int .i64 0]) ∧ Lib.OwnBuf w.heap.size 5 v' xs.length xs w w'

set_option maxHeartbeats 2000000 in
set_option maxRecDepth 100000 in
theorem bytes_set (x : ByteArray) (typ life : Int) (v : Value) (l : List Dt) (w : World) (hv : setB x.toList typ life l = true) (hx : x.size ≤ maxLen) (hs : ∀ d ∈ l, d.1.size ≤ maxLen) (hA : SlD v l w) (hr : RulesAt w) :
    Calls Tryd.prog 58 #[.agg #[.string x, .int .i64 typ, .int .i64 life, v]] w (BytesTo w (setC x typ.toNat life.toNat l)) := by
  obtain ⟨f1, f2, f3, f4, f5, f6, f7, f8⟩ := setB_facts hv
  have hxs := (valid_small f1).2
  rw [tl_len] at hxs
  have hb0 := (Below.refl _ w).alloc (Nat.le_refl _) (.cells #[.string x, .int .i64 typ, .int .i64 life, v] 25)
  have CV := valid_set x typ life v l (w.alloc (.cells #[.string x, .int .i64 typ, .int .i64 life, v] 25)) hx hs (hA.keep hb0) (hr.keep hb0)
  rw [hv] at CV
  obtain ⟨p, c, rfl⟩ := hA.form
  obtain ⟨b, off, rfl, hb, hR⟩ := hA.at_ (by omega)
  obtain ⟨ty, rfl⟩ : ∃ t : Nat, typ = t := ⟨typ.toNat, by omega⟩
  obtain ⟨lf, rfl⟩ : ∃ t : Nat, life = t := ⟨life.toNat, by omega⟩
  obtain ⟨n, hln⟩ : ∃ n, l.length = n := ⟨_, rfl⟩
  rw [hln] at CV f6 f7 hb0 ⊢
  rw [Int.toNat_natCast, Int.toNat_natCast]
  rw [Int.toNat_natCast] at f8
  have HL := Lib.hid hln
  have HR := Lib.hid hR
  have HF := Lib.hid f8
  have HCV := Lib.hid CV
  clear CV hln hR f8 hA hr hs hv hx f1
  obtain ⟨i0, hi0, hz0, hz1, hz2⟩ := info_parts infoB
  have HI := Lib.hid hi0
  have HZ0 := Lib.hid hz0
  have HZ1 := Lib.hid hz1
  have HZ2 := Lib.hid hz2
  clear hi0 hz0 hz1 hz2
  have hblk : (w.alloc (.cells #[.string x, .int .i64 ty, .int .i64 lf, .slice (some ⟨b, off, none⟩) n c] 25)).heap[w.heap.size]? = some (Obj.cells #[.string x, .int .i64 ty, .int .i64 lf, .slice (some ⟨b, off, none⟩) n c] 25 (0, 0)) := heap_alloc_new w _
  have HBK := Lib.hid hblk
  have HB0 := Lib.hid hb0
  clear hblk hb0
  go_enter Tryd.func58, Tryd.ntmps58
  go_wp2_with (first | ( (go_at_call 30; refine (HCV.out).mono ?_; rintro e w1 ⟨rfl, hb1⟩; have HB1 := Lib.hid (HB0.out.trans (hb1.mono HB0.out.size)); have HK1 := Lib.hid ((KeepNB.of_below hb1).set HBK.out); clear hb1 HCV; have z0 := cell_of_blk HK1.out 0 _ rfl)) | ( (go_at_call 79; refine (text_any w.heap.size 0 (.slice none 0 0) [] w w1 x ⟨⟨rfl, .inl ⟨rfl, rfl⟩⟩, HB1.out, HB1.out.size⟩ (by omega) (by omega)).mono ?_; rintro e w2 ⟨v2, rfl, hb2, hk2⟩; have HB2 : Hid (Lib.OwnBuf w.heap.size 5 v2 _ _ w w2.drew) := Lib.hid (hb2.drewN 1); have HK2 := Lib.hid (hk2.set HK1.out); clear hb2 hk2 z0; have z1 := cell_of_blk HK2.out 1 _ rfl; have z2 := cell_of_blk HK2.out 2 _ rfl)))
  go_region_held3 (fun w' => w'.cell? ⟨w.heap.size, 1, none⟩ = some (.int .i64 ty) ∧ w'.cell? ⟨w.heap.size, 2, none⟩ = some (.int .i64 lf))
    (go_keep)
    (first
      | (go_at_call 80; (with_reducible refine (number_any w.heap.size _ v2 _ w w2.drew ty HB2.out (by simp; omega) (by omega)).mono ?_); rintro e w3 ⟨v3, rfl, hb3, hk3⟩; have HB3 := Lib.hid hb3; have HK3 := Lib.hid (hk3.set (w := w2.drew) HK2.out); clear hb3 hk3; have y1 := cell_of_blk HK3.out 1 _ rfl; have y2 := cell_of_blk HK3.out 2 _ rfl)
      | (go_at_call 80; (with_reducible refine (number_any w.heap.size _ v3 _ w w3 lf HB3.out (by simp; omega) (by omega)).mono ?_); rintro e w4 ⟨v4, rfl, hb4, hk4⟩; have HB4 := Lib.hid hb4; have HK4 := Lib.hid (hk4.set HK3.out); clear hb4 hk4; have y1 := cell_of_blk HK4.out 1 _ rfl; have y2 := cell_of_blk HK4.out 2 _ rfl))
  clear z1 z2
  have z3 : w4.cell? ⟨w.heap.size, 3, none⟩ = some (.slice (some ⟨b, off, none⟩) n c) := cell_of_blk HK4.out 3 _ rfl
  go_wp2_with (at_builtin; refine append_byte rfl (.tmp 20) (.tmp 25) 94 rfl w.heap.size i0 Tryd.underlying94 HI.out HZ0.out HZ1.out HZ2.out v4 _ _ rfl w w4 n HB4.out rfl (by omega) (fun v5 w5 hb5 hk5 => ?_); have HB5 := Lib.hid (own_len' hb5); have HK5 := Lib.hid (hk5.set HK4.out); clear hb5 hk5 z3; have z5 : w5.cell? ⟨w.heap.size, 3, none⟩ = some (.slice (some ⟨b, off, none⟩) n c) := cell_of_blk HK5.out 3 _ rfl)
  clear z5
  go_loopw [4, 30, 6] (fun s4 s30 s6 wr => ∃ i : Nat, i ≤ n ∧ s30 = .int .i64 i ∧ Hid (Lib.OwnBuf w.heap.size 5 s4 (textC x ++ numC ty ++ numC lf ++ [Value.int .u8 n] ++ (l.take i).flatMap datC).length (textC x ++ numC ty ++ numC lf ++ [Value.int .u8 n] ++ (l.take i).flatMap datC) w wr)) (fun _ s30 _ _ => n - (intOf s30).toNat)
  case atStart => exact ⟨0, Nat.zero_le _, rfl, Lib.hid (by simpa using HB5.out)⟩
  case round =>
    obtain ⟨i, hi, rfl, HO⟩ := hrel
    by_cases hlt : i < n
    · have ia : i < l.length := by rw [HL.out]; exact hlt
      have ga : l[i]? = some l[i] := List.getElem?_eq_getElem ia
      obtain ⟨a0, a1, a2⟩ := (HR.out.keep hb HO.out.2.1).at_ ga
      obtain ⟨e1, e2, e3, e4, e5⟩ := okD_facts (HF.out _ (List.getElem_mem ia))
      have HT : Hid (l.take (i + 1) = l.take i ++ [l[i]]) := Lib.hid (by rw [List.take_add_one, ga]; rfl)
      have HLn : Hid ((textC x ++ numC ty ++ numC lf ++ [Value.int .u8 n] ++ (l.take i).flatMap datC).length ≤ 90000) := Lib.hid (by
        have h1 := datCs_len (l.take i) (fun d hd => (okD_facts (HF.out d (List.mem_of_mem_take hd))).1)
        have h2 : (l.take i).length ≤ n := by rw [List.length_take]; have := HL.out; omega
        have h3 : (textC x ++ numC ty ++ numC lf ++ [Value.int .u8 n] ++ (l.take i).flatMap datC).length = 1 + x.size + 8 + 8 + 1 + ((l.take i).flatMap datC).length := by
          simp [textC_len, numC_len]
          omega
        omega)
      have HBs := HO.out.2.2
      obtain ⟨pre, hpre⟩ : ∃ p, textC x ++ numC ty ++ numC lf ++ [Value.int .u8 n] ++ (l.take i).flatMap datC = p := ⟨_, rfl⟩
      rw [hpre] at HO HLn
      have HPre := Lib.hid hpre
      clear hpre
      generalize l[i] = d at *
      obtain ⟨x1, n1, m1⟩ := d
      simp only at a0 a1 a2 e1 e2 e3 e4 e5
      obtain ⟨N1, rfl⟩ : ∃ t : Nat, n1 = t := ⟨n1.toNat, by omega⟩
      obtain ⟨M1, rfl⟩ : ∃ t : Nat, m1 = t := ⟨m1.toNat, by omega⟩
      have hx1 : (i : Int) < (n : Int) := by omega
      have HD : Hid ((wr.alloc (.cells #[.string x1, .int .i64 N1, .int .i64 M1] 65)).heap[wr.heap.size]? = some (Obj.cells #[.string x1, .int .i64 N1, .int .i64 M1] 65 (0, 0))) := Lib.hid (heap_alloc_new wr _)
      have HO2 := Lib.hid (HO.out.alloc (.cells #[.string x1, .int .i64 N1, .int .i64 M1] 65))
      clear ga HO
      go_wp2
      have D0 := cell_of_blk HD.out 0 (.string x1) rfl
      have D1 := cell_of_blk HD.out 1 (.int .i64 N1) rfl
      have D2 := cell_of_blk HD.out 2 (.int .i64 M1) rfl
      generalize wr.alloc _ = w6 at *
      obtain ⟨n5, hn5⟩ : ∃ n, wr.heap.size = n := ⟨_, rfl⟩
      rw [hn5] at HD D0 D1 D2 ⊢
      clear hn5
      have HO3 : Hid (Lib.OwnBuf w.heap.size 5 u4 pre.length pre w w6.drew) := Lib.hid (HO2.out.drewN 1)
      clear HO2
      go_region_held3 (fun w' => w'.cell? ⟨n5, 0, none⟩ = some (.string x1) ∧ w'.cell? ⟨n5, 1, none⟩ = some (.int .i64 N1) ∧ w'.cell? ⟨n5, 2, none⟩ = some (.int .i64 M1))
        (go_keep)
        (first
          | (go_at_call 79; (with_reducible refine (text_any w.heap.size pre.length u4 pre w w6.drew x1 HO3.out (by have := HLn.out; omega) (by omega)).mono ?_); rintro e w7 ⟨v7, rfl, hb7, hk7⟩; have HB7 := Lib.hid hb7; have HK7 := Lib.hid (hk7.dat (w := w6.drew) HD.out); clear hb7 hk7; have y0 := cell_of_blk HK7.out 0 (.string x1) rfl; have y1 := cell_of_blk HK7.out 1 (.int .i64 N1) rfl; have y2 := cell_of_blk HK7.out 2 (.int .i64 M1) rfl)
          | (go_at_call 80; (with_reducible refine (number_any w.heap.size _ v7 _ w w7 N1 HB7.out (by have := HLn.out; omega) (by omega)).mono ?_); rintro e w8 ⟨v8, rfl, hb8, hk8⟩; have HB8 := Lib.hid hb8; have HK8 := Lib.hid (hk8.dat HK7.out); clear hb8 hk8; have y0 := cell_of_blk HK8.out 0 (.string x1) rfl; have y1 := cell_of_blk HK8.out 1 (.int .i64 N1) rfl; have y2 := cell_of_blk HK8.out 2 (.int .i64 M1) rfl)
          | (go_at_call 80; (with_reducible refine (number_any w.heap.size _ v8 _ w w8 M1 HB8.out (by have := HLn.out; omega) (by omega)).mono ?_); rintro e w9 ⟨v9, rfl, hb9, hk9⟩; have HB9 := Lib.hid (own_len' hb9); have HK9 := Lib.hid (hk9.dat HK8.out); clear hb9 hk9; have y0 := cell_of_blk HK9.out 0 (.string x1) rfl; have y1 := cell_of_blk HK9.out 1 (.int .i64 N1) rfl; have y2 := cell_of_blk HK9.out 2 (.int .i64 M1) rfl))
      go_wp2
      go_roundw
      case rel =>
        refine ⟨i + 1, hlt, by go_num, Lib.hid ?_⟩
        have h9 := HB9.out
        rw [HT.out, List.flatMap_append, ← List.append_assoc, HPre.out]
        have e9 : pre ++ textC x1 ++ numC N1 ++ numC M1 = pre ++ [((x1, (N1 : Int), (M1 : Int)) : Dt)].flatMap datC := by simp [datC]
        rw [e9] at h9
        exact h9
      case measure =>
        simp [intOf]
        omega
    · obtain rfl : i = n := by omega
      go_wp2
      go_ret2
      refine ⟨_, rfl, ?_⟩
      have h := HO.out
      rw [List.take_of_length_le (by have := HL.out; omega)] at h
      have e9 : setC x ty lf l = textC x ++ numC ty ++ numC lf ++ [Value.int .u8 i] ++ l.flatMap datC := by unfold setC; rw [HL.out]
      rw [e9]
      exact h

set_option maxHeartbeats 2000000 in
set_option maxRecDepth 100000 in
theorem bytes_bad (x : ByteArray) (typ life : Int) (v : Value) (l : List Dt) (w : World) (hv : setB x.toList typ life l = false) (hx : x.size ≤ maxLen) (hs : ∀ d ∈ l, d.1.size ≤ maxLen) (hA : SlD v l w) (hr : RulesAt w) :
    Calls Tryd.prog 58 #[.agg #[.string x, .int .i64 typ, .int .i64 life, v]] w fun e w' => e = .returned (.tuple #[.slice none 0 0, .int .i64 1]) ∧ Below w.heap.size w w' := by
  have hb0 := (Below.refl _ w).alloc (Nat.le_refl _) (.cells #[.string x, .int .i64 typ, .int .i64 life, v] 25)
  have CV := valid_set x typ life v l (w.alloc (.cells #[.string x, .int .i64 typ, .int .i64 life, v] 25)) hx hs (hA.keep hb0) (hr.keep hb0)
  rw [hv] at CV
  obtain ⟨p, c, rfl⟩ := hA.form
  have HCV := Lib.hid CV
  have HB0 := Lib.hid hb0
  clear CV hb0 hA hr hs hv hx
  go_enter Tryd.func58, Tryd.ntmps58
  go_wp2_with (go_at_call 30; refine (HCV.out).mono ?_; rintro e w1 ⟨rfl, hb1⟩; have HB1 := Lib.hid (HB0.out.trans (hb1.mono HB0.out.size)); clear hb1)
  go_ret2
  exact ⟨rfl, HB1.out⟩
end Go.Proofs.YtkhckgknldiheaaDoor
