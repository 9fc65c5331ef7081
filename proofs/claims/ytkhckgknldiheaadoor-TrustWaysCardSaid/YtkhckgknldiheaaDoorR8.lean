/- The contract of Valid of package record, for all sets; no condition beyond those that each theorem names. -/
import Derived.Test.YtkhckgknldiheaaDoorR7
import Derived.Deep.RegionWith
import Derived.Deep.QuietTactic
import Derived.BigQuiet
import Derived.Lib.QuietBelow
namespace Go.Proofs.YtkhckgknldiheaaDoor
set_option linter.unusedSimpArgs false
set_option linter.unusedVariables false
open Go.RowKit
open NmP

/-- What is before a place. -/
def prevD (l : List Dt) : Nat → Option Dt
  | 0 => none
  | k + 1 => l[k]?
theorem prevD_succ {l : List Dt} {k : Nat} {d : Dt} (h : l[k]? = some d) : prevD l (k + 1) = some d := h
theorem drop_ofD {l : List Dt} {k : Nat} {s : Dt} (h : l[k]? = some s) : l.drop k = s :: l.drop (k + 1) := by
  obtain ⟨h1, h2⟩ := List.getElem?_eq_some_iff.1 h
  rw [List.drop_eq_getElem_cons h1, h2]
/-- The boxes of a walk: the set, and its rule. -/
structure SetBox (W : World) (n0 : Nat) (t : Int) (v : Value) (k lN mN lM mM : Int) (o wl : Bool) : Prop where
  s1 : W.cell? ⟨n0, 1, none⟩ = some (.int .i64 t)
  s3 : W.cell? ⟨n0, 3, none⟩ = some v
  r0 : W.cell? ⟨n0 + 1, 0, none⟩ = some (.int .i64 k)
  r1 : W.cell? ⟨n0 + 1, 1, none⟩ = some (.int .i64 lN)
  r2 : W.cell? ⟨n0 + 1, 2, none⟩ = some (.int .i64 mN)
  r3 : W.cell? ⟨n0 + 1, 3, none⟩ = some (.int .i64 lM)
  r4 : W.cell? ⟨n0 + 1, 4, none⟩ = some (.int .i64 mM)
  r5 : W.cell? ⟨n0 + 1, 5, none⟩ = some (.bool o)
  r6 : W.cell? ⟨n0 + 1, 6, none⟩ = some (.bool wl)
theorem SetBox.lt {W : World} {n0 : Nat} {t : Int} {v : Value} {k lN mN lM mM : Int} {o wl : Bool} (h : SetBox W n0 t v k lN mN lM mM o wl) : n0 + 1 < W.heap.size := World.block_lt_of_cell? W _ h.r0
theorem SetBox.keep {W W' : World} {n0 : Nat} {t : Int} {v : Value} {k lN mN lM mM : Int} {o wl : Bool} (h : SetBox W n0 t v k lN mN lM mM o wl) (hb : Below W.heap.size W W') : SetBox W' n0 t v k lN mN lM mM o wl :=
  ⟨(hb.cell (by have := h.lt; simp only; omega)).trans h.s1, (hb.cell (by have := h.lt; simp only; omega)).trans h.s3, (hb.cell h.lt).trans h.r0, (hb.cell h.lt).trans h.r1, (hb.cell h.lt).trans h.r2, (hb.cell h.lt).trans h.r3, (hb.cell h.lt).trans h.r4, (hb.cell h.lt).trans h.r5, (hb.cell h.lt).trans h.r6⟩
theorem setBox (w : World) (x t l v : Value) (k lN mN lM mM : Int) (o wl : Bool) (ti : Int) (ht : t = .int .i64 ti) :
    SetBox ((w.alloc (.cells #[x, t, l, v] 25)).alloc (.cells #[.int .i64 k, .int .i64 lN, .int .i64 mN, .int .i64 lM, .int .i64 mM, .bool o, .bool wl] 101)) w.heap.size ti v k lN mN lM mM o wl := by
  subst ht
  have h0 : ∀ O k', ((w.alloc O).alloc (.cells #[.int .i64 k, .int .i64 lN, .int .i64 mN, .int .i64 lM, .int .i64 mM, .bool o, .bool wl] 101)).cell? ⟨w.heap.size, k', none⟩ = (w.alloc O).cell? ⟨w.heap.size, k', none⟩ := fun O k' => by
    rw [World.cell?_alloc_old _ _ _ (by simp)]
  refine ⟨?_, ?_, ?_, ?_, ?_, ?_, ?_, ?_, ?_⟩
  · rw [h0, World.cell?_alloc_at _ _ _ _ rfl]; rfl
  · rw [h0, World.cell?_alloc_at _ _ _ _ rfl]; rfl
  all_goals
    rw [World.cell?_alloc_at _ _ _ _ (by simp)]; rfl
/-- The box of a round: one datum. -/
structure DatBox (W : World) (n2 : Nat) (d : Dt) : Prop where
  d0 : W.cell? ⟨n2, 0, none⟩ = some (.string d.1)
  d1 : W.cell? ⟨n2, 1, none⟩ = some (.int .i64 d.2.1)
  d2 : W.cell? ⟨n2, 2, none⟩ = some (.int .i64 d.2.2)
theorem datBox (w : World) (d : Dt) : DatBox (w.alloc (.cells #[.string d.1, .int .i64 d.2.1, .int .i64 d.2.2] 65)) w.heap.size d :=
  ⟨by rw [World.cell?_alloc_at _ _ _ _ rfl]; rfl, by rw [World.cell?_alloc_at _ _ _ _ rfl]; rfl, by rw [World.cell?_alloc_at _ _ _ _ rfl]; rfl⟩

set_option maxHeartbeats 2000000 in
set_option maxRecDepth 100000 in
theorem valid_main (x : ByteArray) (t : Nat) (life : Int) (l : List Dt) (b off c : Nat) (w : World) (hx : x.size ≤ maxLen) (hv : validB x.toList = true) (ht : 1 ≤ t ∧ t ≤ 8) (hf : 0 ≤ life ∧ life ≤ 100000) (hn : 1 ≤ l.length ∧ l.length ≤ 8)
    (hs : ∀ d ∈ l, d.1.size ≤ maxLen) (hb : b < w.heap.size) (hA : RD b off l w) (hr : RulesAt w) :
    Calls Tryd.prog 30 #[.agg #[.string x, .int .i64 t, .int .i64 life, .slice (some ⟨b, off, none⟩) l.length c]] w fun e w' => e = .returned (.bool (setB x.toList t life l)) ∧ Below w.heap.size w w' := by
  obtain ⟨n, hln⟩ : ∃ n, l.length = n := ⟨_, rfl⟩
  have hR : setB x.toList t life l = (!((ruleOf t).one && decide (1 < n)) && !(!(ruleOf t).wild && wildB x.toList) && okFrom t none l) := by
    unfold setB
    rw [hv, hln, show (decide ((1 : Int) ≤ (t : Int)) && decide ((t : Int) ≤ 8)) = true by simp; omega, show (decide ((0 : Int) ≤ life) && decide (life ≤ 100000)) = true by simp; omega, show (decide ((1 : Int) ≤ (n : Int)) && decide ((n : Int) ≤ 8)) = true by simp; omega, Int.toNat_natCast]
    simp only [Bool.true_and]
  rw [hR, hln]
  rw [hln] at hn
  have HL := Lib.hid hln
  have HA := Lib.hid hA
  obtain ⟨r0, r1, r2, r3, r4, r5, r6⟩ := hr t ht.1 ht.2
  have h0 := hr.lt
  have KF := Lib.hid (fun (d : Dt) W (h : d.1.size ≤ maxLen) => fits_any (ruleOf t).k (ruleOf t).lN (ruleOf t).mN (ruleOf t).lM (ruleOf t).mM t d.2.1 d.2.2 d.1 (ruleOf t).one (ruleOf t).wild W h (ruleOf_lN t))
  have KO : Hid (∀ d : Dt, fitsB (ruleOf t).k (ruleOf t).lN (ruleOf t).mN (ruleOf t).lM (ruleOf t).mM t d.1.toList d.2.1 d.2.2 = okD t d) := Lib.hid (fun d => rfl)
  generalize (ruleOf t).k = k at *
  generalize (ruleOf t).lN = lN at *
  generalize (ruleOf t).mN = mN at *
  generalize (ruleOf t).lM = lM at *
  generalize (ruleOf t).mM = mM at *
  generalize (ruleOf t).one = o at *
  generalize (ruleOf t).wild = wl at *
  have HS := Lib.hid hs
  have hxs := (valid_small hv).2
  have hx1 := (valid_small hv).1
  rw [tl_len] at hxs hx1
  have CV := Lib.hid (fun W => valid_any x W hx)
  rw [hv] at CV
  have CT := Lib.hid (fun W => within_any (t : Int) 1 8 W)
  have CF := Lib.hid (fun W => within_any life 0 100000 W)
  have CN := Lib.hid (fun W => within_any (n : Int) 1 8 W)
  rw [show (decide ((1 : Int) ≤ (t : Int)) && decide ((t : Int) ≤ 8)) = true by simp; omega] at CT
  rw [show (decide ((0 : Int) ≤ life) && decide (life ≤ 100000)) = true by simp; omega] at CF
  rw [show (decide ((1 : Int) ≤ (n : Int)) && decide ((n : Int) ≤ 8)) = true by simp; omega] at CN
  have CW := Lib.hid (fun W => wild_any x W hx1 (by omega))
  obtain ⟨wb, hwb⟩ : ∃ r, wildB x.toList = r := ⟨_, rfl⟩
  rw [hwb] at CW
  rw [hwb]
  obtain ⟨t1, t2⟩ := ht
  obtain ⟨n1, n2⟩ := hn
  have hbelow := ((Below.refl _ w).alloc (Nat.le_refl _) (.cells #[.string x, .int .i64 t, .int .i64 life, .slice (some ⟨b, off, none⟩) n c] 25)).alloc (by simp) (.cells #[.int .i64 k, .int .i64 lN, .int .i64 mN, .int .i64 lM, .int .i64 mM, .bool o, .bool wl] 101)
  have HB := Lib.hid hbelow
  have BX := Lib.hid (setBox w (.string x) (.int .i64 t) (.int .i64 life) (.slice (some ⟨b, off, none⟩) n c) k lN mN lM mM o wl t rfl)
  have h1 : b < w.heap.size := hb
  clear hR hln hA hs hv hf hr hwb hbelow hb
  have G : ∀ q : Bool, ((o && decide (1 < n)) = true ∨ (wl = false ∧ wb = true)) → (!(o && decide (1 < n)) && !(!wl && wb) && q) = false := by
    intro q h
    rcases h with h | ⟨h, h2⟩
    · rw [h]; rfl
    · rw [h, h2]; simp
  have G2 : ∀ q : Bool, (o && decide (1 < n)) = false → (wl = true ∨ wb = false) → (!(o && decide (1 < n)) && !(!wl && wb) && q) = q := by
    intro q h h2
    rw [h]
    rcases h2 with h2 | h2
    · rw [h2]; rfl
    · rw [h2]; simp
  have hcase : (o = true ∧ 1 < n) ∨ ((o && decide (1 < n)) = false ∧ ((wl = false ∧ wb = true) ∨ (wl = true ∨ wb = false))) := by
    cases o <;> cases wl <;> cases wb <;> simp <;> omega
  rcases hcase with ⟨rfl, hn1⟩ | ⟨ho, ⟨rfl, rfl⟩ | hw2⟩
  · rw [G _ (.inl (by simpa using hn1))]
    have d1 : decide ((1 : Int) < (n : Int)) = true := by simp; omega
    clear G G2
    go_enter Tryd.func30, Tryd.ntmps30
    go_wp2_with (first | (go_at_call 32; refine (CV.out _).mono ?_; rintro e w1 ⟨rfl, rfl⟩) | (go_at_call 64; first | ((with_reducible refine (CT.out _).mono ?_); rintro e w1 ⟨rfl, rfl⟩) | ((with_reducible refine (CF.out _).mono ?_); rintro e w1 ⟨rfl, rfl⟩) | ((with_reducible refine (CN.out _).mono ?_); rintro e w1 ⟨rfl, rfl⟩)) | (go_at_call 65; refine (CW.out _).mono ?_; rintro e w1 ⟨rfl, rfl⟩))
    go_ret
    exact ⟨rfl, HB.out⟩
  · rw [G _ (.inr ⟨rfl, rfl⟩)]
    clear G G2
    cases o
    · go_enter Tryd.func30, Tryd.ntmps30
      go_wp2_with (first | (go_at_call 32; refine (CV.out _).mono ?_; rintro e w1 ⟨rfl, rfl⟩) | (go_at_call 64; first | ((with_reducible refine (CT.out _).mono ?_); rintro e w1 ⟨rfl, rfl⟩) | ((with_reducible refine (CF.out _).mono ?_); rintro e w1 ⟨rfl, rfl⟩) | ((with_reducible refine (CN.out _).mono ?_); rintro e w1 ⟨rfl, rfl⟩)) | (go_at_call 65; refine (CW.out _).mono ?_; rintro e w1 ⟨rfl, rfl⟩))
      go_ret
      exact ⟨rfl, HB.out⟩
    · have d1 : decide ((1 : Int) < (n : Int)) = false := by simp at ho; simp; omega
      go_enter Tryd.func30, Tryd.ntmps30
      go_wp2_with (first | (go_at_call 32; refine (CV.out _).mono ?_; rintro e w1 ⟨rfl, rfl⟩) | (go_at_call 64; first | ((with_reducible refine (CT.out _).mono ?_); rintro e w1 ⟨rfl, rfl⟩) | ((with_reducible refine (CF.out _).mono ?_); rintro e w1 ⟨rfl, rfl⟩) | ((with_reducible refine (CN.out _).mono ?_); rintro e w1 ⟨rfl, rfl⟩)) | (go_at_call 65; refine (CW.out _).mono ?_; rintro e w1 ⟨rfl, rfl⟩))
      go_ret
      exact ⟨rfl, HB.out⟩
  rw [G2 _ ho hw2]
  clear G G2
  obtain ⟨R, hR⟩ : ∃ R, okFrom t none l = R := ⟨_, rfl⟩
  rw [hR]
  have HR := Lib.hid hR
  clear hR
  have ho2 : o = false ∨ (o = true ∧ decide ((1 : Int) < (n : Int)) = false) := by
    cases o
    · exact .inl rfl
    · exact .inr ⟨rfl, by simp at ho; simp; omega⟩
  clear ho
  have hw3 : wl = true ∨ (wl = false ∧ wb = false) := by
    cases wl
    · exact .inr ⟨rfl, by simpa using hw2⟩
    · exact .inl rfl
  clear hw2
  rcases ho2 with rfl | ⟨rfl, d1⟩ <;> rcases hw3 with rfl | ⟨rfl, rfl⟩
  all_goals
    go_enter Tryd.func30, Tryd.ntmps30
    go_wp2_with (first | (go_at_call 32; refine (CV.out _).mono ?_; rintro e w1 ⟨rfl, rfl⟩) | (go_at_call 64; first | ((with_reducible refine (CT.out _).mono ?_); rintro e w1 ⟨rfl, rfl⟩) | ((with_reducible refine (CF.out _).mono ?_); rintro e w1 ⟨rfl, rfl⟩) | ((with_reducible refine (CN.out _).mono ?_); rintro e w1 ⟨rfl, rfl⟩)) | (go_at_call 65; refine (CW.out _).mono ?_; rintro e w1 ⟨rfl, rfl⟩))
    replace HB := HB.out
    replace BX := BX.out
    generalize (w.alloc _).alloc _ = W0 at *
    obtain ⟨n0, hn0⟩ : ∃ n, w.heap.size = n := ⟨_, rfl⟩
    rw [hn0] at BX ⊢
    have HN0 := Lib.hid hn0
    clear hn0
    have HB0 : Hid (Below w.heap.size w W0) := Lib.hid HB
    clear HB
    clear r0 r1 r2 r3 r4 r5 r6
    go_loopw [54] (fun s54 wr => ∃ i : Nat, i ≤ n ∧ s54 = .int .i64 i ∧ Hid (okFrom t (prevD l i) (l.drop i) = R) ∧ Hid (Below W0.heap.size W0 wr)) (fun s54 _ => n - (intOf s54).toNat)
    case atStart => exact ⟨0, Nat.zero_le _, rfl, HR, Lib.hid (Below.refl _ _)⟩
    case round =>
      obtain ⟨i, hi, rfl, HO, HW⟩ := hrel
      by_cases hlt : i < n
      · have ia : i < l.length := by rw [HL.out]; exact hlt
        have ga : l[i]? = some l[i] := List.getElem?_eq_getElem ia
        have hrow := HA.out.keep h1 ((HB0.out.trans (HW.out.mono (HB0.out.size))).mono (Nat.le_refl _))
        obtain ⟨a0, a1, a2⟩ := hrow.at_ ga
        have HSz := Lib.hid (HS.out _ (List.getElem_mem ia))
        have hO := HO.out
        rw [drop_ofD ga] at hO
        have HP := Lib.hid (prevD_succ ga)
        have BW := BX.keep HW.out
        have hn0 := BW.lt
        generalize l[i] = d at *
        have DB := datBox wr d
        have hbw : Below wr.heap.size wr (wr.alloc (.cells #[.string d.1, .int .i64 d.2.1, .int .i64 d.2.2] 65)) := (Below.refl _ wr).alloc (Nat.le_refl _) _
        have BV := BW.keep hbw
        have HW2 := Lib.hid (HW.out.trans (hbw.mono HW.out.size))
        have HRow := Lib.hid (hrow.keep (Nat.lt_of_lt_of_le (Nat.lt_of_lt_of_le h1 HB0.out.size) HW.out.size) hbw)
        obtain ⟨x1, n1', m1⟩ := d
        simp only at a0 a1 a2 DB BV HW2 HRow
        have hfit := KF.out (x1, n1', m1)
        have hfo := KO.out (x1, n1', m1)
        simp only at hfit hfo
        rw [hfo] at hfit
        clear hfo hbw BW hrow
        cases hok : okD t (x1, n1', m1)
        · rw [hok] at hfit
          obtain rfl : R = false := by rw [← hO]; simp [okFrom, hok]
          have HF := Lib.hid (fun W => hfit W HSz.out)
          clear hfit hok hO HO HR KF CV CT CF CN CW h0
          go_wp2
          generalize wr.alloc _ = W3 at *
          obtain ⟨n5, hn5⟩ : ∃ n, wr.heap.size = n := ⟨_, rfl⟩
          rw [hn5] at DB ⊢
          clear hn5
          obtain ⟨z1, z3, y0, y1, y2, y3, y4, y5, y6⟩ := BV
          obtain ⟨v0, v1, v2⟩ := DB
          simp only at v0 v1 v2
          have gz1 := fun d os => cell_regrown z1 d os
          have gy0 := fun d os => cell_regrown y0 d os
          have gy1 := fun d os => cell_regrown y1 d os
          have gy2 := fun d os => cell_regrown y2 d os
          have gy3 := fun d os => cell_regrown y3 d os
          have gy4 := fun d os => cell_regrown y4 d os
          have gy5 := fun d os => cell_regrown y5 d os
          have gy6 := fun d os => cell_regrown y6 d os
          have gv0 := fun d os => cell_regrown v0 d os
          have gv1 := fun d os => cell_regrown v1 d os
          have gv2 := fun d os => cell_regrown v2 d os
          refine wp_region_quiet_below (by kernel_rfl) (by kernel_rfl) ?_
          repeat (go_big_quiet_step ((first | (go_at_call 66; (with_reducible exact Calls.regrown_of (HF.out _))))))
          refine wpQuiet_nil ?_
          intro _ hw'
          obtain ⟨⟨dq, osq⟩, hw''⟩ := hw'
          subst hw''
          go_wp2
          go_ret
          refine ⟨rfl, ?_⟩
          exact (HB0.out.trans (HW2.out.mono (HB0.out.size))).trans ((below_regrown _ dq osq).mono (by have := HB0.out.size; have := HW2.out.size; omega))
        · rw [hok] at hfit
          have HF := Lib.hid (fun W => hfit W HSz.out)
          cases i with
          | zero =>
            have hS : okFrom t (some (x1, n1', m1)) (l.drop 1) = R := by simpa [okFrom, hok, prevD] using hO
            have HS2 := Lib.hid hS
            have d3 : decide ((0 : Int) < 0) = false := rfl
            have h10 : (0 : Int) < (n : Int) := by omega
            simp only [Nat.zero_mul, Nat.add_zero] at a0 a1 a2
            clear hfit hok hO HO HR KF CV CT CF CN CW h0 hS
            go_wp2
            generalize wr.alloc _ = W3 at *
            obtain ⟨n5, hn5⟩ : ∃ n, wr.heap.size = n := ⟨_, rfl⟩
            rw [hn5] at DB ⊢
            clear hn5
            obtain ⟨z1, z3, y0, y1, y2, y3, y4, y5, y6⟩ := BV
            obtain ⟨v0, v1, v2⟩ := DB
            simp only at v0 v1 v2
            have gz1 := fun d os => cell_regrown z1 d os
            have gy0 := fun d os => cell_regrown y0 d os
            have gy1 := fun d os => cell_regrown y1 d os
            have gy2 := fun d os => cell_regrown y2 d os
            have gy3 := fun d os => cell_regrown y3 d os
            have gy4 := fun d os => cell_regrown y4 d os
            have gy5 := fun d os => cell_regrown y5 d os
            have gy6 := fun d os => cell_regrown y6 d os
            have gv0 := fun d os => cell_regrown v0 d os
            have gv1 := fun d os => cell_regrown v1 d os
            have gv2 := fun d os => cell_regrown v2 d os
            refine wp_region_quiet_below (by kernel_rfl) (by kernel_rfl) ?_
            repeat (go_big_quiet_step ((first | (go_at_call 66; (with_reducible exact Calls.regrown_of (HF.out _))))))
            refine wpQuiet_nil ?_
            intro _ hw'
            obtain ⟨⟨dq, osq⟩, hw''⟩ := hw'
            subst hw''
            go_wp2
            go_roundw
            case rel =>
              exact ⟨1, hlt, rfl, Lib.hid (by rw [HP.out]; exact HS2.out), Lib.hid (HW2.out.trans ((below_regrown _ dq osq).mono HW2.out.size))⟩
            case measure =>
              simp [intOf]
              omega
          | succ k =>
            have gk : l[k]? = some l[k] := List.getElem?_eq_getElem (by omega)
            obtain ⟨b0, b1, b2⟩ := HRow.out.at_ gk
            rw [show prevD l (k + 1) = some l[k] from gk] at hO
            generalize l[k] = p at *
            obtain ⟨xp, np, mp⟩ := p
            simp only at b0 b1 b2
            have LS := Lib.hid (fun W => less_any xp x1 np mp n1' m1 W)
            have hS : (decide (lessI (xp, np, mp) (x1, n1', m1) < 0) && okFrom t (some (x1, n1', m1)) (l.drop (k + 2))) = R := by rw [← hO]; simp [okFrom, hok]
            generalize lessI (xp, np, mp) (x1, n1', m1) = r at *
            have d3 : decide ((0 : Int) < (k : Int) + 1) = true := decide_eq_true (by omega)
            have hk1 : (k : Int) < (n : Int) := by omega
            have hk2 : (0 : Int) ≤ (k : Int) := by omega
            by_cases hr0 : r < 0
            · rw [show decide (r < 0) = true by simpa using hr0, Bool.true_and] at hS
              have HS2 := Lib.hid hS
              have dr : decide (0 ≤ r) = false := by simpa using hr0
              clear hfit hok hO HO HR KF CV CT CF CN CW h0 hS hr0
              go_wp2
              generalize wr.alloc _ = W3 at *
              obtain ⟨n5, hn5⟩ : ∃ n, wr.heap.size = n := ⟨_, rfl⟩
              rw [hn5] at DB ⊢
              clear hn5
              obtain ⟨z1, z3, y0, y1, y2, y3, y4, y5, y6⟩ := BV
              obtain ⟨v0, v1, v2⟩ := DB
              simp only at v0 v1 v2
              have gz1 := fun d os => cell_regrown z1 d os
              have gy0 := fun d os => cell_regrown y0 d os
              have gy1 := fun d os => cell_regrown y1 d os
              have gy2 := fun d os => cell_regrown y2 d os
              have gy3 := fun d os => cell_regrown y3 d os
              have gy4 := fun d os => cell_regrown y4 d os
              have gy5 := fun d os => cell_regrown y5 d os
              have gy6 := fun d os => cell_regrown y6 d os
              have gv0 := fun d os => cell_regrown v0 d os
              have gv1 := fun d os => cell_regrown v1 d os
              have gv2 := fun d os => cell_regrown v2 d os
              have gz3 := fun d os => cell_regrown z3 d os
              have gb0 := fun d os => cell_regrown b0 d os
              have gb1 := fun d os => cell_regrown b1 d os
              have gb2 := fun d os => cell_regrown b2 d os
              refine wp_region_quiet_below (by kernel_rfl) (by kernel_rfl) ?_
              repeat (go_big_quiet_step ((first | (go_at_call 66; (with_reducible exact Calls.regrown_of (HF.out _))) | (go_at_call 67; (with_reducible exact Calls.regrown_of (LS.out _))))))
              refine wpQuiet_nil ?_
              intro _ hw'
              obtain ⟨⟨dq, osq⟩, hw''⟩ := hw'
              subst hw''
              go_wp2
              go_roundw
              case rel => exact ⟨k + 2, by omega, by go_num, Lib.hid (by rw [HP.out]; exact HS2.out), Lib.hid (HW2.out.trans ((below_regrown _ dq osq).mono HW2.out.size))⟩
              case measure =>
                simp [intOf]
                omega
            · rw [show decide (r < 0) = false by simpa using hr0, Bool.false_and] at hS
              subst hS
              have dr : decide (0 ≤ r) = true := decide_eq_true (by omega)
              clear hfit hok hO HO HR KF CV CT CF CN CW h0 hr0
              go_wp2
              generalize wr.alloc _ = W3 at *
              obtain ⟨n5, hn5⟩ : ∃ n, wr.heap.size = n := ⟨_, rfl⟩
              rw [hn5] at DB ⊢
              clear hn5
              obtain ⟨z1, z3, y0, y1, y2, y3, y4, y5, y6⟩ := BV
              obtain ⟨v0, v1, v2⟩ := DB
              simp only at v0 v1 v2
              have gz1 := fun d os => cell_regrown z1 d os
              have gy0 := fun d os => cell_regrown y0 d os
              have gy1 := fun d os => cell_regrown y1 d os
              have gy2 := fun d os => cell_regrown y2 d os
              have gy3 := fun d os => cell_regrown y3 d os
              have gy4 := fun d os => cell_regrown y4 d os
              have gy5 := fun d os => cell_regrown y5 d os
              have gy6 := fun d os => cell_regrown y6 d os
              have gv0 := fun d os => cell_regrown v0 d os
              have gv1 := fun d os => cell_regrown v1 d os
              have gv2 := fun d os => cell_regrown v2 d os
              have gz3 := fun d os => cell_regrown z3 d os
              have gb0 := fun d os => cell_regrown b0 d os
              have gb1 := fun d os => cell_regrown b1 d os
              have gb2 := fun d os => cell_regrown b2 d os
              refine wp_region_quiet_below (by kernel_rfl) (by kernel_rfl) ?_
              repeat (go_big_quiet_step ((first | (go_at_call 66; (with_reducible exact Calls.regrown_of (HF.out _))) | (go_at_call 67; (with_reducible exact Calls.regrown_of (LS.out _))))))
              refine wpQuiet_nil ?_
              intro _ hw'
              obtain ⟨⟨dq, osq⟩, hw''⟩ := hw'
              subst hw''
              go_wp2
              go_ret
              refine ⟨rfl, ?_⟩
              exact (HB0.out.trans (HW2.out.mono (HB0.out.size))).trans ((below_regrown _ dq osq).mono (by have := HB0.out.size; have := HW2.out.size; omega))
      · obtain rfl : i = n := by omega
        have hO := HO.out
        rw [List.drop_eq_nil_of_le (by have := HL.out; omega)] at hO
        obtain rfl : R = true := by rw [← hO]; cases prevD l i <;> rfl
        clear hO
        go_wp2
        go_ret
        exact ⟨rfl, HB0.out.trans (HW.out.mono (HB0.out.size))⟩
end Go.Proofs.YtkhckgknldiheaaDoor
