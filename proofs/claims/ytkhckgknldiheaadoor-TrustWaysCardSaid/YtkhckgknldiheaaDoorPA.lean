/- The contract of Path of package trust; no condition beyond those that each theorem names. -/
import Derived.Test.YtkhckgknldiheaaDoorFW
namespace Go.Proofs.YtkhckgknldiheaaDoor
set_option linter.unusedSimpArgs false
set_option linter.unusedVariables false
open Go.RowKit
open NmP SpP

/-- What Path finds. -/
inductive PR where
  | keys (k : List Sp)
  | miss (z : ByteArray) (k : Int)
  | bad
  | arg
def rootedB (a : St) : Bool := a.ok && decide (a.typ = 6) && decide (a.x = dotB)
def argsB (known : List Sd) (a : St) (z : ByteArray) (t d : Int) : Bool := knownB known && rootedB a && validB z.toList && !wildB z.toList && timeB t d
def pathD : FR → PR
  | .run k _ => .keys k
  | .miss z => .miss z 7
  | .bad => .bad
def pathW (known : List Sd) (a : St) (t d : Int) : WR → PR
  | .good l => pathD (downF known a t d (l ++ [(dotB, zSd)]))
  | .miss z => .miss z 6
  | .bad => .bad
def pathR (known : List Sd) (a : St) (z : ByteArray) (t d : Int) : PR := if argsB known a z t d = true then pathW known a t d (wayR known 63 z) else .arg
/-- What Path returns. -/
def PathTo (R : PR) (w : World) (e : Ending) (w' : World) : Prop := (match R with
  | .keys k => ∃ p c, e = .returned (.tuple #[.slice p k.length c, .agg #[.string ⟨#[]⟩, .int .i64 0], .int .i64 0]) ∧ SlS (.slice p k.length c) k w' ∧ k.length ≤ 8
  | .miss z k => e = .returned (.tuple #[.slice none 0 0, .agg #[.string z, .int .i64 k], .int .i64 4])
  | .bad => e = .returned (.tuple #[.slice none 0 0, .agg #[.string ⟨#[]⟩, .int .i64 0], .int .i64 31])
  | .arg => e = .returned (.tuple #[.slice none 0 0, .agg #[.string ⟨#[]⟩, .int .i64 0], .int .i64 1])) ∧ Below w.heap.size w w'
/-- The boxes of Path. -/
structure PB (w W : World) (ax : ByteArray) (aty al : Int) (av : Value) : Prop where
  bel : Below w.heap.size w W
  ax : W.heap[w.heap.size]? = some (Obj.cells #[.string ax, .int .i64 aty, .int .i64 al, av] 25 (0, 0))
  rx : W.heap[w.heap.size + 1]? = some (Obj.cells #[.string ⟨#[]⟩, .int .i64 0] 30 (0, 0))
theorem PB.lt {w W : World} {ax : ByteArray} {aty al : Int} {av : Value} (h : PB w W ax aty al av) : w.heap.size + 2 ≤ W.heap.size := (Array.getElem?_eq_some_iff.1 h.rx).1
theorem PB.keep {w W W' : World} {ax : ByteArray} {aty al : Int} {av : Value} (h : PB w W ax aty al av) (hb : Below W.heap.size W W') : PB w W' ax aty al av :=
  ⟨h.bel.trans (hb.mono (by have := h.lt; omega)), (hb.block _ (by have := h.lt; omega)).trans h.ax, (hb.block _ (by have := h.lt; omega)).trans h.rx⟩
theorem pbx (w : World) (ax : ByteArray) (aty al : Int) (av : Value) : PB w ((w.alloc (.cells #[.string ax, .int .i64 aty, .int .i64 al, av] 25)).alloc (.cells #[.string ⟨#[]⟩, .int .i64 0] 30)) ax aty al av := by
  refine ⟨((Below.refl _ w).alloc (Nat.le_refl _) _).alloc (by simp) _, (heap_alloc_old _ _ (by simp)).trans (heap_alloc_new w _), ?_⟩
  have := heap_alloc_new (w.alloc (.cells #[.string ax, .int .i64 aty, .int .i64 al, av] 25)) (.cells #[.string ⟨#[]⟩, .int .i64 0] 30)
  simpa using this

/-- A slice of keys stays where a box of a question turns. -/
theorem sls_box {v : Value} {l : List Sp} {W : World} {b : Nat} {s0 : ByteArray} {k0 : Int} (h : SlS v l W) (hb : W.heap[b]? = some (Obj.cells #[.string s0, .int .i64 k0] 30 (0, 0))) (a c : Value) : SlS v l ((W.setCell ⟨b, 0, none⟩ a).setCell ⟨b, 1, none⟩ c) := by
  rcases h with h | ⟨b', off, cc, h1, h2, h3⟩
  · exact .inl h
  · cases l with
    | nil => exact .inl ⟨rfl, _, _, h1⟩
    | cons d r =>
      have hne : b' ≠ b := by
        rintro rfl
        have c0 := h3 0 (.int .i64 d.1) rfl
        have c1 := h3 1 (.int .i64 d.2) rfl
        have ho : off = 0 ∨ off = 1 ∨ 2 ≤ off := by omega
        rcases ho with rfl | rfl | ho
        · simp [World.cell?, hb] at c0
        · simp [World.cell?, hb] at c1
        · obtain ⟨q, rfl⟩ : ∃ q, off = 2 + q := ⟨off - 2, by omega⟩
          simp [World.cell?, hb] at c0
      exact .inr ⟨b', off, cc, h1, by simpa using h2, fun m u hm => by
        rw [World.cell?_of_block ((heap_setCell_other _ ⟨b, 1, none⟩ b' c hne).trans (heap_setCell_other W ⟨b, 0, none⟩ b' a hne))]
        exact h3 m u hm⟩

set_option maxHeartbeats 16000000 in
set_option maxRecDepth 100000 in
theorem path_any (kv0 : Value) (known : List Sd) (a : St) (z : ByteArray) (t d : Int) (w : World) (hk : SlK kv0 known w) (hkn : known.length ≤ maxLen) (ha : a.In w) (hz : z.size ≤ maxLen) (hr : RulesAt w) :
    Calls Tryd.prog 11 #[kv0, .agg #[.string a.x, .int .i64 a.typ, .int .i64 a.life, a.v], .string z, .int .i64 t, .int .i64 d] w (PathTo (pathR known a z t d) w) := by
  obtain ⟨pk, ck, rfl⟩ := hk.form
  obtain ⟨pa, ca, hav⟩ := ha.hA.form
  have B0 := pbx w a.x a.typ a.life a.v
  have CVA := Lib.hid (fun W (hb : Below w.heap.size w W) => valid_st a W (ha.keep hb) (hr.keep hb))
  have CKN := Lib.hid (fun W (hb : Below w.heap.size w W) => known_any (.slice pk known.length ck) known W (hk.keep hb) hkn (hr.keep hb))
  have CNV := Lib.hid (fun W => valid_any z W hz)
  have CHP := Lib.hid (fun W => hasPrefix_any z W hz)
  have CTM := Lib.hid (fun W => time_any t d W)
  have CWY := Lib.hid (fun W (hb : Below w.heap.size w W) (hv : validB z.toList = true) => way_any (.slice pk known.length ck) known z W (hk.keep hb) hkn hv 63 (by have h := (valid_small hv).2; rw [tl_len] at h; unfold mz; split <;> omega))
  have CFL := Lib.hid (fun v L W (hb : Below w.heap.size w W) (hT : SlT v L W) (hL : 1 ≤ L.length ∧ L.length ≤ 100) => follow_any v L (.slice pk known.length ck) known a t d W hT hL (hk.keep hb) hkn (ha.keep hb) (hr.keep hb))
  have HIN := Lib.hid (fun s (hs : s ∈ known) W (hb : Below w.heap.size w W) => (hk.2 s hs).keep hb)
  unfold pathR argsB rootedB
  obtain ⟨WY, hWY⟩ : ∃ r, wayR known 63 z = r := ⟨_, rfl⟩
  obtain ⟨kb, hkb⟩ : ∃ b, knownB known = b := ⟨_, rfl⟩
  obtain ⟨vb, hvb⟩ : ∃ b, validB z.toList = b := ⟨_, rfl⟩
  obtain ⟨wb, hwb⟩ : ∃ b, wildB z.toList = b := ⟨_, rfl⟩
  obtain ⟨tb, htb⟩ : ∃ b, timeB t d = b := ⟨_, rfl⟩
  obtain ⟨ob, hob⟩ : ∃ b, a.ok = b := ⟨_, rfl⟩
  rw [hWY] at CWY ⊢
  rw [hkb] at CKN ⊢
  rw [hvb] at CNV CWY ⊢
  rw [hwb] at CHP ⊢
  rw [htb] at CTM ⊢
  rw [hob] at CVA ⊢
  clear hWY hkb hvb hwb htb hob hr hk hkn hz ha
  obtain ⟨ax, aty, al, av, ad⟩ := a
  simp only at hav B0 CVA CFL ⊢
  subst hav
  have HFD : Hid (∀ R : PR → Prop, True) := Lib.hid (fun _ => trivial)
  obtain ⟨DN, hDN⟩ : ∃ f : List Stp → FR, (fun l => downF known ⟨ax, aty, al, .slice pa ad.length ca, ad⟩ t d l) = f := ⟨_, rfl⟩
  obtain ⟨na, hna⟩ : ∃ n, ad.length = n := ⟨_, rfl⟩
  have HDN := Lib.hid hDN
  have HB0 := Lib.hid B0
  clear B0 HFD hDN
  obtain ⟨rb, hrb⟩ : ∃ b, (ob && decide (aty = 6) && decide (ax = dotB)) = b := ⟨_, rfl⟩
  rw [hrb]
  obtain ⟨R, hR⟩ : ∃ R, (if (kb && rb && vb && !wb && tb) = true then pathW known ⟨ax, aty, al, .slice pa ad.length ca, ad⟩ t d WY else PR.arg) = R := ⟨_, rfl⟩
  rw [hR]
  rw [hna] at hR
  have HR := Lib.hid hR
  clear hR
  have h46 : (ByteArray.mk #[46]).toList = [46] := by rw [tl]
  rw [hna] at HB0 CVA CFL ⊢
  go_enter Tryd.func11, Tryd.ntmps11
  go_upto_region 1 with fail
  go_cut [13] from 18 to 29 (fun s13 wx => s13 = .bool rb ∧ Hid (PB w wx ax aty al (.slice pa na ca)))
  case first =>
    cases ob
    · obtain rfl : false = rb := by simpa using hrb
      go_wp2_with (go_at_call 30; (with_reducible refine (CVA.out _ HB0.out.bel).mono ?_); rintro e w1 ⟨rfl, hb⟩; have HB1 := Lib.hid (HB0.out.keep hb); clear hb; have a0 := cell_of_blk HB1.out.ax 0 (.string ax) rfl; have a1 := cell_of_blk HB1.out.ax 1 (.int .i64 aty) rfl; have a2 := cell_of_blk HB1.out.ax 2 (.int .i64 al) rfl; have a3 := cell_of_blk HB1.out.ax 3 (.slice pa na ca) rfl)
      go_meet
      exact ⟨rfl, HB1⟩
    · by_cases e0 : aty = 6
      · have f0 : (aty == 6) = true := by simpa using e0
        by_cases e1 : ax = dotB
        · have f1 : (ax.toList == [46]) = true := by rw [e1, dot_list]; rfl
          obtain rfl : true = rb := by rw [← hrb]; simp [e0, e1]
          clear e0 e1 hrb
          go_wp2_with (go_at_call 30; (with_reducible refine (CVA.out _ HB0.out.bel).mono ?_); rintro e w1 ⟨rfl, hb⟩; have HB1 := Lib.hid (HB0.out.keep hb); clear hb; have a0 := cell_of_blk HB1.out.ax 0 (.string ax) rfl; have a1 := cell_of_blk HB1.out.ax 1 (.int .i64 aty) rfl; have a2 := cell_of_blk HB1.out.ax 2 (.int .i64 al) rfl; have a3 := cell_of_blk HB1.out.ax 3 (.slice pa na ca) rfl)
          go_meet
          exact ⟨rfl, HB1⟩
        · have f1 : (ax.toList == [46]) = false := by
            rw [beq_eq_false_iff_ne]
            intro h
            exact e1 (ba_eqT (h.trans dot_list.symm))
          obtain rfl : false = rb := by rw [← hrb]; simp [e1]
          clear e0 e1 hrb
          go_wp2_with (go_at_call 30; (with_reducible refine (CVA.out _ HB0.out.bel).mono ?_); rintro e w1 ⟨rfl, hb⟩; have HB1 := Lib.hid (HB0.out.keep hb); clear hb; have a0 := cell_of_blk HB1.out.ax 0 (.string ax) rfl; have a1 := cell_of_blk HB1.out.ax 1 (.int .i64 aty) rfl; have a2 := cell_of_blk HB1.out.ax 2 (.int .i64 al) rfl; have a3 := cell_of_blk HB1.out.ax 3 (.slice pa na ca) rfl)
          go_meet
          exact ⟨rfl, HB1⟩
      · have f0 : (aty == 6) = false := by simpa using e0
        obtain rfl : false = rb := by rw [← hrb]; simp [e0]
        clear e0 hrb
        go_wp2_with (go_at_call 30; (with_reducible refine (CVA.out _ HB0.out.bel).mono ?_); rintro e w1 ⟨rfl, hb⟩; have HB1 := Lib.hid (HB0.out.keep hb); clear hb; have a0 := cell_of_blk HB1.out.ax 0 (.string ax) rfl; have a1 := cell_of_blk HB1.out.ax 1 (.int .i64 aty) rfl; have a2 := cell_of_blk HB1.out.ax 2 (.int .i64 al) rfl; have a3 := cell_of_blk HB1.out.ax 3 (.slice pa na ca) rfl)
        go_meet
        exact ⟨rfl, HB1⟩
  case rest =>
    obtain ⟨rfl, HB⟩ := hcut
    clear HB0 CVA hrb
    cases kb
    · have hr2 : PR.arg = R := by have h := HR.out; simpa using h
      subst hr2
      clear HR
      go_wp2_with (first | (go_at_call 31; (with_reducible refine (CKN.out _ HB.out.bel).mono ?_); rintro e w2 ⟨rfl, hb⟩; have HB2 := Lib.hid (HB.out.keep hb); clear hb; have r0 := cell_of_blk HB2.out.rx 0 (.string ⟨#[]⟩) rfl; have r1 := cell_of_blk HB2.out.rx 1 (.int .i64 0) rfl; have rf0 := frozen_of_blk HB2.out.rx 0; have rf1 := frozen_of_blk HB2.out.rx 1))
      have hy : (((w2.setCell ⟨w.heap.size + 1, 0, none⟩ (.string ⟨#[]⟩)).setCell ⟨w.heap.size + 1, 1, none⟩ (.int .i64 0))).heap[w.heap.size + 1]? = some (Obj.cells #[.string ⟨#[]⟩, .int .i64 0] 30 (0, 0)) := set2Q (.string ⟨#[]⟩) (.int .i64 0) HB2.out.rx
      have hby : Below w.heap.size w (((w2.setCell ⟨w.heap.size + 1, 0, none⟩ (.string ⟨#[]⟩)).setCell ⟨w.heap.size + 1, 1, none⟩ (.int .i64 0))) := below2Q (q := w.heap.size + 1) (HB2.out.bel) (Nat.le_succ _) (.string ⟨#[]⟩) (.int .i64 0)
      generalize (World.setCell _ _ _).setCell _ _ = W' at *
      have y0 := cell_of_blk hy 0 (.string ⟨#[]⟩) rfl
      have y1 := cell_of_blk hy 1 (.int .i64 0) rfl
      refine bodyPost_ret (v := .tuple #[.slice none 0 0, .agg #[.string ⟨#[]⟩, .int .i64 0], .int .i64 1]) (by simp [results, Tryd.f11, go_sem, y0, y1]) rfl ⟨rfl, hby⟩
    cases rb
    · have hr2 : PR.arg = R := by have h := HR.out; simpa using h
      subst hr2
      clear HR
      go_wp2_with (first | (go_at_call 31; (with_reducible refine (CKN.out _ HB.out.bel).mono ?_); rintro e w2 ⟨rfl, hb⟩; have HB2 := Lib.hid (HB.out.keep hb); clear hb; have r0 := cell_of_blk HB2.out.rx 0 (.string ⟨#[]⟩) rfl; have r1 := cell_of_blk HB2.out.rx 1 (.int .i64 0) rfl; have rf0 := frozen_of_blk HB2.out.rx 0; have rf1 := frozen_of_blk HB2.out.rx 1))
      have hy : (((w2.setCell ⟨w.heap.size + 1, 0, none⟩ (.string ⟨#[]⟩)).setCell ⟨w.heap.size + 1, 1, none⟩ (.int .i64 0))).heap[w.heap.size + 1]? = some (Obj.cells #[.string ⟨#[]⟩, .int .i64 0] 30 (0, 0)) := set2Q (.string ⟨#[]⟩) (.int .i64 0) HB2.out.rx
      have hby : Below w.heap.size w (((w2.setCell ⟨w.heap.size + 1, 0, none⟩ (.string ⟨#[]⟩)).setCell ⟨w.heap.size + 1, 1, none⟩ (.int .i64 0))) := below2Q (q := w.heap.size + 1) (HB2.out.bel) (Nat.le_succ _) (.string ⟨#[]⟩) (.int .i64 0)
      generalize (World.setCell _ _ _).setCell _ _ = W' at *
      have y0 := cell_of_blk hy 0 (.string ⟨#[]⟩) rfl
      have y1 := cell_of_blk hy 1 (.int .i64 0) rfl
      refine bodyPost_ret (v := .tuple #[.slice none 0 0, .agg #[.string ⟨#[]⟩, .int .i64 0], .int .i64 1]) (by simp [results, Tryd.f11, go_sem, y0, y1]) rfl ⟨rfl, hby⟩
    cases vb
    · have hr2 : PR.arg = R := by have h := HR.out; simpa using h
      subst hr2
      clear HR
      go_wp2_with (first | (go_at_call 31; (with_reducible refine (CKN.out _ HB.out.bel).mono ?_); rintro e w2 ⟨rfl, hb⟩; have HB2 := Lib.hid (HB.out.keep hb); clear hb; have r0 := cell_of_blk HB2.out.rx 0 (.string ⟨#[]⟩) rfl; have r1 := cell_of_blk HB2.out.rx 1 (.int .i64 0) rfl; have rf0 := frozen_of_blk HB2.out.rx 0; have rf1 := frozen_of_blk HB2.out.rx 1) | (go_at_call 32; (with_reducible refine (CNV.out _).mono ?_); rintro e w3 ⟨rfl, rfl⟩))
      have hy : (((w2.setCell ⟨w.heap.size + 1, 0, none⟩ (.string ⟨#[]⟩)).setCell ⟨w.heap.size + 1, 1, none⟩ (.int .i64 0))).heap[w.heap.size + 1]? = some (Obj.cells #[.string ⟨#[]⟩, .int .i64 0] 30 (0, 0)) := set2Q (.string ⟨#[]⟩) (.int .i64 0) HB2.out.rx
      have hby : Below w.heap.size w (((w2.setCell ⟨w.heap.size + 1, 0, none⟩ (.string ⟨#[]⟩)).setCell ⟨w.heap.size + 1, 1, none⟩ (.int .i64 0))) := below2Q (q := w.heap.size + 1) (HB2.out.bel) (Nat.le_succ _) (.string ⟨#[]⟩) (.int .i64 0)
      generalize (World.setCell _ _ _).setCell _ _ = W' at *
      have y0 := cell_of_blk hy 0 (.string ⟨#[]⟩) rfl
      have y1 := cell_of_blk hy 1 (.int .i64 0) rfl
      refine bodyPost_ret (v := .tuple #[.slice none 0 0, .agg #[.string ⟨#[]⟩, .int .i64 0], .int .i64 1]) (by simp [results, Tryd.f11, go_sem, y0, y1]) rfl ⟨rfl, hby⟩
    cases wb
    case true =>
      have hr2 : PR.arg = R := by have h := HR.out; simpa using h
      subst hr2
      clear HR
      go_wp2_with (first | (go_at_call 31; (with_reducible refine (CKN.out _ HB.out.bel).mono ?_); rintro e w2 ⟨rfl, hb⟩; have HB2 := Lib.hid (HB.out.keep hb); clear hb; have r0 := cell_of_blk HB2.out.rx 0 (.string ⟨#[]⟩) rfl; have r1 := cell_of_blk HB2.out.rx 1 (.int .i64 0) rfl; have rf0 := frozen_of_blk HB2.out.rx 0; have rf1 := frozen_of_blk HB2.out.rx 1) | (go_at_call 32; (with_reducible refine (CNV.out _).mono ?_); rintro e w3 ⟨rfl, rfl⟩) | (go_at_call 33; (with_reducible refine (CHP.out _).mono ?_); rintro e w3 ⟨rfl, rfl⟩))
      have hy : (((w2.setCell ⟨w.heap.size + 1, 0, none⟩ (.string ⟨#[]⟩)).setCell ⟨w.heap.size + 1, 1, none⟩ (.int .i64 0))).heap[w.heap.size + 1]? = some (Obj.cells #[.string ⟨#[]⟩, .int .i64 0] 30 (0, 0)) := set2Q (.string ⟨#[]⟩) (.int .i64 0) HB2.out.rx
      have hby : Below w.heap.size w (((w2.setCell ⟨w.heap.size + 1, 0, none⟩ (.string ⟨#[]⟩)).setCell ⟨w.heap.size + 1, 1, none⟩ (.int .i64 0))) := below2Q (q := w.heap.size + 1) (HB2.out.bel) (Nat.le_succ _) (.string ⟨#[]⟩) (.int .i64 0)
      generalize (World.setCell _ _ _).setCell _ _ = W' at *
      have y0 := cell_of_blk hy 0 (.string ⟨#[]⟩) rfl
      have y1 := cell_of_blk hy 1 (.int .i64 0) rfl
      refine bodyPost_ret (v := .tuple #[.slice none 0 0, .agg #[.string ⟨#[]⟩, .int .i64 0], .int .i64 1]) (by simp [results, Tryd.f11, go_sem, y0, y1]) rfl ⟨rfl, hby⟩
    cases tb
    · have hr2 : PR.arg = R := by have h := HR.out; simpa using h
      subst hr2
      clear HR
      go_wp2_with (first | (go_at_call 31; (with_reducible refine (CKN.out _ HB.out.bel).mono ?_); rintro e w2 ⟨rfl, hb⟩; have HB2 := Lib.hid (HB.out.keep hb); clear hb; have r0 := cell_of_blk HB2.out.rx 0 (.string ⟨#[]⟩) rfl; have r1 := cell_of_blk HB2.out.rx 1 (.int .i64 0) rfl; have rf0 := frozen_of_blk HB2.out.rx 0; have rf1 := frozen_of_blk HB2.out.rx 1) | (go_at_call 32; (with_reducible refine (CNV.out _).mono ?_); rintro e w3 ⟨rfl, rfl⟩) | (go_at_call 33; (with_reducible refine (CHP.out _).mono ?_); rintro e w3 ⟨rfl, rfl⟩) | (go_at_call 34; (with_reducible refine (CTM.out _).mono ?_); rintro e w3 ⟨rfl, rfl⟩))
      have hy : (((w2.setCell ⟨w.heap.size + 1, 0, none⟩ (.string ⟨#[]⟩)).setCell ⟨w.heap.size + 1, 1, none⟩ (.int .i64 0))).heap[w.heap.size + 1]? = some (Obj.cells #[.string ⟨#[]⟩, .int .i64 0] 30 (0, 0)) := set2Q (.string ⟨#[]⟩) (.int .i64 0) HB2.out.rx
      have hby : Below w.heap.size w (((w2.setCell ⟨w.heap.size + 1, 0, none⟩ (.string ⟨#[]⟩)).setCell ⟨w.heap.size + 1, 1, none⟩ (.int .i64 0))) := below2Q (q := w.heap.size + 1) (HB2.out.bel) (Nat.le_succ _) (.string ⟨#[]⟩) (.int .i64 0)
      generalize (World.setCell _ _ _).setCell _ _ = W' at *
      have y0 := cell_of_blk hy 0 (.string ⟨#[]⟩) rfl
      have y1 := cell_of_blk hy 1 (.int .i64 0) rfl
      refine bodyPost_ret (v := .tuple #[.slice none 0 0, .agg #[.string ⟨#[]⟩, .int .i64 0], .int .i64 1]) (by simp [results, Tryd.f11, go_sem, y0, y1]) rfl ⟨rfl, hby⟩
    have hr2 : pathW known ⟨ax, aty, al, .slice pa na ca, ad⟩ t d WY = R := by have h := HR.out; simpa using h
    clear HR
    replace CWY := Lib.hid (fun W (hb : Below w.heap.size w W) => CWY.out W hb rfl)
    unfold WayTo at CWY
    cases WY with
    | bad =>
      have hr3 : PR.bad = R := hr2
      subst hr3
      clear hr2
      go_upto_region 6 with (first | (go_at_call 31; (with_reducible refine (CKN.out _ HB.out.bel).mono ?_); rintro e w2 ⟨rfl, hb⟩; have HB2 := Lib.hid (HB.out.keep hb); clear hb; have r0 := cell_of_blk HB2.out.rx 0 (.string ⟨#[]⟩) rfl; have r1 := cell_of_blk HB2.out.rx 1 (.int .i64 0) rfl; have rf0 := frozen_of_blk HB2.out.rx 0; have rf1 := frozen_of_blk HB2.out.rx 1) | (go_at_call 32; (with_reducible refine (CNV.out _).mono ?_); rintro e w3 ⟨rfl, rfl⟩) | (go_at_call 33; (with_reducible refine (CHP.out _).mono ?_); rintro e w3 ⟨rfl, rfl⟩) | (go_at_call 34; (with_reducible refine (CTM.out _).mono ?_); rintro e w3 ⟨rfl, rfl⟩) | (go_at_call 35; (with_reducible refine (CWY.out _ HB2.out.bel).mono ?_); rintro e w4 ⟨rfl, hb⟩; have HB4 := Lib.hid (HB2.out.keep hb); clear hb r0 r1 rf0 rf1; have r0 := cell_of_blk HB4.out.rx 0 (.string ⟨#[]⟩) rfl; have r1 := cell_of_blk HB4.out.rx 1 (.int .i64 0) rfl; have rf0 := frozen_of_blk HB4.out.rx 0; have rf1 := frozen_of_blk HB4.out.rx 1))
      have hbx : Below w4.heap.size w4 (w4.alloc (.cells #[.string ⟨#[]⟩, .int .i64 0] 30)) := (Below.refl _ w4).alloc (Nat.le_refl _) _
      have HB5 := Lib.hid (HB4.out.keep hbx)
      have hq5 : (w4.alloc (.cells #[.string ⟨#[]⟩, .int .i64 0] 30)).heap[w4.heap.size]? = some (Obj.cells #[.string ⟨#[]⟩, .int .i64 0] 30 (0, 0)) := heap_alloc_new w4 _
      clear hbx r0 r1 rf0 rf1
      generalize w4.alloc _ = W5 at *
      obtain ⟨NQ, hNQ⟩ : ∃ q, w4.heap.size = q := ⟨_, rfl⟩
      rw [hNQ] at hq5 ⊢
      have HNQ := Lib.hid hNQ
      clear hNQ
      have q0 := cell_of_blk hq5 0 (.string ⟨#[]⟩) rfl
      have q1 := cell_of_blk hq5 1 (.int .i64 0) rfl
      clear hq5
      have r0 := cell_of_blk HB5.out.rx 0 (.string ⟨#[]⟩) rfl
      have r1 := cell_of_blk HB5.out.rx 1 (.int .i64 0) rfl
      have rf0 := frozen_of_blk HB5.out.rx 0
      have rf1 := frozen_of_blk HB5.out.rx 1
      have hne : NQ ≠ w.heap.size + 1 := by have := HNQ.out; have := HB4.out.lt; omega
      have hne' : w.heap.size + 1 ≠ NQ := fun e => hne e.symm
      go_region
      go_wp2
      have hy : (((W5.setCell ⟨w.heap.size + 1, 0, none⟩ (.string ⟨#[]⟩)).setCell ⟨w.heap.size + 1, 1, none⟩ (.int .i64 0)).drew).heap[w.heap.size + 1]? = some (Obj.cells #[.string ⟨#[]⟩, .int .i64 0] 30 (0, 0)) := set2Q (.string ⟨#[]⟩) (.int .i64 0) HB5.out.rx
      have hby : Below w.heap.size w (((W5.setCell ⟨w.heap.size + 1, 0, none⟩ (.string ⟨#[]⟩)).setCell ⟨w.heap.size + 1, 1, none⟩ (.int .i64 0)).drew) := below_drewN (below2Q (q := w.heap.size + 1) (HB5.out.bel) (Nat.le_succ _) (.string ⟨#[]⟩) (.int .i64 0)) 1
      generalize ((World.setCell _ _ _).setCell _ _).drew = W' at *
      have y0 := cell_of_blk hy 0 (.string ⟨#[]⟩) rfl
      have y1 := cell_of_blk hy 1 (.int .i64 0) rfl
      refine bodyPost_ret (v := .tuple #[.slice none 0 0, .agg #[.string ⟨#[]⟩, .int .i64 0], .int .i64 31]) (by simp [results, Tryd.f11, go_sem, y0, y1]) rfl ⟨rfl, hby⟩
    | miss z' =>
      have hr3 : PR.miss z' 6 = R := hr2
      subst hr3
      clear hr2
      go_upto_region 6 with (first | (go_at_call 31; (with_reducible refine (CKN.out _ HB.out.bel).mono ?_); rintro e w2 ⟨rfl, hb⟩; have HB2 := Lib.hid (HB.out.keep hb); clear hb; have r0 := cell_of_blk HB2.out.rx 0 (.string ⟨#[]⟩) rfl; have r1 := cell_of_blk HB2.out.rx 1 (.int .i64 0) rfl; have rf0 := frozen_of_blk HB2.out.rx 0; have rf1 := frozen_of_blk HB2.out.rx 1) | (go_at_call 32; (with_reducible refine (CNV.out _).mono ?_); rintro e w3 ⟨rfl, rfl⟩) | (go_at_call 33; (with_reducible refine (CHP.out _).mono ?_); rintro e w3 ⟨rfl, rfl⟩) | (go_at_call 34; (with_reducible refine (CTM.out _).mono ?_); rintro e w3 ⟨rfl, rfl⟩) | (go_at_call 35; (with_reducible refine (CWY.out _ HB2.out.bel).mono ?_); rintro e w4 ⟨rfl, hb⟩; have HB4 := Lib.hid (HB2.out.keep hb); clear hb r0 r1 rf0 rf1; have r0 := cell_of_blk HB4.out.rx 0 (.string ⟨#[]⟩) rfl; have r1 := cell_of_blk HB4.out.rx 1 (.int .i64 0) rfl; have rf0 := frozen_of_blk HB4.out.rx 0; have rf1 := frozen_of_blk HB4.out.rx 1))
      have hbx : Below w4.heap.size w4 (w4.alloc (.cells #[.string z', .int .i64 6] 30)) := (Below.refl _ w4).alloc (Nat.le_refl _) _
      have HB5 := Lib.hid (HB4.out.keep hbx)
      have hq5 : (w4.alloc (.cells #[.string z', .int .i64 6] 30)).heap[w4.heap.size]? = some (Obj.cells #[.string z', .int .i64 6] 30 (0, 0)) := heap_alloc_new w4 _
      clear hbx r0 r1 rf0 rf1
      generalize w4.alloc _ = W5 at *
      obtain ⟨NQ, hNQ⟩ : ∃ q, w4.heap.size = q := ⟨_, rfl⟩
      rw [hNQ] at hq5 ⊢
      have HNQ := Lib.hid hNQ
      clear hNQ
      have q0 := cell_of_blk hq5 0 (.string z') rfl
      have q1 := cell_of_blk hq5 1 (.int .i64 6) rfl
      clear hq5
      have r0 := cell_of_blk HB5.out.rx 0 (.string ⟨#[]⟩) rfl
      have r1 := cell_of_blk HB5.out.rx 1 (.int .i64 0) rfl
      have rf0 := frozen_of_blk HB5.out.rx 0
      have rf1 := frozen_of_blk HB5.out.rx 1
      have hne : NQ ≠ w.heap.size + 1 := by have := HNQ.out; have := HB4.out.lt; omega
      have hne' : w.heap.size + 1 ≠ NQ := fun e => hne e.symm
      go_region
      go_wp2
      have hy : (((W5.setCell ⟨w.heap.size + 1, 0, none⟩ (.string z')).setCell ⟨w.heap.size + 1, 1, none⟩ (.int .i64 6)).drew).heap[w.heap.size + 1]? = some (Obj.cells #[.string z', .int .i64 6] 30 (0, 0)) := set2Q (.string z') (.int .i64 6) HB5.out.rx
      have hby : Below w.heap.size w (((W5.setCell ⟨w.heap.size + 1, 0, none⟩ (.string z')).setCell ⟨w.heap.size + 1, 1, none⟩ (.int .i64 6)).drew) := below_drewN (below2Q (q := w.heap.size + 1) (HB5.out.bel) (Nat.le_succ _) (.string z') (.int .i64 6)) 1
      generalize ((World.setCell _ _ _).setCell _ _).drew = W' at *
      have y0 := cell_of_blk hy 0 (.string z') rfl
      have y1 := cell_of_blk hy 1 (.int .i64 6) rfl
      refine bodyPost_ret (v := .tuple #[.slice none 0 0, .agg #[.string z', .int .i64 6], .int .i64 4]) (by simp [results, Tryd.f11, go_sem, y0, y1]) rfl ⟨rfl, hby⟩
    | good l =>
      go_upto_region 7 with (first | (go_at_call 31; (with_reducible refine (CKN.out _ HB.out.bel).mono ?_); rintro e w2 ⟨rfl, hb⟩; have HB2 := Lib.hid (HB.out.keep hb); clear hb; have r0 := cell_of_blk HB2.out.rx 0 (.string ⟨#[]⟩) rfl; have r1 := cell_of_blk HB2.out.rx 1 (.int .i64 0) rfl; have rf0 := frozen_of_blk HB2.out.rx 0; have rf1 := frozen_of_blk HB2.out.rx 1) | (go_at_call 32; (with_reducible refine (CNV.out _).mono ?_); rintro e w3 ⟨rfl, rfl⟩) | (go_at_call 33; (with_reducible refine (CHP.out _).mono ?_); rintro e w3 ⟨rfl, rfl⟩) | (go_at_call 34; (with_reducible refine (CTM.out _).mono ?_); rintro e w3 ⟨rfl, rfl⟩) | (go_at_call 35; (with_reducible refine (CWY.out _ HB2.out.bel).mono ?_); rintro e w4 ⟨⟨v4, rfl, ho, hl61, hmm⟩, hb⟩; have HB4 := Lib.hid (HB2.out.keep hb); have HO4 := Lib.hid ho; have HM4 := Lib.hid hmm; have HL4 := Lib.hid hl61; clear ho hmm hl61 hb r0 r1 rf0 rf1; have r0 := cell_of_blk HB4.out.rx 0 (.string ⟨#[]⟩) rfl; have r1 := cell_of_blk HB4.out.rx 1 (.int .i64 0) rfl; have rf0 := frozen_of_blk HB4.out.rx 0; have rf1 := frozen_of_blk HB4.out.rx 1))
      have hbx : Below w4.heap.size w4 (w4.alloc (.cells #[.string ⟨#[]⟩, .int .i64 0] 30)) := (Below.refl _ w4).alloc (Nat.le_refl _) _
      have HB5 := Lib.hid (HB4.out.keep hbx)
      have hq5 : (w4.alloc (.cells #[.string ⟨#[]⟩, .int .i64 0] 30)).heap[w4.heap.size]? = some (Obj.cells #[.string ⟨#[]⟩, .int .i64 0] 30 (0, 0)) := heap_alloc_new w4 _
      have HT5 : Hid (SlT v4 (l ++ [(dotB, zSd)]) (w4.alloc (.cells #[.string ⟨#[]⟩, .int .i64 0] 30))) := Lib.hid ((HO4.out.sl (fun s hs => by
        rcases List.mem_append.1 hs with hs | hs
        · exact HIN.out _ (HM4.out s hs) _ HB4.out.bel
        · rw [List.mem_singleton.1 hs]; exact zSd_in _)).keep hbx)
      have HL5 : Hid (1 ≤ (l ++ [(dotB, zSd)]).length ∧ (l ++ [(dotB, zSd)]).length ≤ 100) := Lib.hid (by have := HL4.out; rw [List.length_append]; simp; omega)
      clear hbx r0 r1 rf0 rf1
      generalize w4.alloc _ = W5 at *
      obtain ⟨NQ, hNQ⟩ : ∃ q, w4.heap.size = q := ⟨_, rfl⟩
      rw [hNQ] at hq5 ⊢
      have HNQ := Lib.hid hNQ
      clear hNQ
      have HQ5 := Lib.hid hq5
      clear hq5
      have hr3 : pathD (downF known ⟨ax, aty, al, .slice pa na ca, ad⟩ t d (l ++ [(dotB, zSd)])) = R := hr2
      clear hr2
      have CF5 := CFL.out v4 _ _ HB5.out.bel HT5.out HL5.out
      unfold DownTo at CF5
      obtain ⟨DD, hDD⟩ : ∃ x, downF known ⟨ax, aty, al, .slice pa na ca, ad⟩ t d (l ++ [(dotB, zSd)]) = x := ⟨_, rfl⟩
      rw [hDD] at CF5 hr3
      have HCF := Lib.hid CF5
      clear CF5 hDD HT5 HL5 HO4 HM4 HL4
      have a0 := cell_of_blk HB5.out.ax 0 (.string ax) rfl
      have a1 := cell_of_blk HB5.out.ax 1 (.int .i64 aty) rfl
      have a2 := cell_of_blk HB5.out.ax 2 (.int .i64 al) rfl
      have a3 := cell_of_blk HB5.out.ax 3 (.slice pa na ca) rfl
      cases DD with
      | bad =>
        have hr4 : PR.bad = R := hr3
        subst hr4
        clear hr3
        go_upto_region 8 with (go_at_call 36; (with_reducible refine (HCF.out).mono ?_); rintro e w6 ⟨rfl, hb⟩; have HB6 := Lib.hid (HB5.out.keep hb); have HQ6 := Lib.hid ((hb.block NQ (Array.getElem?_eq_some_iff.1 HQ5.out).1).trans HQ5.out); clear hb a0 a1 a2 a3; have q0 := cell_of_blk HQ6.out 0 (.string ⟨#[]⟩) rfl; have q1 := cell_of_blk HQ6.out 1 (.int .i64 0) rfl; have qf0 := frozen_of_blk HQ6.out 0; have qf1 := frozen_of_blk HQ6.out 1)
        have HQ7 : Hid (((w6.setCell ⟨NQ, 0, none⟩ (.string ⟨#[]⟩)).setCell ⟨NQ, 1, none⟩ (.int .i64 0)).heap[NQ]? = some (Obj.cells #[.string ⟨#[]⟩, .int .i64 0] 30 (0, 0))) := Lib.hid (set2Q (.string ⟨#[]⟩) (.int .i64 0) HQ6.out)
        have hn10 : w.heap.size + 2 ≤ NQ := by have := HNQ.out; have := HB4.out.lt; omega
        have HB7 : Hid (PB w ((w6.setCell ⟨NQ, 0, none⟩ (.string ⟨#[]⟩)).setCell ⟨NQ, 1, none⟩ (.int .i64 0)) ax aty al (.slice pa na ca)) := Lib.hid ⟨below2Q (q := NQ) HB6.out.bel (by omega) (.string ⟨#[]⟩) (.int .i64 0), ((heap_setCell_other _ ⟨NQ, 1, none⟩ _ _ (by simp only; omega)).trans (heap_setCell_other w6 ⟨NQ, 0, none⟩ _ _ (by simp only; omega))).trans HB6.out.ax, ((heap_setCell_other _ ⟨NQ, 1, none⟩ _ _ (by simp only; omega)).trans (heap_setCell_other w6 ⟨NQ, 0, none⟩ _ _ (by simp only; omega))).trans HB6.out.rx⟩
        clear q0 q1 qf0 qf1
        generalize (World.setCell w6 _ _).setCell _ _ = W7 at *
        have q0 := cell_of_blk HQ7.out 0 (.string ⟨#[]⟩) rfl
        have q1 := cell_of_blk HQ7.out 1 (.int .i64 0) rfl
        have r0 := cell_of_blk HB7.out.rx 0 (.string ⟨#[]⟩) rfl
        have r1 := cell_of_blk HB7.out.rx 1 (.int .i64 0) rfl
        have rf0 := frozen_of_blk HB7.out.rx 0
        have rf1 := frozen_of_blk HB7.out.rx 1
        have hne : NQ ≠ w.heap.size + 1 := by omega
        have hne' : w.heap.size + 1 ≠ NQ := fun e => hne e.symm
        go_region
        go_wp2
        have hy : (((W7.setCell ⟨w.heap.size + 1, 0, none⟩ (.string ⟨#[]⟩)).setCell ⟨w.heap.size + 1, 1, none⟩ (.int .i64 0)).drew).heap[w.heap.size + 1]? = some (Obj.cells #[.string ⟨#[]⟩, .int .i64 0] 30 (0, 0)) := set2Q (.string ⟨#[]⟩) (.int .i64 0) HB7.out.rx
        have hby : Below w.heap.size w (((W7.setCell ⟨w.heap.size + 1, 0, none⟩ (.string ⟨#[]⟩)).setCell ⟨w.heap.size + 1, 1, none⟩ (.int .i64 0)).drew) := below_drewN (below2Q (q := w.heap.size + 1) (HB7.out.bel) (Nat.le_succ _) (.string ⟨#[]⟩) (.int .i64 0)) 1
        generalize ((World.setCell _ _ _).setCell _ _).drew = W' at *
        have y0 := cell_of_blk hy 0 (.string ⟨#[]⟩) rfl
        have y1 := cell_of_blk hy 1 (.int .i64 0) rfl
        refine bodyPost_ret (v := .tuple #[.slice none 0 0, .agg #[.string ⟨#[]⟩, .int .i64 0], .int .i64 31]) (by simp [results, Tryd.f11, go_sem, y0, y1]) rfl ⟨rfl, hby⟩
      | miss z' =>
        have hr4 : PR.miss z' 7 = R := hr3
        subst hr4
        clear hr3
        go_upto_region 8 with (go_at_call 36; (with_reducible refine (HCF.out).mono ?_); rintro e w6 ⟨rfl, hb⟩; have HB6 := Lib.hid (HB5.out.keep hb); have HQ6 := Lib.hid ((hb.block NQ (Array.getElem?_eq_some_iff.1 HQ5.out).1).trans HQ5.out); clear hb a0 a1 a2 a3; have q0 := cell_of_blk HQ6.out 0 (.string ⟨#[]⟩) rfl; have q1 := cell_of_blk HQ6.out 1 (.int .i64 0) rfl; have qf0 := frozen_of_blk HQ6.out 0; have qf1 := frozen_of_blk HQ6.out 1)
        have HQ7 : Hid (((w6.setCell ⟨NQ, 0, none⟩ (.string z')).setCell ⟨NQ, 1, none⟩ (.int .i64 7)).heap[NQ]? = some (Obj.cells #[.string z', .int .i64 7] 30 (0, 0))) := Lib.hid (set2Q (.string z') (.int .i64 7) HQ6.out)
        have hn10 : w.heap.size + 2 ≤ NQ := by have := HNQ.out; have := HB4.out.lt; omega
        have HB7 : Hid (PB w ((w6.setCell ⟨NQ, 0, none⟩ (.string z')).setCell ⟨NQ, 1, none⟩ (.int .i64 7)) ax aty al (.slice pa na ca)) := Lib.hid ⟨below2Q (q := NQ) HB6.out.bel (by omega) (.string z') (.int .i64 7), ((heap_setCell_other _ ⟨NQ, 1, none⟩ _ _ (by simp only; omega)).trans (heap_setCell_other w6 ⟨NQ, 0, none⟩ _ _ (by simp only; omega))).trans HB6.out.ax, ((heap_setCell_other _ ⟨NQ, 1, none⟩ _ _ (by simp only; omega)).trans (heap_setCell_other w6 ⟨NQ, 0, none⟩ _ _ (by simp only; omega))).trans HB6.out.rx⟩
        clear q0 q1 qf0 qf1
        generalize (World.setCell w6 _ _).setCell _ _ = W7 at *
        have q0 := cell_of_blk HQ7.out 0 (.string z') rfl
        have q1 := cell_of_blk HQ7.out 1 (.int .i64 7) rfl
        have r0 := cell_of_blk HB7.out.rx 0 (.string ⟨#[]⟩) rfl
        have r1 := cell_of_blk HB7.out.rx 1 (.int .i64 0) rfl
        have rf0 := frozen_of_blk HB7.out.rx 0
        have rf1 := frozen_of_blk HB7.out.rx 1
        have hne : NQ ≠ w.heap.size + 1 := by omega
        have hne' : w.heap.size + 1 ≠ NQ := fun e => hne e.symm
        go_region
        go_wp2
        have hy : (((W7.setCell ⟨w.heap.size + 1, 0, none⟩ (.string z')).setCell ⟨w.heap.size + 1, 1, none⟩ (.int .i64 7)).drew).heap[w.heap.size + 1]? = some (Obj.cells #[.string z', .int .i64 7] 30 (0, 0)) := set2Q (.string z') (.int .i64 7) HB7.out.rx
        have hby : Below w.heap.size w (((W7.setCell ⟨w.heap.size + 1, 0, none⟩ (.string z')).setCell ⟨w.heap.size + 1, 1, none⟩ (.int .i64 7)).drew) := below_drewN (below2Q (q := w.heap.size + 1) (HB7.out.bel) (Nat.le_succ _) (.string z') (.int .i64 7)) 1
        generalize ((World.setCell _ _ _).setCell _ _).drew = W' at *
        have y0 := cell_of_blk hy 0 (.string z') rfl
        have y1 := cell_of_blk hy 1 (.int .i64 7) rfl
        refine bodyPost_ret (v := .tuple #[.slice none 0 0, .agg #[.string z', .int .i64 7], .int .i64 4]) (by simp [results, Tryd.f11, go_sem, y0, y1]) rfl ⟨rfl, hby⟩
      | run k ab =>
        have hr4 : PR.keys k = R := hr3
        subst hr4
        clear hr3
        go_upto_region 8 with (go_at_call 36; (with_reducible refine (HCF.out).mono ?_); rintro e w6 ⟨⟨v6, rfl, hsk, hk8⟩, hb⟩; obtain ⟨p5, c5, rfl⟩ := hsk.form; have SK6 := Lib.hid hsk; have HK8 := Lib.hid hk8; clear hsk hk8; have HB6 := Lib.hid (HB5.out.keep hb); have HQ6 := Lib.hid ((hb.block NQ (Array.getElem?_eq_some_iff.1 HQ5.out).1).trans HQ5.out); clear hb a0 a1 a2 a3; have q0 := cell_of_blk HQ6.out 0 (.string ⟨#[]⟩) rfl; have q1 := cell_of_blk HQ6.out 1 (.int .i64 0) rfl; have qf0 := frozen_of_blk HQ6.out 0; have qf1 := frozen_of_blk HQ6.out 1)
        have HQ7 : Hid (((w6.setCell ⟨NQ, 0, none⟩ (.string ⟨#[]⟩)).setCell ⟨NQ, 1, none⟩ (.int .i64 0)).heap[NQ]? = some (Obj.cells #[.string ⟨#[]⟩, .int .i64 0] 30 (0, 0))) := Lib.hid (set2Q (.string ⟨#[]⟩) (.int .i64 0) HQ6.out)
        have hn10 : w.heap.size + 2 ≤ NQ := by have := HNQ.out; have := HB4.out.lt; omega
        have HB7 : Hid (PB w ((w6.setCell ⟨NQ, 0, none⟩ (.string ⟨#[]⟩)).setCell ⟨NQ, 1, none⟩ (.int .i64 0)) ax aty al (.slice pa na ca)) := Lib.hid ⟨below2Q (q := NQ) HB6.out.bel (by omega) (.string ⟨#[]⟩) (.int .i64 0), ((heap_setCell_other _ ⟨NQ, 1, none⟩ _ _ (by simp only; omega)).trans (heap_setCell_other w6 ⟨NQ, 0, none⟩ _ _ (by simp only; omega))).trans HB6.out.ax, ((heap_setCell_other _ ⟨NQ, 1, none⟩ _ _ (by simp only; omega)).trans (heap_setCell_other w6 ⟨NQ, 0, none⟩ _ _ (by simp only; omega))).trans HB6.out.rx⟩
        have SK7 : Hid (SlS (.slice p5 k.length c5) k ((w6.setCell ⟨NQ, 0, none⟩ (.string ⟨#[]⟩)).setCell ⟨NQ, 1, none⟩ (.int .i64 0))) := Lib.hid (sls_box SK6.out HQ6.out (.string ⟨#[]⟩) (.int .i64 0))
        clear q0 q1 qf0 qf1
        generalize (World.setCell w6 _ _).setCell _ _ = W7 at *
        have q0 := cell_of_blk HQ7.out 0 (.string ⟨#[]⟩) rfl
        have q1 := cell_of_blk HQ7.out 1 (.int .i64 0) rfl
        have r0 := cell_of_blk HB7.out.rx 0 (.string ⟨#[]⟩) rfl
        have r1 := cell_of_blk HB7.out.rx 1 (.int .i64 0) rfl
        have rf0 := frozen_of_blk HB7.out.rx 0
        have rf1 := frozen_of_blk HB7.out.rx 1
        have hne : NQ ≠ w.heap.size + 1 := by omega
        have hne' : w.heap.size + 1 ≠ NQ := fun e => hne e.symm
        go_region
        go_wp2
        have hsl : SlS (.slice p5 k.length c5) k (((W7.setCell ⟨w.heap.size + 1, 0, none⟩ (.string ⟨#[]⟩)).setCell ⟨w.heap.size + 1, 1, none⟩ (.int .i64 0)).drew) := sls_box SK7.out HB7.out.rx (.string ⟨#[]⟩) (.int .i64 0)
        have hy : (((W7.setCell ⟨w.heap.size + 1, 0, none⟩ (.string ⟨#[]⟩)).setCell ⟨w.heap.size + 1, 1, none⟩ (.int .i64 0)).drew).heap[w.heap.size + 1]? = some (Obj.cells #[.string ⟨#[]⟩, .int .i64 0] 30 (0, 0)) := set2Q (.string ⟨#[]⟩) (.int .i64 0) HB7.out.rx
        have hby : Below w.heap.size w (((W7.setCell ⟨w.heap.size + 1, 0, none⟩ (.string ⟨#[]⟩)).setCell ⟨w.heap.size + 1, 1, none⟩ (.int .i64 0)).drew) := below_drewN (below2Q (q := w.heap.size + 1) (HB7.out.bel) (Nat.le_succ _) (.string ⟨#[]⟩) (.int .i64 0)) 1
        generalize ((World.setCell _ _ _).setCell _ _).drew = W' at *
        have y0 := cell_of_blk hy 0 (.string ⟨#[]⟩) rfl
        have y1 := cell_of_blk hy 1 (.int .i64 0) rfl
        refine bodyPost_ret (v := .tuple #[.slice p5 k.length c5, .agg #[.string ⟨#[]⟩, .int .i64 0], .int .i64 0]) (by simp [results, Tryd.f11, go_sem, y0, y1]) rfl ⟨⟨_, _, rfl, hsl, HK8.out⟩, hby⟩
end Go.Proofs.YtkhckgknldiheaaDoor
