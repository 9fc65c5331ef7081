/- Slices of signed sets; the contracts of first, find and validKnown of package trust; no condition beyond those that each theorem names. -/
import Derived.Test.YtkhckgknldiheaaDoorT6
namespace Go.Proofs.YtkhckgknldiheaaDoor
set_option linter.unusedSimpArgs false
set_option linter.unusedVariables false
open Go.RowKit
open NmP SpP

def valsK (s : Sd) : List Value := [.string s.x, .int .i64 s.t, .int .i64 s.f, .slice s.p s.n s.c, .slice s.q s.m s.d]
def rowK (l : List Sd) : List Value := l.flatMap valsK
def RK (b off : Nat) (l : List Sd) (W : World) : Prop := ∀ (m : Nat) (u : Value), (rowK l)[m]? = some u → W.cell? ⟨b, off + m, none⟩ = some u
theorem rowK_cons (t : Sd) (l : List Sd) : rowK (t :: l) = valsK t ++ rowK l := rfl
theorem rowK_append (a b : List Sd) : rowK (a ++ b) = rowK a ++ rowK b := by simp [rowK]
theorem rowK_len (l : List Sd) : (rowK l).length = 5 * l.length := by
  induction l with
  | nil => rfl
  | cons s r ih => rw [rowK_cons, List.length_append, ih]; simp [valsK]; omega
theorem rowK_get : ∀ (l : List Sd) (i f : Nat) (t : Sd), l[i]? = some t → f < 5 → (rowK l)[i * 5 + f]? = (valsK t)[f]?
  | [], _, _, _, h, _ => by simp at h
  | a :: r, 0, f, t, h, hf => by
    simp at h; subst h
    rw [rowK_cons, List.getElem?_append_left (by simp [valsK]; omega), Nat.zero_mul, Nat.zero_add]
  | a :: r, i + 1, f, t, h, hf => by
    rw [rowK_cons, List.getElem?_append_right (by simp [valsK]; omega), show (i + 1) * 5 + f - (valsK a).length = i * 5 + f by simp [valsK]; omega]
    exact rowK_get r i f t (by simpa using h) hf
structure KAt (W : World) (b off : Nat) (s : Sd) : Prop where
  c0 : W.cell? ⟨b, off, none⟩ = some (.string s.x)
  c1 : W.cell? ⟨b, off + 1, none⟩ = some (.int .i64 s.t)
  c2 : W.cell? ⟨b, off + 2, none⟩ = some (.int .i64 s.f)
  c3 : W.cell? ⟨b, off + 3, none⟩ = some (.slice s.p s.n s.c)
  c4 : W.cell? ⟨b, off + 4, none⟩ = some (.slice s.q s.m s.d)
theorem RK.at_ {b off : Nat} {l : List Sd} {W : World} (h : RK b off l W) {i : Nat} {t : Sd} (hi : l[i]? = some t) : KAt W b (off + i * 5) t := by
  have k : ∀ (f : Nat) (u : Value), f < 5 → (valsK t)[f]? = some u → W.cell? ⟨b, off + i * 5 + f, none⟩ = some u := fun f u hf hu => by
    have := h (i * 5 + f) u (by rw [rowK_get l i f t hi hf]; exact hu)
    rw [← Nat.add_assoc] at this; exact this
  exact ⟨k 0 _ (by omega) rfl, k 1 _ (by omega) rfl, k 2 _ (by omega) rfl, k 3 _ (by omega) rfl, k 4 _ (by omega) rfl⟩
theorem RK.keep {b off : Nat} {l : List Sd} {W W' : World} (h : RK b off l W) (hb : b < W.heap.size) (hB : Below W.heap.size W W') : RK b off l W' := fun m u hm =>
  (hB.cell (p := ⟨b, off + m, none⟩) hb).trans (h m u hm)
/-- A slice that holds signed sets. -/
def SlK (v : Value) (l : List Sd) (W : World) : Prop := ((l = [] ∧ ∃ p c, v = .slice p 0 c) ∨ ∃ b off c, v = .slice (some ⟨b, off, none⟩) l.length c ∧ b < W.heap.size ∧ RK b off l W) ∧ ∀ s ∈ l, s.In W
theorem SlK.keep {v : Value} {l : List Sd} {W W' : World} (h : SlK v l W) (hb : Below W.heap.size W W') : SlK v l W' := by
  refine ⟨?_, fun s hs => (h.2 s hs).keep hb⟩
  rcases h.1 with h | ⟨b, off, c, h1, h2, h3⟩
  · exact .inl h
  · exact .inr ⟨b, off, c, h1, Nat.lt_of_lt_of_le h2 hb.size, h3.keep h2 hb⟩
theorem SlK.form {v : Value} {l : List Sd} {W : World} (h : SlK v l W) : ∃ p c, v = .slice p l.length c := by
  rcases h.1 with ⟨h, p, c, h2⟩ | ⟨b, off, c, h1, _⟩
  · exact ⟨p, c, by rw [h2, h]; rfl⟩
  · exact ⟨_, c, h1⟩
theorem SlK.at_ {p : Option Addr} {n c : Nat} {l : List Sd} {W : World} (h : SlK (.slice p n c) l W) (h1 : 0 < l.length) : ∃ b off, p = some ⟨b, off, none⟩ ∧ b < W.heap.size ∧ RK b off l W := by
  rcases h.1 with ⟨h, _⟩ | ⟨b, off, c, h2, h3, h4⟩
  · rw [h] at h1; cases h1
  · cases h2; exact ⟨b, off, rfl, h3, h4⟩
/-- What first returns. -/
def fstV : Option Sd → Value
  | some s => .tuple #[.agg #[.string s.x, .int .i64 s.t, .int .i64 s.f, .slice s.p s.n s.c, .slice s.q s.m s.d], .bool true]
  | none => .tuple #[.agg #[.string ⟨#[]⟩, .int .i64 0, .int .i64 0, .slice none 0 0, .slice none 0 0], .bool false]
def FstS (r : Option Sd) (w : World) (e : Ending) (w' : World) : Prop := e = .returned (fstV r) ∧ Below w.heap.size w w'
/-- The known set of a name and a type. -/
def isQ (z : ByteArray) (k : Int) (s : Sd) : Bool := decide (s.x = z) && decide (s.t = k)
def findK (l : List Sd) (z : ByteArray) (k : Int) : Option Sd := l.find? (isQ z k)

theorem set5_ {W : World} {q : Nat} {o0 o1 o2 o3 o4 : Value} {t : TypeId} (a0 a1 a2 a3 a4 : Value) (h : W.heap[q]? = some (Obj.cells #[o0, o1, o2, o3, o4] t (0, 0))) :
    (((((W.setCell ⟨q, 0, none⟩ a0).setCell ⟨q, 1, none⟩ a1).setCell ⟨q, 2, none⟩ a2).setCell ⟨q, 3, none⟩ a3).setCell ⟨q, 4, none⟩ a4).heap[q]? = some (Obj.cells #[a0, a1, a2, a3, a4] t (0, 0)) := by
  have h1 := heap_setCell_same _ q 0 _ _ a0 h
  have h2 := heap_setCell_same _ q 1 _ _ a1 h1
  have h3 := heap_setCell_same _ q 2 _ _ a2 h2
  have h4 := heap_setCell_same _ q 3 _ _ a3 h3
  exact heap_setCell_same _ q 4 _ _ a4 h4
theorem below5_ {n : Nat} {w W : World} {q : Nat} (h : Below n w W) (hq : n ≤ q) (a0 a1 a2 a3 a4 : Value) : Below n w (((((W.setCell ⟨q, 0, none⟩ a0).setCell ⟨q, 1, none⟩ a1).setCell ⟨q, 2, none⟩ a2).setCell ⟨q, 3, none⟩ a3).setCell ⟨q, 4, none⟩ a4) :=
  (((((h.setCell (p := ⟨q, 0, none⟩) hq a0).setCell (p := ⟨q, 1, none⟩) hq a1).setCell (p := ⟨q, 2, none⟩) hq a2).setCell (p := ⟨q, 3, none⟩) hq a3).setCell (p := ⟨q, 4, none⟩) hq a4)

set_option maxHeartbeats 4000000 in
set_option maxRecDepth 100000 in
theorem firstS_any (B : Nat) (v : Value) (l : List Sd) (P : Sd → Bool) (w : World) (hv : SlK v l w) (hn : l.length ≤ maxLen)
    (hc : ∀ g ∈ l, ∀ W, Below w.heap.size w W → Calls Tryd.prog 90 #[.agg #[.string g.x, .int .i64 g.t, .int .i64 g.f, .slice g.p g.n g.c, .slice g.q g.m g.d], .pointer (some ⟨B, 0, none⟩)] W fun e w' => e = .returned (.bool (P g)) ∧ Below W.heap.size W w') :
    Calls Tryd.prog 89 #[v, .func (.func 90) #[] #[.pointer (some ⟨B, 0, none⟩)]] w (FstS (l.find? P) w) := by
  obtain ⟨p, c, rfl⟩ := hv.form
  obtain ⟨n, hm⟩ : ∃ m, l.length = m := ⟨_, rfl⟩
  rw [hm] at hv hn ⊢
  unfold maxLen at hn
  have HL := Lib.hid hm
  have hb0 := (Below.refl _ w).alloc (Nat.le_refl _) (.cells #[.string ⟨#[]⟩, .int .i64 0, .int .i64 0, .slice none 0 0, .slice none 0 0] 37)
  have hr0 : (w.alloc (.cells #[.string ⟨#[]⟩, .int .i64 0, .int .i64 0, .slice none 0 0, .slice none 0 0] 37)).heap[w.heap.size]? = some (Obj.cells #[.string ⟨#[]⟩, .int .i64 0, .int .i64 0, .slice none 0 0, .slice none 0 0] 37 (0, 0)) := heap_alloc_new w _
  have HV := Lib.hid (hv.keep hb0)
  have HC := Lib.hid hc
  have HB0 := Lib.hid hb0
  have HR0 := Lib.hid hr0
  obtain ⟨R, hR⟩ : ∃ R, l.find? P = R := ⟨_, rfl⟩
  rw [hR]
  have HR := Lib.hid hR
  clear hb0 hr0 hv hm hR hc
  generalize hW0 : w.alloc (.cells #[.string ⟨#[]⟩, .int .i64 0, .int .i64 0, .slice none 0 0, .slice none 0 0] 37) = W0 at *
  have HW0 := Lib.hid hW0
  clear hW0
  go_enter Tryd.func89, Tryd.ntmps89
  go_wp2
  rw [HW0.out]
  go_loopw [11] (fun s11 wr => ∃ i : Nat, i ≤ n ∧ s11 = .int .i64 i ∧ Hid ((l.drop i).find? P = R) ∧ Hid (Below W0.heap.size W0 wr)) (fun s11 _ => n - (intOf s11).toNat)
  case atStart => exact ⟨0, Nat.zero_le _, rfl, HR, Lib.hid (Below.refl _ _)⟩
  case round =>
    obtain ⟨i, hi, rfl, H1, HW⟩ := hrel
    by_cases hlt : i < n
    · have ia : i < l.length := by rw [HL.out]; exact hlt
      have ga : l[i]? = some l[i] := List.getElem?_eq_getElem ia
      have hv1 := HV.out.keep HW.out
      obtain ⟨b, off, rfl, hb, hR1⟩ := hv1.at_ (by omega)
      obtain ⟨a0, a1, a2, a3, a4⟩ := hR1.at_ ga
      have hbw : Below w.heap.size w wr := HB0.out.trans (HW.out.mono HB0.out.size)
      have HC1 := HC.out l[i] (List.getElem_mem ia) _ (hbw.alloc hbw.size (.cells #[.string l[i].x, .int .i64 l[i].t, .int .i64 l[i].f, .slice l[i].p l[i].n l[i].c, .slice l[i].q l[i].m l[i].d] 37))
      have h1 := H1.out
      rw [List.drop_eq_getElem_cons ia, List.find?_cons] at h1
      have hq := (HW.out.block w.heap.size (by have := (Array.getElem?_eq_some_iff.1 HR0.out).1; omega)).trans HR0.out
      have hql := (Array.getElem?_eq_some_iff.1 hq).1
      have hbox : (wr.alloc (.cells #[.string l[i].x, .int .i64 l[i].t, .int .i64 l[i].f, .slice l[i].p l[i].n l[i].c, .slice l[i].q l[i].m l[i].d] 37)).heap[wr.heap.size]? = some (Obj.cells #[.string l[i].x, .int .i64 l[i].t, .int .i64 l[i].f, .slice l[i].p l[i].n l[i].c, .slice l[i].q l[i].m l[i].d] 37 (0, 0)) := heap_alloc_new wr _
      have HQ : Hid ((wr.alloc (.cells #[.string l[i].x, .int .i64 l[i].t, .int .i64 l[i].f, .slice l[i].p l[i].n l[i].c, .slice l[i].q l[i].m l[i].d] 37)).heap[w.heap.size]? = some (Obj.cells #[.string ⟨#[]⟩, .int .i64 0, .int .i64 0, .slice none 0 0, .slice none 0 0] 37 (0, 0))) := Lib.hid ((heap_alloc_old wr _ hql).trans hq)
      have HWA := Lib.hid (HW.out.alloc HW.out.size (.cells #[.string l[i].x, .int .i64 l[i].t, .int .i64 l[i].f, .slice l[i].p l[i].n l[i].c, .slice l[i].q l[i].m l[i].d] 37))
      have HBx := Lib.hid hbox
      generalize l[i] = g at *
      obtain ⟨x, t, f, sp, sn, sc, sq, sm, sd, dl, gl⟩ := g
      simp only at a0 a1 a2 a3 a4 HC1 HQ HWA HBx h1
      have HCC := Lib.hid HC1
      have H1' := Lib.hid h1
      have hi1 : (i : Int) < (n : Int) := by omega
      clear ga hR1 hv1 H1 HR HC1 h1 hq hbw hbox
      generalize P _ = b0 at *
      go_wp2_with (go_at_call 90; fail)
      (with_reducible refine (HCC.out).mono ?_)
      rintro e w1 ⟨rfl, hb2⟩
      have hq2 := (hb2.block w.heap.size (by (try simp); (try omega))).trans HQ.out
      have hx2 := (hb2.block wr.heap.size (by (try simp); (try omega))).trans HBx.out
      have HW1 := Lib.hid (HWA.out.trans (hb2.mono HWA.out.size))
      have u0 := cell_of_blk hx2 0 (.string x) rfl
      have u1 := cell_of_blk hx2 1 (.int .i64 t) rfl
      have u2 := cell_of_blk hx2 2 (.int .i64 f) rfl
      have u3 := cell_of_blk hx2 3 (.slice sp sn sc) rfl
      have u4 := cell_of_blk hx2 4 (.slice sq sm sd) rfl
      have r0 := cell_of_blk hq2 0 (.string ⟨#[]⟩) rfl
      have r1 := cell_of_blk hq2 1 (.int .i64 0) rfl
      have r2 := cell_of_blk hq2 2 (.int .i64 0) rfl
      have r3 := cell_of_blk hq2 3 (.slice none 0 0) rfl
      have r4 := cell_of_blk hq2 4 (.slice none 0 0) rfl
      have rf0 := frozen_of_blk hq2 0
      have rf1 := frozen_of_blk hq2 1
      have rf2 := frozen_of_blk hq2 2
      have rf3 := frozen_of_blk hq2 3
      have rf4 := frozen_of_blk hq2 4
      have HQ2 := Lib.hid hq2
      have h1 := H1'.out
      clear hb2 hq2 hx2 a0 a1 a2 a3 a4
      cases b0
      · have h2 := Lib.hid (show (l.drop (i + 1)).find? P = R by rw [← h1])
        clear h1
        go_wp2
        go_roundw
        case rel => exact ⟨i + 1, hlt, by go_num, h2, HW1⟩
        case measure =>
          simp [intOf]
          omega
      · have h2 : some ⟨x, t, f, sp, sn, sc, sq, sm, sd, dl, gl⟩ = R := by rw [← h1]
        subst h2
        clear h1
        go_wp2
        have hx := set5_ (.string x) (.int .i64 t) (.int .i64 f) (.slice sp sn sc) (.slice sq sm sd) HQ2.out
        have hbx := below5_ (HB0.out.trans (HW1.out.mono HB0.out.size)) (q := w.heap.size) (Nat.le_refl _) (.string x) (.int .i64 t) (.int .i64 f) (.slice sp sn sc) (.slice sq sm sd)
        generalize ((((World.setCell _ _ _).setCell _ _).setCell _ _).setCell _ _).setCell _ _ = W' at *
        have x0 := cell_of_blk hx 0 (.string x) rfl
        have x1 := cell_of_blk hx 1 (.int .i64 t) rfl
        have x2 := cell_of_blk hx 2 (.int .i64 f) rfl
        have x3 := cell_of_blk hx 3 (.slice sp sn sc) rfl
        have x4 := cell_of_blk hx 4 (.slice sq sm sd) rfl
        refine bodyPost_ret (v := .tuple #[.agg #[.string x, .int .i64 t, .int .i64 f, .slice sp sn sc, .slice sq sm sd], .bool true]) (by simp [results, Tryd.f89, go_sem, x0, x1, x2, x3, x4]) rfl ⟨rfl, hbx⟩
    · obtain rfl : i = n := by omega
      have h1 := H1.out
      rw [List.drop_eq_nil_of_le (by have := HL.out; omega)] at h1
      have h2 : none = R := h1
      subst h2
      have hq := (HW.out.block w.heap.size (by have := (Array.getElem?_eq_some_iff.1 HR0.out).1; omega)).trans HR0.out
      have hql := (Array.getElem?_eq_some_iff.1 hq).1
      have hbw : Below w.heap.size w wr := HB0.out.trans (HW.out.mono HB0.out.size)
      have HBA := Lib.hid hbw
      have HQ2 := Lib.hid hq
      have r0 := cell_of_blk hq 0 (.string ⟨#[]⟩) rfl
      have r1 := cell_of_blk hq 1 (.int .i64 0) rfl
      have r2 := cell_of_blk hq 2 (.int .i64 0) rfl
      have r3 := cell_of_blk hq 3 (.slice none 0 0) rfl
      have r4 := cell_of_blk hq 4 (.slice none 0 0) rfl
      have rf0 := frozen_of_blk hq 0
      have rf1 := frozen_of_blk hq 1
      have rf2 := frozen_of_blk hq 2
      have rf3 := frozen_of_blk hq 3
      have rf4 := frozen_of_blk hq 4
      clear hq hbw h1
      go_wp2
      have hx := set5_ (.string ⟨#[]⟩) (.int .i64 0) (.int .i64 0) (.slice none 0 0) (.slice none 0 0) HQ2.out
      have hbx := below5_ HBA.out (q := w.heap.size) (Nat.le_refl _) (.string ⟨#[]⟩) (.int .i64 0) (.int .i64 0) (.slice none 0 0) (.slice none 0 0)
      have hql2 := (Array.getElem?_eq_some_iff.1 hx).1
      replace hx := (heap_alloc_old _ (.cells #[.string ⟨#[]⟩, .int .i64 0, .int .i64 0, .slice none 0 0, .slice none 0 0] 37) hql2).trans hx
      replace hbx := hbx.alloc hbx.size (.cells #[.string ⟨#[]⟩, .int .i64 0, .int .i64 0, .slice none 0 0, .slice none 0 0] 37)
      clear hql2
      generalize (((((World.setCell _ _ _).setCell _ _).setCell _ _).setCell _ _).setCell _ _).alloc _ = W' at *
      have x0 := cell_of_blk hx 0 (.string ⟨#[]⟩) rfl
      have x1 := cell_of_blk hx 1 (.int .i64 0) rfl
      have x2 := cell_of_blk hx 2 (.int .i64 0) rfl
      have x3 := cell_of_blk hx 3 (.slice none 0 0) rfl
      have x4 := cell_of_blk hx 4 (.slice none 0 0) rfl
      refine bodyPost_ret (v := .tuple #[.agg #[.string ⟨#[]⟩, .int .i64 0, .int .i64 0, .slice none 0 0, .slice none 0 0], .bool false]) (by simp [results, Tryd.f89, go_sem, x0, x1, x2, x3, x4]) rfl ⟨rfl, hbx⟩


set_option maxHeartbeats 1000000 in
set_option maxRecDepth 100000 in
theorem isQ_any (B : Nat) (z : ByteArray) (k : Int) (s : Sd) (w : World) (h0 : w.cell? ⟨B, 0, none⟩ = some (.string z)) (h1 : w.cell? ⟨B, 1, none⟩ = some (.int .i64 k)) :
    Calls Tryd.prog 90 #[.agg #[.string s.x, .int .i64 s.t, .int .i64 s.f, .slice s.p s.n s.c, .slice s.q s.m s.d], .pointer (some ⟨B, 0, none⟩)] w fun e w' => e = .returned (.bool (isQ z k s)) ∧ Below w.heap.size w w' := by
  have hB : B < w.heap.size := World.block_lt_of_cell? w _ h0
  have HB := Lib.hid ((Below.refl _ w).alloc (Nat.le_refl _) (.cells #[.string s.x, .int .i64 s.t, .int .i64 s.f, .slice s.p s.n s.c, .slice s.q s.m s.d] 37))
  unfold isQ
  by_cases e1 : s.x = z
  · have f1 : (s.x.toList == z.toList) = true := by rw [e1]; simp
    rw [decide_eq_true e1, Bool.true_and]
    clear e1
    by_cases e2 : s.t = k
    · have f2 : (s.t == k) = true := by simpa using e2
      rw [decide_eq_true e2]
      clear e2
      go_enter Tryd.func90, Tryd.ntmps90
      go_wp2
      go_ret
      exact ⟨rfl, HB.out⟩
    · have f2 : (s.t == k) = false := by simpa using e2
      rw [decide_eq_false e2]
      go_enter Tryd.func90, Tryd.ntmps90
      go_wp2
      go_ret
      exact ⟨rfl, HB.out⟩
  · have f1 : (s.x.toList == z.toList) = false := by
      rw [beq_eq_false_iff_ne]
      intro h
      apply e1
      apply ByteArray.ext
      apply Array.toList_inj.1
      rw [← tl, ← tl]; exact h
    rw [decide_eq_false e1, Bool.false_and]
    go_enter Tryd.func90, Tryd.ntmps90
    go_wp2
    go_ret
    exact ⟨rfl, HB.out⟩

set_option maxHeartbeats 2000000 in
set_option maxRecDepth 100000 in
theorem find_any (v : Value) (l : List Sd) (z : ByteArray) (k : Int) (w : World) (hv : SlK v l w) (hn : l.length ≤ maxLen) :
    Calls Tryd.prog 72 #[v, .agg #[.string z, .int .i64 k]] w (FstS (findK l z k) w) := by
  obtain ⟨p, c, rfl⟩ := hv.form
  have hb0 : Below w.heap.size w ((w.alloc (.cells #[.string z, .int .i64 k] 30)).alloc (.cells #[.string ⟨#[]⟩, .int .i64 0, .int .i64 0, .slice none 0 0, .slice none 0 0] 37)) := ((Below.refl _ w).alloc (Nat.le_refl _) _).alloc (by simp) _
  have hq0 : ((w.alloc (.cells #[.string z, .int .i64 k] 30)).alloc (.cells #[.string ⟨#[]⟩, .int .i64 0, .int .i64 0, .slice none 0 0, .slice none 0 0] 37)).heap[w.heap.size]? = some (Obj.cells #[.string z, .int .i64 k] 30 (0, 0)) := (heap_alloc_old _ _ (by simp)).trans (heap_alloc_new w _)
  have hr0 : ((w.alloc (.cells #[.string z, .int .i64 k] 30)).alloc (.cells #[.string ⟨#[]⟩, .int .i64 0, .int .i64 0, .slice none 0 0, .slice none 0 0] 37)).heap[w.heap.size + 1]? = some (Obj.cells #[.string ⟨#[]⟩, .int .i64 0, .int .i64 0, .slice none 0 0, .slice none 0 0] 37 (0, 0)) := by
    have := heap_alloc_new (w.alloc (.cells #[.string z, .int .i64 k] 30)) (.cells #[.string ⟨#[]⟩, .int .i64 0, .int .i64 0, .slice none 0 0, .slice none 0 0] 37)
    simpa using this
  have hz0 : w.heap.size + 1 < ((w.alloc (.cells #[.string z, .int .i64 k] 30)).alloc (.cells #[.string ⟨#[]⟩, .int .i64 0, .int .i64 0, .slice none 0 0, .slice none 0 0] 37)).heap.size := by simp
  have CF := Lib.hid (firstS_any w.heap.size (.slice p l.length c) l (isQ z k) _ (hv.keep hb0) hn (fun s hs W hW => isQ_any w.heap.size z k s W (by
    rw [World.cell?_of_block (hW.block _ (by simp only; omega))]; exact cell_of_blk hq0 0 _ rfl) (by
    rw [World.cell?_of_block (hW.block _ (by simp only; omega))]; exact cell_of_blk hq0 1 _ rfl)))
  have HB0 := Lib.hid hb0
  have HR0 := Lib.hid hr0
  have HZ0 := Lib.hid hz0
  unfold findK
  generalize l.find? (isQ z k) = R at *
  unfold FstS at CF ⊢
  clear hb0 hq0 hr0 hv hn hz0
  generalize l.length = n at *
  generalize hW0 : (w.alloc (.cells #[.string z, .int .i64 k] 30)).alloc (.cells #[.string ⟨#[]⟩, .int .i64 0, .int .i64 0, .slice none 0 0, .slice none 0 0] 37) = W0 at *
  have HW0 := Lib.hid hW0
  clear hW0
  cases R with
  | none =>
    unfold fstV at CF ⊢
    simp only at CF ⊢
    go_enter Tryd.func72, Tryd.ntmps72
    go_wp2_with (go_at_call 89; rw [HW0.out]; (with_reducible refine (CF.out).mono ?_); rintro e w1 ⟨rfl, hb⟩; have HB1 := Lib.hid (HB0.out.trans (hb.mono HB0.out.size)); have HR1 := Lib.hid ((hb.block _ HZ0.out).trans HR0.out); clear hb; have r0 := cell_of_blk HR1.out 0 (.string ⟨#[]⟩) rfl; have r1 := cell_of_blk HR1.out 1 (.int .i64 0) rfl; have r2 := cell_of_blk HR1.out 2 (.int .i64 0) rfl; have r3 := cell_of_blk HR1.out 3 (.slice none 0 0) rfl; have r4 := cell_of_blk HR1.out 4 (.slice none 0 0) rfl; have rf0 := frozen_of_blk HR1.out 0; have rf1 := frozen_of_blk HR1.out 1; have rf2 := frozen_of_blk HR1.out 2; have rf3 := frozen_of_blk HR1.out 3; have rf4 := frozen_of_blk HR1.out 4)
    have hx := set5_ (.string ⟨#[]⟩) (.int .i64 0) (.int .i64 0) (.slice none 0 0) (.slice none 0 0) HR1.out
    have hbx := below5_ HB1.out (q := w.heap.size + 1) (Nat.le_succ _) (.string ⟨#[]⟩) (.int .i64 0) (.int .i64 0) (.slice none 0 0) (.slice none 0 0)
    generalize ((((World.setCell _ _ _).setCell _ _).setCell _ _).setCell _ _).setCell _ _ = W' at *
    have x0 := cell_of_blk hx 0 (.string ⟨#[]⟩) rfl
    have x1 := cell_of_blk hx 1 (.int .i64 0) rfl
    have x2 := cell_of_blk hx 2 (.int .i64 0) rfl
    have x3 := cell_of_blk hx 3 (.slice none 0 0) rfl
    have x4 := cell_of_blk hx 4 (.slice none 0 0) rfl
    refine bodyPost_ret (v := .tuple #[.agg #[.string ⟨#[]⟩, .int .i64 0, .int .i64 0, .slice none 0 0, .slice none 0 0], .bool false]) (by simp [results, Tryd.f72, go_sem, x0, x1, x2, x3, x4]) rfl ⟨rfl, hbx⟩
  | some s =>
    obtain ⟨x, t, f, sp, sn, sc, sq, sm, sd, dl, gl⟩ := s
    unfold fstV at CF ⊢
    simp only at CF ⊢
    go_enter Tryd.func72, Tryd.ntmps72
    go_wp2_with (go_at_call 89; rw [HW0.out]; (with_reducible refine (CF.out).mono ?_); rintro e w1 ⟨rfl, hb⟩; have HB1 := Lib.hid (HB0.out.trans (hb.mono HB0.out.size)); have HR1 := Lib.hid ((hb.block _ HZ0.out).trans HR0.out); clear hb; have r0 := cell_of_blk HR1.out 0 (.string ⟨#[]⟩) rfl; have r1 := cell_of_blk HR1.out 1 (.int .i64 0) rfl; have r2 := cell_of_blk HR1.out 2 (.int .i64 0) rfl; have r3 := cell_of_blk HR1.out 3 (.slice none 0 0) rfl; have r4 := cell_of_blk HR1.out 4 (.slice none 0 0) rfl; have rf0 := frozen_of_blk HR1.out 0; have rf1 := frozen_of_blk HR1.out 1; have rf2 := frozen_of_blk HR1.out 2; have rf3 := frozen_of_blk HR1.out 3; have rf4 := frozen_of_blk HR1.out 4)
    have hx := set5_ (.string x) (.int .i64 t) (.int .i64 f) (.slice sp sn sc) (.slice sq sm sd) HR1.out
    have hbx := below5_ HB1.out (q := w.heap.size + 1) (Nat.le_succ _) (.string x) (.int .i64 t) (.int .i64 f) (.slice sp sn sc) (.slice sq sm sd)
    generalize ((((World.setCell _ _ _).setCell _ _).setCell _ _).setCell _ _).setCell _ _ = W' at *
    have x0 := cell_of_blk hx 0 (.string x) rfl
    have x1 := cell_of_blk hx 1 (.int .i64 t) rfl
    have x2 := cell_of_blk hx 2 (.int .i64 f) rfl
    have x3 := cell_of_blk hx 3 (.slice sp sn sc) rfl
    have x4 := cell_of_blk hx 4 (.slice sq sm sd) rfl
    refine bodyPost_ret (v := .tuple #[.agg #[.string x, .int .i64 t, .int .i64 f, .slice sp sn sc, .slice sq sm sd], .bool true]) (by simp [results, Tryd.f72, go_sem, x0, x1, x2, x3, x4]) rfl ⟨rfl, hbx⟩

end Go.Proofs.YtkhckgknldiheaaDoor
