/- Arguments that are signed sets, slices of keys and slices of signed sets, opened; no condition beyond those that each theorem names. -/
import Derived.Test.YtkhckgknldiheaaDoorOS
import Derived.Test.YtkhckgknldiheaaDoorT7
namespace Go.Proofs.YtkhckgknldiheaaDoor
set_option linter.unusedSimpArgs false
set_option linter.unusedVariables false
open Go.ChangeShapes Go.WideShapes Go.ChangeAt Go.RowKit Go.Joins Go.Shelf Go.Deep
set_option maxRecDepth 100000
open NmP SpP

theorem choose_list {T : Type} {p : Nat → T → Prop} : ∀ n, (∀ i, i < n → ∃ t, p i t) → ∃ l : List T, l.length = n ∧ ∀ i t, l[i]? = some t → p i t
  | 0, _ => ⟨[], rfl, fun i t h => by simp at h⟩
  | n + 1, h => by
    obtain ⟨l, hl, hp⟩ := choose_list n (fun i hi => h i (by omega))
    obtain ⟨t, ht⟩ := h n (by omega)
    refine ⟨l ++ [t], by simp [hl], fun i u hu => ?_⟩
    by_cases hi : i < l.length
    · rw [List.getElem?_append_left hi] at hu
      exact hp i u hu
    · have hlt := (List.getElem?_eq_some_iff.1 hu).1
      simp only [List.length_append, List.length_singleton] at hlt
      obtain rfl : i = l.length := by omega
      rw [List.getElem?_append_right (by omega), Nat.sub_self] at hu
      simp only [List.getElem?_cons_zero, Option.some.injEq] at hu
      subst hu
      rw [hl]
      exact ht
/-- A row of structs that was read, as a list. -/
theorem open_row {T : Type} {k : Nat} {vals : T → List Value} {row : List T → List Value} {Q : T → Prop} (hk : 0 < k) (hlen : ∀ l, (row l).length = k * l.length) (hvl : ∀ t, (vals t).length = k) (hget : ∀ l i f t, l[i]? = some t → f < k → (row l)[i * k + f]? = (vals t)[f]?)
    {a : Addr} {len cap : Nat} {W : World} (h : ∀ i, i < len → ∃ t : T, Q t ∧ ∀ f v, (vals t)[f]? = some v → W.cell? (a.add (i * k + f)) = some v) :
    ∃ l : List T, l.length = len ∧ (∀ t ∈ l, Q t) ∧ ((l = [] ∧ ∃ p c, Value.slice (some a) len cap = .slice p 0 c) ∨ ∃ b off c, Value.slice (some a) len cap = .slice (some ⟨b, off, none⟩) l.length c ∧ b < W.heap.size ∧ ∀ m u, (row l)[m]? = some u → W.cell? ⟨b, off + m, none⟩ = some u) ∧ ∀ m u, (row l)[m]? = some u → W.cell? (a.add m) = some u := by
  obtain ⟨l, hl, hp⟩ := choose_list len h
  have hcells : ∀ m u, (row l)[m]? = some u → W.cell? (a.add m) = some u := fun m u hm => by
    have hml : m < k * l.length := by
      have := (List.getElem?_eq_some_iff.1 hm).1
      rw [hlen] at this
      exact this
    have hdl : m / k < l.length := Nat.div_lt_of_lt_mul hml
    have hi : l[m / k]? = some (l[m / k]'hdl) := List.getElem?_eq_getElem hdl
    have hmk : m / k * k + m % k = m := by rw [Nat.mul_comm]; exact Nat.div_add_mod m k
    have hr := hget l (m / k) (m % k) _ hi (Nat.mod_lt _ hk)
    rw [hmk, hm] at hr
    have hc := (hp (m / k) _ hi).2 (m % k) u hr.symm
    rw [hmk] at hc
    exact hc
  refine ⟨l, hl, fun t ht => ?_, ?_, hcells⟩
  · obtain ⟨i, hi⟩ := List.getElem?_of_mem ht
    exact (hp i t hi).1
  · by_cases h0 : len = 0
    · subst h0
      exact .inl ⟨List.eq_nil_of_length_eq_zero hl, _, _, rfl⟩
    · obtain ⟨b, off, spot⟩ := a
      have hi0 : l[0]? = some (l[0]'(by omega)) := List.getElem?_eq_getElem (by omega)
      have hv0 : (vals (l[0]'(by omega)))[0]? = some ((vals (l[0]'(by omega)))[0]'(by rw [hvl]; exact hk)) := List.getElem?_eq_getElem _
      have q0 := (hp 0 _ hi0).2 0 _ hv0
      have hspot : spot = none := by simpa [Addr.add] using World.cell?_spot q0
      subst hspot
      have hb : b < W.heap.size := by
        have := World.block_lt_of_cell? W _ q0
        simpa [Addr.add] using this
      refine .inr ⟨b, off, cap, by rw [hl], hb, fun m u hm => ?_⟩
      have hc := hcells m u hm
      rw [Go.WideShapes.add_plain] at hc
      exact hc
/-- A slice of signatures that was read. -/
theorem open_sigs {H : Type} {enc : TypeId × Value → H} {W : World} {base : Nat} {spare : Nat → Bool} {held : Bool} {fuel : Nat} {v : Value} {x : DataW H × List MemPlace} (h : DataW.trod enc Tryd.prog W base spare held fuel 35 [v] = some x) :
    ∃ l : List Sg, SlG v l W ∧ l.length ≤ maxLen ∧ ∀ g ∈ l, g.z.size ≤ maxLen := by
  rcases slice_fields Tryd.underlying35 Tryd.underlying49 (by kernel_rfl) (by kernel_rfl) h with hcs | ⟨a, len, cap, hcs, hlm, hi⟩
  · simp only [List.cons.injEq, and_true] at hcs
    subst hcs
    exact ⟨[], .inl ⟨rfl, none, 0, rfl⟩, Nat.zero_le _, fun d hd => absurd hd List.not_mem_nil⟩
  · simp only [List.cons.injEq, and_true] at hcs
    subst hcs
    obtain ⟨l, hl, hq, hS, -⟩ := open_row (T := Sg) (k := 6) (vals := valsG) (row := rowG) (Q := fun g => g.z.size ≤ maxLen) (a := a) (len := len) (cap := cap) (W := W) (by decide) rowG_len (fun _ => rfl) rowG_get (fun i hil => by
      obtain ⟨v0, n0, y0, c0, t0⟩ := hi i hil 0 _ rfl
      obtain ⟨v1, n1, y1, c1, t1⟩ := hi i hil 1 _ rfl
      obtain ⟨v2, n2, y2, c2, t2⟩ := hi i hil 2 _ rfl
      obtain ⟨v3, n3, y3, c3, t3⟩ := hi i hil 3 _ rfl
      obtain ⟨v4, n4, y4, c4, t4⟩ := hi i hil 4 _ rfl
      obtain ⟨v5, n5, y5, c5, t5⟩ := hi i hil 5 _ rfl
      obtain ⟨s, e0, _, hs⟩ := DataW.trod_string Tryd.underlying9 t0
      obtain ⟨z1, e1, _⟩ := DataW.trod_int Tryd.underlying3 t1
      obtain ⟨z2, e2, _⟩ := DataW.trod_int Tryd.underlying3 t2
      obtain ⟨z3, e3, _⟩ := DataW.trod_int Tryd.underlying3 t3
      obtain ⟨z4, e4, _⟩ := DataW.trod_int Tryd.underlying3 t4
      obtain ⟨z5, e5, _⟩ := DataW.trod_int Tryd.underlying47 t5
      simp only [List.cons.injEq, and_true] at e0 e1 e2 e3 e4 e5
      subst e0 e1 e2 e3 e4 e5
      refine ⟨⟨s, z1, z2, z3, z4, z5⟩, hs, fun f v hf => ?_⟩
      have hlt : f < 6 := (List.getElem?_eq_some_iff.1 hf).1
      have hf6 : f = 0 ∨ f = 1 ∨ f = 2 ∨ f = 3 ∨ f = 4 ∨ f = 5 := by omega
      rcases hf6 with rfl | rfl | rfl | rfl | rfl | rfl <;> (simp only [valsG, List.getElem?_cons_zero, List.getElem?_cons_succ, Option.some.injEq] at hf; subst hf)
      · exact c0
      · exact c1
      · exact c2
      · exact c3
      · exact c4
      · exact c5)
    exact ⟨l, hS, by omega, hq⟩
/-- A slice of keys that was read. -/
theorem open_keys {H : Type} {enc : TypeId × Value → H} {W : World} {base b0 : Nat} {r : Reach} {spare : Nat → Bool} {held : Bool} {v : Value} {d : DataW H} {p : List MemPlace} (hv : Value.okWide Tryd.prog W r b0 26 v) (h : DataW.Trod enc Tryd.prog W base spare held 26 v d p) :
    ∃ l : List Sp, SlS v l W ∧ l.length ≤ maxLen := by
  obtain ⟨fuel, h⟩ := h
  have hvc : v.cells.toList = [v] := by
    obtain ⟨a0, len0, cap0, rfl⟩ := okWide_slice Tryd.underlying26 hv
    rfl
  rw [hvc] at h
  rcases slice_fields Tryd.underlying26 Tryd.underlying44 (by kernel_rfl) (by kernel_rfl) h with hcs | ⟨a, len, cap, hcs, hlm, hi⟩
  · simp only [List.cons.injEq, and_true] at hcs
    subst hcs
    exact ⟨[], .inl ⟨rfl, none, 0, rfl⟩, Nat.zero_le _⟩
  · simp only [List.cons.injEq, and_true] at hcs
    subst hcs
    obtain ⟨l, hl, hq, hS, -⟩ := open_row (T := Sp) (k := 2) (vals := valsS) (row := rowS) (Q := fun _ => True) (a := a) (len := len) (cap := cap) (W := W) (by decide) rowS_len (fun _ => rfl) rowS_get (fun i hil => by
      obtain ⟨v0, n0, y0, c0, t0⟩ := hi i hil 0 _ rfl
      obtain ⟨v1, n1, y1, c1, t1⟩ := hi i hil 1 _ rfl
      obtain ⟨z0, e0, _⟩ := DataW.trod_int Tryd.underlying3 t0
      obtain ⟨z1, e1, _⟩ := DataW.trod_int Tryd.underlying3 t1
      simp only [List.cons.injEq, and_true] at e0 e1
      subst e0 e1
      refine ⟨(z0, z1), trivial, fun f v hf => ?_⟩
      have hlt : f < 2 := (List.getElem?_eq_some_iff.1 hf).1
      have hf2 : f = 0 ∨ f = 1 := by omega
      rcases hf2 with rfl | rfl <;> (simp only [valsS, List.getElem?_cons_zero, List.getElem?_cons_succ, Option.some.injEq] at hf; subst hf)
      · exact c0
      · exact c1)
    exact ⟨l, hS, by omega⟩
/-- The cells of a signed set that was read. -/
theorem trod_signed {H : Type} {enc : TypeId × Value → H} {W : World} {base : Nat} {spare : Nat → Bool} {held : Bool} {fuel : Nat} {cs : List Value} {x : DataW H × List MemPlace} (h : DataW.trod enc Tryd.prog W base spare held fuel 37 cs = some x) :
    ∃ s : Sd, cs = valsK s ∧ s.In W := by
  obtain ⟨xs, n, _, _, hl, hxl, hf⟩ := DataW.trod_struct Tryd.underlying37 h
  rw [show Tryd.prog.cellsOf 37 = 5 by kernel_rfl] at hl
  have k4 : Tryd.prog.cellsOf 25 = 4 := by kernel_rfl
  have k1 : Tryd.prog.cellsOf 35 = 1 := by kernel_rfl
  match cs, hl, xs, hxl with
  | [c0, c1, c2, c3, c4], _, [x0, x1], _ =>
    have f0 : DataW.trod enc Tryd.prog W base spare held n 25 (([c0, c1, c2, c3, c4].drop 0).take (Tryd.prog.cellsOf 25)) = some x0 := hf 0 _ rfl
    have f1 : DataW.trod enc Tryd.prog W base spare held n 35 (([c0, c1, c2, c3, c4].drop 4).take (Tryd.prog.cellsOf 35)) = some x1 := hf 1 _ rfl
    rw [k4] at f0
    rw [k1] at f1
    have f0' : DataW.trod enc Tryd.prog W base spare held n 25 [c0, c1, c2, c3] = some x0 := f0
    have f1' : DataW.trod enc Tryd.prog W base spare held n 35 [c4] = some x1 := f1
    clear f0 f1
    obtain ⟨ys, m, _, _, hl2, hyl, hg⟩ := DataW.trod_struct Tryd.underlying25 f0'
    match ys, hyl with
    | [y0, y1, y2, y3], _ =>
      have ks : Tryd.prog.cellsOf 9 = 1 := by kernel_rfl
      have ki : Tryd.prog.cellsOf 3 = 1 := by kernel_rfl
      have kd : Tryd.prog.cellsOf 23 = 1 := by kernel_rfl
      have g0 : DataW.trod enc Tryd.prog W base spare held m 9 (([c0, c1, c2, c3].drop 0).take (Tryd.prog.cellsOf 9)) = some y0 := hg 0 _ rfl
      have g1 : DataW.trod enc Tryd.prog W base spare held m 3 (([c0, c1, c2, c3].drop 1).take (Tryd.prog.cellsOf 3)) = some y1 := hg 1 _ rfl
      have g2 : DataW.trod enc Tryd.prog W base spare held m 3 (([c0, c1, c2, c3].drop 2).take (Tryd.prog.cellsOf 3)) = some y2 := hg 2 _ rfl
      have g3 : DataW.trod enc Tryd.prog W base spare held m 23 (([c0, c1, c2, c3].drop 3).take (Tryd.prog.cellsOf 23)) = some y3 := hg 3 _ rfl
      rw [ks] at g0
      rw [ki] at g1 g2
      rw [kd] at g3
      have g0' : DataW.trod enc Tryd.prog W base spare held m 9 [c0] = some y0 := g0
      have g1' : DataW.trod enc Tryd.prog W base spare held m 3 [c1] = some y1 := g1
      have g2' : DataW.trod enc Tryd.prog W base spare held m 3 [c2] = some y2 := g2
      have g3' : DataW.trod enc Tryd.prog W base spare held m 23 [c3] = some y3 := g3
      obtain ⟨s, e0, _, hs⟩ := DataW.trod_string Tryd.underlying9 g0'
      obtain ⟨z1, e1, _⟩ := DataW.trod_int Tryd.underlying3 g1'
      obtain ⟨z2, e2, _⟩ := DataW.trod_int Tryd.underlying3 g2'
      simp only [List.cons.injEq, and_true] at e0 e1 e2
      subst e0 e1 e2
      obtain ⟨l, hD, hn, hd⟩ := open_data g3'
      obtain ⟨gl, hG, hgn, hgz⟩ := open_sigs f1'
      obtain ⟨p, c, rfl⟩ := hD.form
      obtain ⟨q, d, rfl⟩ := hG.form
      exact ⟨⟨s, z1, z2, p, l.length, c, q, gl.length, d, l, gl⟩, rfl, ⟨⟨hs, hd, hD⟩, hn, hG, hgz, hgn⟩⟩
/-- A signed set that was read. -/
theorem open_signed {H : Type} {enc : TypeId × Value → H} {W : World} {base b0 : Nat} {r : Reach} {spare : Nat → Bool} {held : Bool} {v : Value} {d : DataW H} {p : List MemPlace} (hv : Value.okWide Tryd.prog W r b0 37 v) (h : DataW.Trod enc Tryd.prog W base spare held 37 v d p) :
    ∃ s : Sd, v = .agg #[.string s.x, .int .i64 s.t, .int .i64 s.f, .slice s.p s.n s.c, .slice s.q s.m s.d] ∧ s.In W := by
  obtain ⟨cs, rfl, hsz⟩ := okWide_struct Tryd.underlying37 hv
  obtain ⟨fuel, h⟩ := h
  obtain ⟨s, hs, hin⟩ := trod_signed h
  obtain ⟨cs⟩ := cs
  simp only [Value.cells] at hs
  exact ⟨s, by rw [hs]; rfl, hin⟩
/-- A slice of signed sets from which one can append: nil, or one with an address. -/
def SrcK (v : Value) (l : List Sd) (W : World) : Prop := (v = .slice none 0 0 ∧ l = []) ∨ ∃ ad c, v = .slice (some ad) l.length c ∧ ∀ m u, (rowK l)[m]? = some u → W.cell? (ad.add m) = some u
/-- A slice of signed sets that was read. -/
theorem open_knowns {H : Type} {enc : TypeId × Value → H} {W : World} {base b0 : Nat} {r : Reach} {spare : Nat → Bool} {held : Bool} {v : Value} {d : DataW H} {p : List MemPlace} (hv : Value.okWide Tryd.prog W r b0 22 v) (h : DataW.Trod enc Tryd.prog W base spare held 22 v d p) :
    ∃ l : List Sd, SlK v l W ∧ l.length ≤ maxLen ∧ SrcK v l W := by
  obtain ⟨fuel, h⟩ := h
  have hvc : v.cells.toList = [v] := by
    obtain ⟨a0, len0, cap0, rfl⟩ := okWide_slice Tryd.underlying22 hv
    rfl
  rw [hvc] at h
  rcases Go.Deep.open_slice Tryd.underlying22 h with h0 | ⟨a, len, cap, m, n, D, Pl, hcs, hb, hl, hm, hmm, hx, hi⟩
  · have h1 := h0.1
    simp only [List.cons.injEq, and_true] at h1
    subst h1
    exact ⟨[], ⟨.inl ⟨rfl, none, 0, rfl⟩, fun s hs => absurd hs List.not_mem_nil⟩, Nat.zero_le _, .inl ⟨rfl, rfl⟩⟩
  · simp only [List.cons.injEq, and_true] at hcs
    subst hcs
    rw [show Tryd.prog.cellsOf 37 = 5 by kernel_rfl] at hi
    obtain ⟨l, hl2, hq, hS, hcc⟩ := open_row (T := Sd) (k := 5) (vals := valsK) (row := rowK) (Q := fun s => s.In W) (a := a) (len := len) (cap := cap) (W := W) (by decide) rowK_len (fun _ => rfl) rowK_get (fun i hil => by
      have him : i < m := by rw [hmm]; split <;> omega
      obtain ⟨cs', hc, ht⟩ := hi i him
      obtain ⟨s, rfl, hs⟩ := trod_signed ht
      obtain ⟨_, _, hat⟩ := World.cells?_some hc
      refine ⟨s, hs, fun f v hf => ?_⟩
      have hlt : f < 5 := (List.getElem?_eq_some_iff.1 hf).1
      have h1 := hat f hlt
      rw [hf, Go.Deep.add_add] at h1
      exact h1)
    exact ⟨l, ⟨hS, hq⟩, by omega, .inr ⟨a, cap, by rw [hl2], hcc⟩⟩
end Go.Proofs.YtkhckgknldiheaaDoor
