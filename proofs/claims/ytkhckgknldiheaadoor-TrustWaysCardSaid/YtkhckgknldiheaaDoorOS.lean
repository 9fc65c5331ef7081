/- Arguments that are sets and keys, opened; and the table of rules, read out of the row's condition; no condition beyond those that each theorem names. -/
import Derived.Test.YtkhckgknldiheaaDoorG3
import Derived.Test.YtkhckgknldiheaaDoorRows
import Derived.Deep.Slices
import Derived.Deep.Fields
import Derived.ChangeSame
import Derived.ProofKit
import Derived.OpenShut
import Derived.ShutString
import Derived.ChangeOld
import Derived.Lib.SmallJoins
import Derived.HandedShaped
import Derived.Lay
import Derived.LaidOnce
import Derived.PinnedBridge
namespace Go.Proofs.YtkhckgknldiheaaDoor
set_option linter.unusedSimpArgs false
set_option linter.unusedVariables false
open Go.ChangeShapes Go.WideShapes Go.ChangeAt Go.RowKit Go.Joins Go.Shelf Go.Deep
set_option maxRecDepth 100000
open NmP

/-- A slice of structs whose fields are one cell each: every element, field by field. -/
theorem slice_fields {H : Type} {enc : TypeId × Value → H} {P : Program} {w : World} {base : Nat} {spare : Nat → Bool} {held : Bool} {t e : TypeId} {fs : Array Field} {fuel : Nat} {cs : List Value} {x : DataW H × List MemPlace} (ht : P.underlying t = some (.slice e)) (he : P.underlying e = some (.struct fs))
    (hone : oneCellFields P fs = true) (hC : P.cellsOf e = fs.size) (h : DataW.trod enc P w base spare held fuel t cs = some x) :
    cs = [.slice none 0 0] ∨
    ∃ (a : Addr) (len cap : Nat), cs = [.slice (some a) len cap] ∧ len ≤ maxLen ∧
      ∀ i, i < len → ∀ (j : Nat) (f : Field), fs[j]? = some f → ∃ (v : Value) (n : Nat) (y : DataW H × List MemPlace), w.cell? (a.add (i * fs.size + j)) = some v ∧ DataW.trod enc P w base spare held n f.type [v] = some y := by
  rcases Go.Deep.open_slice ht h with h0 | ⟨a, len, cap, m, n, D, Pl, hcs, hb, hl, hm, hmm, hx, hi⟩
  · exact .inl h0.1
  · refine .inr ⟨a, len, cap, hcs, by omega, fun i hil j f hj => ?_⟩
    have him : i < m := by rw [hmm]; split <;> omega
    obtain ⟨cs', hc, ht'⟩ := hi i him
    rw [hC] at hc
    obtain ⟨ys, n', hn', hy, hlen, hyl, hf⟩ := DataW.trod_struct he ht'
    obtain ⟨_, hcl, hat⟩ := World.cells?_some hc
    obtain ⟨ho, hk⟩ := hone_of hone j f hj
    have hjl : j < fs.size := (Array.getElem?_eq_some_iff.1 hj).1
    have hcell := hat j hjl
    have hv : cs'[j]? = some (cs'[j]'(by omega)) := List.getElem?_eq_getElem (by omega)
    have h1 := hf j f hj
    rw [ho, hk] at h1
    have hone' : (cs'.drop j).take 1 = [cs'[j]'(by omega)] := by
      rw [List.drop_eq_getElem_cons (by omega)]
      rfl
    rw [hone'] at h1
    have hys : ys[j]? = some (ys[j]'(by omega)) := List.getElem?_eq_getElem (by omega)
    refine ⟨_, _, _, ?_, h1.trans hys⟩
    rw [← Go.Deep.add_add, hcell, hv]

def strOf : Value → ByteArray
  | .string s => s
  | _ => ⟨#[]⟩
/-- A slice of data that was read. -/
theorem open_data {H : Type} {enc : TypeId × Value → H} {W : World} {base : Nat} {spare : Nat → Bool} {held : Bool} {fuel : Nat} {v : Value} {x : DataW H × List MemPlace} (h : DataW.trod enc Tryd.prog W base spare held fuel 23 [v] = some x) :
    ∃ l : List Dt, SlD v l W ∧ l.length ≤ maxLen ∧ ∀ d ∈ l, d.1.size ≤ maxLen := by
  rcases slice_fields Tryd.underlying23 Tryd.underlying65 (by kernel_rfl) (by kernel_rfl) h with hcs | ⟨a, len, cap, hcs, hlm, hi⟩
  · simp only [List.cons.injEq, and_true] at hcs
    subst hcs
    exact ⟨[], .inl ⟨rfl, none, 0, rfl⟩, Nat.zero_le _, fun d hd => absurd hd List.not_mem_nil⟩
  · simp only [List.cons.injEq, and_true] at hcs
    subst hcs
    have hv : ∀ i, i < len → ∃ (s : ByteArray) (n m : Int), s.size ≤ maxLen ∧ W.cell? (a.add (i * 3)) = some (.string s) ∧ W.cell? (a.add (i * 3 + 1)) = some (.int .i64 n) ∧ W.cell? (a.add (i * 3 + 2)) = some (.int .i64 m) := fun i hil => by
      obtain ⟨v0, n0, y0, c0, t0⟩ := hi i hil 0 _ rfl
      obtain ⟨v1, n1, y1, c1, t1⟩ := hi i hil 1 _ rfl
      obtain ⟨v2, n2, y2, c2, t2⟩ := hi i hil 2 _ rfl
      obtain ⟨s, e0, _, hs⟩ := DataW.trod_string Tryd.underlying9 t0
      obtain ⟨z1, e1, _⟩ := DataW.trod_int Tryd.underlying3 t1
      obtain ⟨z2, e2, _⟩ := DataW.trod_int Tryd.underlying3 t2
      simp only [List.cons.injEq, and_true] at e0 e1 e2
      subst e0 e1 e2
      exact ⟨s, z1, z2, hs, c0, c1, c2⟩
    refine ⟨(List.range len).map fun i => (strOf ((W.cell? (a.add (i * 3))).getD undef), intOf ((W.cell? (a.add (i * 3 + 1))).getD undef), intOf ((W.cell? (a.add (i * 3 + 2))).getD undef)), ?_, by simpa using hlm, ?_⟩
    · by_cases h0 : len = 0
      · subst h0
        exact .inl ⟨rfl, _, _, rfl⟩
      · obtain ⟨b, off, spot⟩ := a
        obtain ⟨s0, _, _, _, q0, _⟩ := hv 0 (by omega)
        have hspot : spot = none := by simpa [Addr.add] using World.cell?_spot q0
        subst hspot
        have hb : b < W.heap.size := by
          have := World.block_lt_of_cell? W _ q0
          simpa [Addr.add] using this
        refine .inr ⟨b, off, cap, by simp, hb, fun j u hj => ?_⟩
        have hjl : j < len * 3 := by
          have := (List.getElem?_eq_some_iff.1 hj).1
          rw [rowD_len, List.length_map, List.length_range] at this
          omega
        obtain ⟨s, n, m, _, c0, c1, c2⟩ := hv (j / 3) (by omega)
        have hg : ((List.range len).map fun i => ((strOf ((W.cell? ((⟨b, off, none⟩ : Addr).add (i * 3))).getD undef), intOf ((W.cell? ((⟨b, off, none⟩ : Addr).add (i * 3 + 1))).getD undef), intOf ((W.cell? ((⟨b, off, none⟩ : Addr).add (i * 3 + 2))).getD undef)) : Dt))[j / 3]? = some (s, n, m) := by
          rw [List.getElem?_map, List.getElem?_range (by omega)]
          simp [c0, c1, c2, strOf, intOf]
        have hr := rowD_get _ (j / 3) (j % 3) _ hg (by omega)
        rw [show j / 3 * 3 + j % 3 = j by omega, hj] at hr
        rw [Go.WideShapes.add_plain] at c0 c1 c2
        have hm : j % 3 = 0 ∨ j % 3 = 1 ∨ j % 3 = 2 := by omega
        rcases hm with hm | hm | hm
        · rw [hm] at hr
          rw [show off + j = off + j / 3 * 3 by omega, c0]
          exact hr.symm
        · rw [hm] at hr
          rw [show off + j = off + (j / 3 * 3 + 1) by omega, c1]
          exact hr.symm
        · rw [hm] at hr
          rw [show off + j = off + (j / 3 * 3 + 2) by omega, c2]
          exact hr.symm
    · intro d hd
      obtain ⟨i, hi2, rfl⟩ := List.mem_map.1 hd
      obtain ⟨s, n, m, hs, c0, _⟩ := hv i (List.mem_range.1 hi2)
      simpa [c0, strOf] using hs
/-- A set that was read. -/
theorem open_set {H : Type} {enc : TypeId × Value → H} {W : World} {base b0 : Nat} {r : Reach} {spare : Nat → Bool} {held : Bool} {v : Value} {d : DataW H} {p : List MemPlace} (hv : Value.okWide Tryd.prog W r b0 25 v) (h : DataW.Trod enc Tryd.prog W base spare held 25 v d p) :
    ∃ s : St, v = .agg #[.string s.x, .int .i64 s.typ, .int .i64 s.life, s.v] ∧ s.In W ∧ s.l.length ≤ maxLen := by
  obtain ⟨v0, v1, v2, v3, y0, y1, y2, y3, n, rfl, _, _, h0, h1, h2, h3⟩ := open_agg4 Tryd.underlying25 (by kernel_rfl) (by kernel_rfl) hv h
  obtain ⟨s, e0, _, hs⟩ := DataW.trod_string Tryd.underlying9 h0
  obtain ⟨z1, e1, _⟩ := DataW.trod_int Tryd.underlying3 h1
  obtain ⟨z2, e2, _⟩ := DataW.trod_int Tryd.underlying3 h2
  simp only [List.cons.injEq, and_true] at e0 e1 e2
  subst e0 e1 e2
  obtain ⟨l, hl, hn, hd⟩ := open_data h3
  exact ⟨⟨s, z1, z2, v3, l⟩, rfl, ⟨hs, hd, hl⟩, hn⟩
/-- A key that was read. -/
theorem open_key {H : Type} {enc : TypeId × Value → H} {W : World} {base b0 : Nat} {r : Reach} {spare : Nat → Bool} {held : Bool} {v : Value} {d : DataW H} {p : List MemPlace} (hv : Value.okWide Tryd.prog W r b0 44 v) (h : DataW.Trod enc Tryd.prog W base spare held 44 v d p) :
    ∃ n a : Int, v = .agg #[.int .i64 n, .int .i64 a] := by
  obtain ⟨v0, v1, y0, y1, m, rfl, _, _, h0, h1⟩ := open_agg2 Tryd.underlying44 (by kernel_rfl) (by kernel_rfl) hv h
  obtain ⟨z1, e1, _⟩ := DataW.trod_int Tryd.underlying3 h0
  obtain ⟨z2, e2, _⟩ := DataW.trod_int Tryd.underlying3 h1
  simp only [List.cons.injEq, and_true] at e1 e2
  subst e1 e2
  exact ⟨z1, z2, rfl⟩
/-- A struct of one-cell fields that was read by value: its cells, and each field's reading. -/
theorem struct_fields {H : Type} {enc : TypeId × Value → H} {P : Program} {w : World} {base b0 : Nat} {r : Reach} {spare : Nat → Bool} {held : Bool} {t : TypeId} {fs : Array Field} {v : Value} {d : DataW H} {p : List MemPlace} (he : P.underlying t = some (.struct fs))
    (hone : oneCellFields P fs = true) (hC : P.cellsOf t = fs.size) (hv : Value.okWide P w r b0 t v) (h : DataW.Trod enc P w base spare held t v d p) :
    ∃ cs : List Value, v = .agg ⟨cs⟩ ∧ cs.length = fs.size ∧ ∀ (j : Nat) (f : Field), fs[j]? = some f → ∃ (u : Value) (n : Nat) (y : DataW H × List MemPlace), cs[j]? = some u ∧ DataW.trod enc P w base spare held n f.type [u] = some y := by
  obtain ⟨cs, rfl, hsz⟩ := okWide_struct he hv
  obtain ⟨cs'⟩ := cs
  have hl : cs'.length = fs.size := hsz.trans hC
  refine ⟨cs', rfl, hl, fun j f hj => ?_⟩
  obtain ⟨fuel, hf0⟩ := h
  obtain ⟨ys, n', hn', hy, hlen, hyl, hf⟩ := DataW.trod_struct he hf0
  obtain ⟨ho, hk⟩ := hone_of hone j f hj
  have hjl : j < fs.size := (Array.getElem?_eq_some_iff.1 hj).1
  have hvj : cs'[j]? = some (cs'[j]'(by omega)) := List.getElem?_eq_getElem (by omega)
  have h1 := hf j f hj
  rw [ho, hk] at h1
  have hone' : (cs'.drop j).take 1 = [cs'[j]'(by omega)] := by
    rw [List.drop_eq_getElem_cons (by omega)]
    rfl
  simp only [Value.cells] at h1
  rw [hone'] at h1
  have hys : ys[j]? = some (ys[j]'(by omega)) := List.getElem?_eq_getElem (by omega)
  exact ⟨_, _, _, hvj, h1.trans hys⟩
/-- A signature that was read. -/
theorem open_sig {H : Type} {enc : TypeId × Value → H} {W : World} {base b0 : Nat} {r : Reach} {spare : Nat → Bool} {held : Bool} {v : Value} {d : DataW H} {p : List MemPlace} (hv : Value.okWide Tryd.prog W r b0 49 v) (h : DataW.Trod enc Tryd.prog W base spare held 49 v d p) :
    ∃ (z : ByteArray) (k a f u m : Int), v = .agg #[.string z, .int .i64 k, .int .i64 a, .int .i64 f, .int .i64 u, .int .u64 m] ∧ z.size ≤ maxLen ∧ 0 ≤ m ∧ m < 18446744073709551616 := by
  obtain ⟨cs, rfl, hl, hf⟩ := struct_fields Tryd.underlying49 (by kernel_rfl) (by kernel_rfl) hv h
  match cs, hl with
  | [c0, c1, c2, c3, c4, c5], _ =>
    obtain ⟨v0, n0, y0, e0, t0⟩ := hf 0 _ rfl
    obtain ⟨v1, n1, y1, e1, t1⟩ := hf 1 _ rfl
    obtain ⟨v2, n2, y2, e2, t2⟩ := hf 2 _ rfl
    obtain ⟨v3, n3, y3, e3, t3⟩ := hf 3 _ rfl
    obtain ⟨v4, n4, y4, e4, t4⟩ := hf 4 _ rfl
    obtain ⟨v5, n5, y5, e5, t5⟩ := hf 5 _ rfl
    simp only [List.getElem?_cons_zero, List.getElem?_cons_succ, Option.some.injEq] at e0 e1 e2 e3 e4 e5
    subst e0 e1 e2 e3 e4 e5
    obtain ⟨s, q0, _, hs⟩ := DataW.trod_string Tryd.underlying9 t0
    obtain ⟨z1, q1, _⟩ := DataW.trod_int Tryd.underlying3 t1
    obtain ⟨z2, q2, _⟩ := DataW.trod_int Tryd.underlying3 t2
    obtain ⟨z3, q3, _⟩ := DataW.trod_int Tryd.underlying3 t3
    obtain ⟨z4, q4, _⟩ := DataW.trod_int Tryd.underlying3 t4
    obtain ⟨z5, q5, _, w5⟩ := DataW.trod_int Tryd.underlying47 t5
    simp only [List.cons.injEq, and_true] at q0 q1 q2 q3 q4 q5
    subst q0 q1 q2 q3 q4 q5
    have b5 : 0 ≤ z5 ∧ z5 ≤ 18446744073709551615 := by simpa [Lit.wf, IntKind.min, IntKind.max, IntKind.signed, IntKind.bits] using w5
    exact ⟨s, z1, z2, z3, z4, z5, rfl, hs, b5.1, by omega⟩
/-- The cells of one rule. -/
theorem rule_cells {W : World} {cs : Array Value} (hcell : ∀ k, W.cell? ⟨0, k, none⟩ = cs[k]?) (t : Nat) {fuel : Nat} {q : List MemPlace} (a b c e f : Int) (g h : Bool)
    (he : DataW.trod (fun _ => ()) Tryd.prog W 0 (fun _ => true) false fuel 101 ((cs.toList.drop (t * 7)).take 7) = some (.agg [.lit (.int .i64 a), .lit (.int .i64 b), .lit (.int .i64 c), .lit (.int .i64 e), .lit (.int .i64 f), .lit (.bool g), .lit (.bool h)], q)) :
    W.cell? ⟨0, t * 7, none⟩ = some (.int .i64 a) ∧ W.cell? ⟨0, t * 7 + 1, none⟩ = some (.int .i64 b) ∧ W.cell? ⟨0, t * 7 + 2, none⟩ = some (.int .i64 c) ∧ W.cell? ⟨0, t * 7 + 3, none⟩ = some (.int .i64 e) ∧ W.cell? ⟨0, t * 7 + 4, none⟩ = some (.int .i64 f) ∧ W.cell? ⟨0, t * 7 + 5, none⟩ = some (.bool g) ∧ W.cell? ⟨0, t * 7 + 6, none⟩ = some (.bool h) := by
  obtain ⟨xs, m, rfl, hx, hl, hxl, hall⟩ := DataW.trod_struct Tryd.underlying101 he
  have hm := congrArg Prod.fst hx
  simp only [DataW.agg.injEq] at hm
  have fi : ∀ (i : Nat) (z : Int), i < 7 → (∀ x, DataW.trod (fun _ => ()) Tryd.prog W 0 (fun _ => true) false m 3 ((((cs.toList.drop (t * 7)).take 7).drop i).take 1) = some x → x.1 = .lit (.int .i64 z) → W.cell? ⟨0, t * 7 + i, none⟩ = some (.int .i64 z)) := fun i z hi x hx hx1 => by
    obtain ⟨z', h1, rfl, _⟩ := DataW.trod_int Tryd.underlying3 hx
    simp at hx1
    subst hx1
    have h2 := congrArg (·[0]?) h1
    simp only [List.getElem?_take, List.getElem?_drop] at h2
    rw [hcell, ← Array.getElem?_toList]
    simpa [hi, Nat.add_comm, Nat.add_left_comm, Nat.add_assoc] using h2
  have fb : ∀ (i : Nat) (z : Bool), i < 7 → (∀ x, DataW.trod (fun _ => ()) Tryd.prog W 0 (fun _ => true) false m 4 ((((cs.toList.drop (t * 7)).take 7).drop i).take 1) = some x → x.1 = .lit (.bool z) → W.cell? ⟨0, t * 7 + i, none⟩ = some (.bool z)) := fun i z hi x hx hx1 => by
    obtain ⟨z', h1, rfl⟩ := DataW.trod_bool Tryd.underlying4 hx
    simp at hx1
    subst hx1
    have h2 := congrArg (·[0]?) h1
    simp only [List.getElem?_take, List.getElem?_drop] at h2
    rw [hcell, ← Array.getElem?_toList]
    simpa [hi, Nat.add_comm, Nat.add_left_comm, Nat.add_assoc] using h2
  have c3 : Tryd.prog.cellsOf 3 = 1 := by kernel_rfl
  have c4 : Tryd.prog.cellsOf 4 = 1 := by kernel_rfl
  have at_ : ∀ i (v : DataW Unit), (xs.map (·.1))[i]? = some v → ∃ x : DataW Unit × List MemPlace, xs[i]? = some x ∧ x.1 = v := fun i v hv => by
    rw [List.getElem?_map, Option.map_eq_some_iff] at hv
    exact hv
  have k0 : (xs.map (·.1))[0]? = some (.lit (.int .i64 a)) := by rw [← hm]; rfl
  obtain ⟨x0, e0, v0⟩ := at_ 0 _ k0
  have t0 : DataW.trod (fun _ => ()) Tryd.prog W 0 (fun _ => true) false m 3 ((((cs.toList.drop (t * 7)).take 7).drop 0).take (Tryd.prog.cellsOf 3)) = xs[0]? := hall 0 _ rfl
  rw [e0] at t0
  rw [c3] at t0
  have k1 : (xs.map (·.1))[1]? = some (.lit (.int .i64 b)) := by rw [← hm]; rfl
  obtain ⟨x1, e1, v1⟩ := at_ 1 _ k1
  have t1 : DataW.trod (fun _ => ()) Tryd.prog W 0 (fun _ => true) false m 3 ((((cs.toList.drop (t * 7)).take 7).drop 1).take (Tryd.prog.cellsOf 3)) = xs[1]? := hall 1 _ rfl
  rw [e1] at t1
  rw [c3] at t1
  have k2 : (xs.map (·.1))[2]? = some (.lit (.int .i64 c)) := by rw [← hm]; rfl
  obtain ⟨x2, e2, v2⟩ := at_ 2 _ k2
  have t2 : DataW.trod (fun _ => ()) Tryd.prog W 0 (fun _ => true) false m 3 ((((cs.toList.drop (t * 7)).take 7).drop 2).take (Tryd.prog.cellsOf 3)) = xs[2]? := hall 2 _ rfl
  rw [e2] at t2
  rw [c3] at t2
  have k3 : (xs.map (·.1))[3]? = some (.lit (.int .i64 e)) := by rw [← hm]; rfl
  obtain ⟨x3, e3, v3⟩ := at_ 3 _ k3
  have t3 : DataW.trod (fun _ => ()) Tryd.prog W 0 (fun _ => true) false m 3 ((((cs.toList.drop (t * 7)).take 7).drop 3).take (Tryd.prog.cellsOf 3)) = xs[3]? := hall 3 _ rfl
  rw [e3] at t3
  rw [c3] at t3
  have k4 : (xs.map (·.1))[4]? = some (.lit (.int .i64 f)) := by rw [← hm]; rfl
  obtain ⟨x4, e4, v4⟩ := at_ 4 _ k4
  have t4 : DataW.trod (fun _ => ()) Tryd.prog W 0 (fun _ => true) false m 3 ((((cs.toList.drop (t * 7)).take 7).drop 4).take (Tryd.prog.cellsOf 3)) = xs[4]? := hall 4 _ rfl
  rw [e4] at t4
  rw [c3] at t4
  have k5 : (xs.map (·.1))[5]? = some (.lit (.bool g)) := by rw [← hm]; rfl
  obtain ⟨x5, e5, v5⟩ := at_ 5 _ k5
  have t5 : DataW.trod (fun _ => ()) Tryd.prog W 0 (fun _ => true) false m 4 ((((cs.toList.drop (t * 7)).take 7).drop 5).take (Tryd.prog.cellsOf 4)) = xs[5]? := hall 5 _ rfl
  rw [e5] at t5
  rw [c4] at t5
  have k6 : (xs.map (·.1))[6]? = some (.lit (.bool h)) := by rw [← hm]; rfl
  obtain ⟨x6, e6, v6⟩ := at_ 6 _ k6
  have t6 : DataW.trod (fun _ => ()) Tryd.prog W 0 (fun _ => true) false m 4 ((((cs.toList.drop (t * 7)).take 7).drop 6).take (Tryd.prog.cellsOf 4)) = xs[6]? := hall 6 _ rfl
  rw [e6] at t6
  rw [c4] at t6
  exact ⟨fi 0 _ (by decide) x0 t0 v0, fi 1 _ (by decide) x1 t1 v1, fi 2 _ (by decide) x2 t2 v2, fi 3 _ (by decide) x3 t3 v3, fi 4 _ (by decide) x4 t4 v4, fb 5 _ (by decide) x5 t5 v5, fb 6 _ (by decide) x6 t6 v6⟩
/-- The rules, out of the row's condition. -/
theorem rules_of_laid {W : World} (h : laidMetH Tryd.prog [("nameplan/record.rules", Rows.laid_nameplan_record_rules)] W) : RulesAt W := by
  rw [MakeChecks.laidMetH_plain _ _ _ (by kernel_rfl)] at h
  obtain ⟨g, t, cs, fuel, p, hg, hty, hvar, hd⟩ := Lib.laidMet.reads h (.head _)
  obtain rfl : 0 = g := Option.some.inj ((show Tryd.prog.globalNamed "nameplan/record.rules" = some 0 by kernel_rfl).symm.trans hg)
  obtain rfl : 102 = t := Option.some.inj ((show (Tryd.prog.globals[0]?).map (·.type) = some 102 by kernel_rfl).symm.trans hty)
  unfold Rows.laid_nameplan_record_rules at hd
  have hcell : ∀ k, W.cell? ⟨0, k, none⟩ = cs[k]? := fun k => World.var?_cell hg hvar k
  intro t h1 h2
  have ht : t = 1 ∨ t = 2 ∨ t = 3 ∨ t = 4 ∨ t = 5 ∨ t = 6 ∨ t = 7 ∨ t = 8 := by omega
  rcases ht with rfl | rfl | rfl | rfl | rfl | rfl | rfl | rfl
  · obtain ⟨fuel', d, q, hdi, he⟩ := Lib.array_elem Tryd.underlying102 hd 1 (by decide)
    rw [show Tryd.prog.cellsOf 101 = 7 by kernel_rfl] at he
    simp only [List.getElem?_cons_succ, List.getElem?_cons_zero, Option.some.injEq] at hdi
    subst hdi
    exact rule_cells hcell 1 _ _ _ _ _ _ _ he
  · obtain ⟨fuel', d, q, hdi, he⟩ := Lib.array_elem Tryd.underlying102 hd 2 (by decide)
    rw [show Tryd.prog.cellsOf 101 = 7 by kernel_rfl] at he
    simp only [List.getElem?_cons_succ, List.getElem?_cons_zero, Option.some.injEq] at hdi
    subst hdi
    exact rule_cells hcell 2 _ _ _ _ _ _ _ he
  · obtain ⟨fuel', d, q, hdi, he⟩ := Lib.array_elem Tryd.underlying102 hd 3 (by decide)
    rw [show Tryd.prog.cellsOf 101 = 7 by kernel_rfl] at he
    simp only [List.getElem?_cons_succ, List.getElem?_cons_zero, Option.some.injEq] at hdi
    subst hdi
    exact rule_cells hcell 3 _ _ _ _ _ _ _ he
  · obtain ⟨fuel', d, q, hdi, he⟩ := Lib.array_elem Tryd.underlying102 hd 4 (by decide)
    rw [show Tryd.prog.cellsOf 101 = 7 by kernel_rfl] at he
    simp only [List.getElem?_cons_succ, List.getElem?_cons_zero, Option.some.injEq] at hdi
    subst hdi
    exact rule_cells hcell 4 _ _ _ _ _ _ _ he
  · obtain ⟨fuel', d, q, hdi, he⟩ := Lib.array_elem Tryd.underlying102 hd 5 (by decide)
    rw [show Tryd.prog.cellsOf 101 = 7 by kernel_rfl] at he
    simp only [List.getElem?_cons_succ, List.getElem?_cons_zero, Option.some.injEq] at hdi
    subst hdi
    exact rule_cells hcell 5 _ _ _ _ _ _ _ he
  · obtain ⟨fuel', d, q, hdi, he⟩ := Lib.array_elem Tryd.underlying102 hd 6 (by decide)
    rw [show Tryd.prog.cellsOf 101 = 7 by kernel_rfl] at he
    simp only [List.getElem?_cons_succ, List.getElem?_cons_zero, Option.some.injEq] at hdi
    subst hdi
    exact rule_cells hcell 6 _ _ _ _ _ _ _ he
  · obtain ⟨fuel', d, q, hdi, he⟩ := Lib.array_elem Tryd.underlying102 hd 7 (by decide)
    rw [show Tryd.prog.cellsOf 101 = 7 by kernel_rfl] at he
    simp only [List.getElem?_cons_succ, List.getElem?_cons_zero, Option.some.injEq] at hdi
    subst hdi
    exact rule_cells hcell 7 _ _ _ _ _ _ _ he
  · obtain ⟨fuel', d, q, hdi, he⟩ := Lib.array_elem Tryd.underlying102 hd 8 (by decide)
    rw [show Tryd.prog.cellsOf 101 = 7 by kernel_rfl] at he
    simp only [List.getElem?_cons_succ, List.getElem?_cons_zero, Option.some.injEq] at hdi
    subst hdi
    exact rule_cells hcell 8 _ _ _ _ _ _ _ he
end Go.Proofs.YtkhckgknldiheaaDoor
