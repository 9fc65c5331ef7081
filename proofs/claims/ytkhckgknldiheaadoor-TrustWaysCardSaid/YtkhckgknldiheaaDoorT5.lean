/- Signed sets; the contracts of Keys and Matches of package trust; no condition beyond those that each theorem names. -/
import Derived.Test.YtkhckgknldiheaaDoorT4
namespace Go.Proofs.YtkhckgknldiheaaDoor
set_option linter.unusedSimpArgs false
set_option linter.unusedVariables false
open Go.RowKit
open NmP SpP

/-- A signed set: its cells, its data, its signatures. -/
structure Sd where
  x : ByteArray
  t : Int
  f : Int
  p : Option Addr
  n : Nat
  c : Nat
  q : Option Addr
  m : Nat
  d : Nat
  l : List Dt
  g : List Sg
def Sd.st (s : Sd) : St := ⟨s.x, s.t, s.f, .slice s.p s.n s.c, s.l⟩
def Sd.sv (s : Sd) : Value := .slice s.q s.m s.d
/-- A signed set that lies in a world. -/
structure Sd.In (s : Sd) (w : World) : Prop where
  hs : s.st.In w
  hn : s.l.length ≤ maxLen
  hg : SlG s.sv s.g w
  hz : ∀ g ∈ s.g, g.z.size ≤ maxLen
  hl : s.g.length ≤ maxLen
theorem Sd.In.keep {s : Sd} {w w' : World} (h : s.In w) (hb : Below w.heap.size w w') : s.In w' := ⟨h.hs.keep hb, h.hn, h.hg.keep hb, h.hz, h.hl⟩
theorem Sd.In.len {s : Sd} {w : World} (h : s.In w) : s.n = s.l.length ∧ s.m = s.g.length := by
  obtain ⟨p, c, h1⟩ := h.hs.hA.form
  obtain ⟨q, d, h2⟩ := h.hg.form
  simp only [Sd.st, Sd.sv, Value.slice.injEq] at h1 h2
  exact ⟨h1.2.1, h2.2.1⟩
theorem ok_len {s : St} (h : s.ok = true) : 1 ≤ s.l.length ∧ s.l.length ≤ 8 := by
  have := setB_facts h
  exact ⟨this.2.2.2.2.2.1, this.2.2.2.2.2.2.1⟩
theorem valid_st (s : St) (w : World) (hs : s.In w) (hr : RulesAt w) : Calls Tryd.prog 30 #[.agg #[.string s.x, .int .i64 s.typ, .int .i64 s.life, s.v]] w fun e w' => e = .returned (.bool s.ok) ∧ Below w.heap.size w w' :=
  valid_set s.x s.typ s.life s.v s.l w hs.hx hs.hs hs.hA hr
/-- What Keys returns. -/
def KeyTo (s : St) (w : World) (e : Ending) (w' : World) : Prop :=
  (if s.ok = true then if s.typ = 7 then ∃ v, e = .returned (.tuple #[v, .int .i64 0]) ∧ OwnK w.heap.size v (keysL s.l) w' else e = .returned (.tuple #[.slice none 0 0, .int .i64 12]) else e = .returned (.tuple #[.slice none 0 0, .int .i64 1])) ∧ Below w.heap.size w w'

set_option maxHeartbeats 2000000 in
set_option maxRecDepth 100000 in
theorem keys_any (s : St) (w : World) (hs : s.In w) (hr : RulesAt w) :
    Calls Tryd.prog 14 #[.agg #[.string s.x, .int .i64 s.typ, .int .i64 s.life, s.v]] w (KeyTo s w) := by
  obtain ⟨p, c, hv⟩ := hs.hA.form
  have hb0 := (Below.refl _ w).alloc (Nat.le_refl _) (.cells #[.string s.x, .int .i64 s.typ, .int .i64 s.life, s.v] 25)
  have hx0 : (w.alloc (.cells #[.string s.x, .int .i64 s.typ, .int .i64 s.life, s.v] 25)).heap[w.heap.size]? = some (Obj.cells #[.string s.x, .int .i64 s.typ, .int .i64 s.life, s.v] 25 (0, 0)) := heap_alloc_new w _
  have CV := Lib.hid (valid_st s _ (hs.keep hb0) (hr.keep hb0))
  have CK := Lib.hid (fun W (hb : Below w.heap.size w W) (h8 : s.l.length ≤ 8) => keysOf_any s W (hs.keep hb) (by omega))
  have HB0 := Lib.hid hb0
  have HX0 := Lib.hid hx0
  have H8 := Lib.hid (fun h => (ok_len (s := s) h).2)
  unfold KeyTo
  obtain ⟨x, t, f, v, l⟩ := s
  simp only at hv hb0 hx0 CV CK HB0 HX0 ⊢
  subst hv
  generalize hok : St.ok _ = ok at *
  clear hok hb0 hx0 hs hr
  unfold KeysTo at CK
  cases ok
  · simp only [Bool.false_eq_true, ↓reduceIte]
    go_enter Tryd.func14, Tryd.ntmps14
    go_wp2_with (go_at_call 30; (with_reducible refine (CV.out).mono ?_); rintro e w1 ⟨rfl, hb⟩; have HB1 := Lib.hid (HB0.out.trans (hb.mono HB0.out.size)); clear hb)
    go_ret2
    exact ⟨rfl, HB1.out⟩
  · simp only [↓reduceIte]
    have h8 := H8.out rfl
    by_cases ht : t = 7
    · subst ht
      simp only [↓reduceIte]
      go_enter Tryd.func14, Tryd.ntmps14
      go_wp2_with (first | (go_at_call 30; (with_reducible refine (CV.out).mono ?_); rintro e w1 ⟨rfl, hb⟩; have HB1 := Lib.hid (HB0.out.trans (hb.mono HB0.out.size)); have HX1 := Lib.hid ((hb.block w.heap.size (by simp)).trans HX0.out); clear hb; have x0 := cell_of_blk HX1.out 0 (.string x) rfl; have x1 := cell_of_blk HX1.out 1 (.int .i64 7) rfl; have x2 := cell_of_blk HX1.out 2 (.int .i64 f) rfl; have x3 := cell_of_blk HX1.out 3 (.slice p l.length c) rfl) | (go_at_call 40; (with_reducible refine (CK.out _ HB1.out h8).mono ?_); rintro e w2 ⟨v2, rfl, ho, hb⟩; have HO2 := Lib.hid (ho.mono HB1.out.size); have HB2 := Lib.hid (HB1.out.trans (hb.mono HB1.out.size)); clear hb ho))
      go_ret2
      exact ⟨⟨_, rfl, HO2.out⟩, HB2.out⟩
    · simp only [if_neg ht]
      have ht2 : (t == 7) = false := by simpa using ht
      have ht3 : (t != 7) = true := by simpa using ht
      go_enter Tryd.func14, Tryd.ntmps14
      go_wp2_with (go_at_call 30; (with_reducible refine (CV.out).mono ?_); rintro e w1 ⟨rfl, hb⟩; have HB1 := Lib.hid (HB0.out.trans (hb.mono HB0.out.size)); have HX1 := Lib.hid ((hb.block w.heap.size (by simp)).trans HX0.out); clear hb; have x1 := cell_of_blk HX1.out 1 (.int .i64 t) rfl)
      go_ret2
      exact ⟨rfl, HB1.out⟩

end Go.Proofs.YtkhckgknldiheaaDoor
