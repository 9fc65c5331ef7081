/- The calls of the head of layer 10's laws, with their answers; no condition beyond those that each theorem names. -/
import Derived.Test.YtkhckgknldiheaaDoorTG
namespace Go.Proofs.YtkhckgknldiheaaDoor
set_option linter.unusedSimpArgs false
set_option linter.unusedVariables false
open Go.RowKit
open NmP SpP

theorem SlK.take {b n c : Nat} {l : List Sd} {W : World} (h : SlK (.slice (some ⟨b, 0, none⟩) n c) l W) (i : Nat) (hi : i ≤ l.length) : SlK (.slice (some ⟨b, 0, none⟩) i c) (l.take i) W := by
  refine ⟨?_, fun s hs => h.2 s (List.mem_of_mem_take hs)⟩
  have hl : (l.take i).length = i := by simp [hi]
  rcases h.1 with ⟨h1, p, c', h2⟩ | ⟨b', off, c', h1, h2, h3⟩
  · subst h1
    obtain rfl : i = 0 := by simpa using hi
    exact .inl ⟨rfl, _, _, rfl⟩
  · cases h1
    refine .inr ⟨b, 0, c, by rw [hl], h2, fun m u hm => h3 m u ?_⟩
    have hr : rowK l = rowK (l.take i) ++ rowK (l.drop i) := by rw [← rowK_append, List.take_append_drop]
    rw [hr, List.getElem?_append_left]
    · exact hm
    · exact (List.getElem?_eq_some_iff.1 hm).1
/-- What the head keeps. -/
structure HX (w : World) (q b g : Nat) (s1 s2 s3 : Sd) (W : World) : Prop where
  bel : Below w.heap.size w W
  hq : w.heap.size ≤ q
  st : W.heap[q]? = some (Obj.cells #[.string ⟨#[46]⟩, .int .i64 6, .int .i64 0, .slice (some ⟨g, 0, none⟩) 1 1] 25 (0, 0))
  k : SlK (.slice (some ⟨b, 0, none⟩) 3 3) [s1, s2, s3] W
  d : SlD (.slice (some ⟨g, 0, none⟩) 1 1) [dE 1] W
  s : ExS s1 s2 s3
theorem HX.keep {w W W' : World} {q b g : Nat} {s1 s2 s3 : Sd} (h : HX w q b g s1 s2 s3 W) (hb : Below W.heap.size W W') : HX w q b g s1 s2 s3 W' :=
  ⟨h.bel.trans (hb.mono h.bel.size), h.hq, (hb.block q (Array.getElem?_eq_some_iff.1 h.st).1).trans h.st, h.k.keep hb, h.d.keep hb, h.s⟩
theorem HX.a {w W : World} {q b g : Nat} {s1 s2 s3 : Sd} (h : HX w q b g s1 s2 s3 W) : (rA (.slice (some ⟨g, 0, none⟩) 1 1)).In W :=
  ⟨show dotB.size ≤ maxLen by decide, fun d hd => by rw [List.mem_singleton.1 hd]; decide, h.d⟩
theorem HX.i1 {w W : World} {q b g : Nat} {s1 s2 s3 : Sd} (h : HX w q b g s1 s2 s3 W) : s1.In W := h.k.2 s1 (by simp)
theorem HX.i2 {w W : World} {q b g : Nat} {s1 s2 s3 : Sd} (h : HX w q b g s1 s2 s3 W) : s2.In W := h.k.2 s2 (by simp)

/-! Path -/
theorem cp0 {w W : World} {q b g : Nat} {s1 s2 s3 : Sd} (h : HX w q b g s1 s2 s3 W) (hr : RulesAt W) :
    Calls Tryd.prog 11 #[.slice (some ⟨b, 0, none⟩) 0 3, .agg #[.string ⟨#[46]⟩, .int .i64 6, .int .i64 0, .slice (some ⟨g, 0, none⟩) 1 1], .string ⟨#[120]⟩, .int .i64 50, .int .i64 5] W fun e w' => e = .returned (.tuple #[.slice none 0 0, .agg #[.string ⟨#[120]⟩, .int .i64 6], .int .i64 4]) ∧ Below W.heap.size W w' := by
  have c := path_any (.slice (some ⟨b, 0, none⟩) 0 3) [] (rA (.slice (some ⟨g, 0, none⟩) 1 1)) sX 50 5 W (h.k.take 0 (by simp)) (by simp) h.a (by decide) hr
  rw [path0] at c
  exact c
theorem cp1 {w W : World} {q b g : Nat} {s1 s2 s3 : Sd} (h : HX w q b g s1 s2 s3 W) (hr : RulesAt W) :
    Calls Tryd.prog 11 #[.slice (some ⟨b, 0, none⟩) 1 3, .agg #[.string ⟨#[46]⟩, .int .i64 6, .int .i64 0, .slice (some ⟨g, 0, none⟩) 1 1], .string ⟨#[120]⟩, .int .i64 50, .int .i64 5] W fun e w' => e = .returned (.tuple #[.slice none 0 0, .agg #[.string ⟨#[46]⟩, .int .i64 7], .int .i64 4]) ∧ Below W.heap.size W w' := by
  have c := path_any (.slice (some ⟨b, 0, none⟩) 1 3) [s1] (rA (.slice (some ⟨g, 0, none⟩) 1 1)) sX 50 5 W (h.k.take 1 (by simp)) (by simp [maxLen]) h.a (by decide) hr
  rw [path1 h.s.a] at c
  exact c
theorem cp2 {w W : World} {q b g : Nat} {s1 s2 s3 : Sd} (h : HX w q b g s1 s2 s3 W) (hr : RulesAt W) :
    Calls Tryd.prog 11 #[.slice (some ⟨b, 0, none⟩) 2 3, .agg #[.string ⟨#[46]⟩, .int .i64 6, .int .i64 0, .slice (some ⟨g, 0, none⟩) 1 1], .string ⟨#[120]⟩, .int .i64 50, .int .i64 5] W fun e w' => e = .returned (.tuple #[.slice none 0 0, .agg #[.string ⟨#[120]⟩, .int .i64 7], .int .i64 4]) ∧ Below W.heap.size W w' := by
  have c := path_any (.slice (some ⟨b, 0, none⟩) 2 3) [s1, s2] (rA (.slice (some ⟨g, 0, none⟩) 1 1)) sX 50 5 W (h.k.take 2 (by simp)) (by simp [maxLen]) h.a (by decide) hr
  rw [path2 h.s.a h.s.b] at c
  exact c
theorem cp3 {w W : World} {q b g : Nat} {s1 s2 s3 : Sd} (h : HX w q b g s1 s2 s3 W) (hr : RulesAt W) :
    Calls Tryd.prog 11 #[.slice (some ⟨b, 0, none⟩) 3 3, .agg #[.string ⟨#[46]⟩, .int .i64 6, .int .i64 0, .slice (some ⟨g, 0, none⟩) 1 1], .string ⟨#[120]⟩, .int .i64 50, .int .i64 5] W fun e w' => (∃ p c, e = .returned (.tuple #[.slice p 1 c, .agg #[.string ⟨#[]⟩, .int .i64 0], .int .i64 0]) ∧ SlS (.slice p 1 c) [(2, 1)] w' ∧ 1 ≤ 8) ∧ Below W.heap.size W w' := by
  have c := path_any (.slice (some ⟨b, 0, none⟩) 3 3) [s1, s2, s3] (rA (.slice (some ⟨g, 0, none⟩) 1 1)) sX 50 5 W h.k (by simp [maxLen]) h.a (by decide) hr
  rw [path3 h.s.a h.s.b h.s.c] at c
  exact c
theorem cp4 {w W : World} {q b g : Nat} {s1 s2 s3 : Sd} (h : HX w q b g s1 s2 s3 W) (hr : RulesAt W) :
    Calls Tryd.prog 11 #[.slice (some ⟨b, 0, none⟩) 3 3, .agg #[.string ⟨#[46]⟩, .int .i64 6, .int .i64 0, .slice (some ⟨g, 0, none⟩) 1 1], .string ⟨#[120]⟩, .int .i64 98, .int .i64 5] W fun e w' => e = .returned (.tuple #[.slice none 0 0, .agg #[.string ⟨#[]⟩, .int .i64 0], .int .i64 31]) ∧ Below W.heap.size W w' := by
  have c := path_any (.slice (some ⟨b, 0, none⟩) 3 3) [s1, s2, s3] (rA (.slice (some ⟨g, 0, none⟩) 1 1)) sX 98 5 W h.k (by simp [maxLen]) h.a (by decide) hr
  rw [path3late h.s.a h.s.b h.s.c] at c
  exact c
theorem cp5 {w W : World} {q b g : Nat} {s1 s2 s3 : Sd} (h : HX w q b g s1 s2 s3 W) (hr : RulesAt W) :
    Calls Tryd.prog 11 #[.slice (some ⟨b, 0, none⟩) 3 3, .agg #[.string ⟨#[46]⟩, .int .i64 6, .int .i64 0, .slice (some ⟨g, 0, none⟩) 1 1], .string ⟨#[42, 46, 120]⟩, .int .i64 50, .int .i64 5] W fun e w' => e = .returned (.tuple #[.slice none 0 0, .agg #[.string ⟨#[]⟩, .int .i64 0], .int .i64 1]) ∧ Below W.heap.size W w' := by
  have c := path_any (.slice (some ⟨b, 0, none⟩) 3 3) [s1, s2, s3] (rA (.slice (some ⟨g, 0, none⟩) 1 1)) ⟨#[42, 46, 120]⟩ 50 5 W h.k (by simp [maxLen]) h.a (by decide) hr
  rw [path_star] at c
  exact c

/-! Keys, Matches, Signed -/
theorem ck2 {w W : World} {q b g : Nat} {s1 s2 s3 : Sd} (h : HX w q b g s1 s2 s3 W) (hr : RulesAt W) :
    Calls Tryd.prog 14 #[.agg #[.string s2.x, .int .i64 s2.t, .int .i64 s2.f, .slice s2.p s2.n s2.c]] W fun e w' => (∃ v, e = .returned (.tuple #[v, .int .i64 0]) ∧ OwnK W.heap.size v [(1, 1)] w') ∧ Below W.heap.size W w' := by
  have c := keys_any s2.st W h.i2.hs hr
  have hl : keysL s2.st.l = [(1, 1)] := by show keysL s2.l = _; rw [h.s.b.l]; rfl
  refine Calls.mono c (fun e w' k => ?_)
  obtain ⟨k1, k2⟩ := k
  rw [if_pos h.s.b.ok, if_pos (show s2.st.typ = 7 from h.s.b.t), hl] at k1
  exact ⟨k1, k2⟩
theorem ck1 {w W : World} {q b g : Nat} {s1 s2 s3 : Sd} (h : HX w q b g s1 s2 s3 W) (hr : RulesAt W) :
    Calls Tryd.prog 14 #[.agg #[.string s1.x, .int .i64 s1.t, .int .i64 s1.f, .slice s1.p s1.n s1.c]] W fun e w' => e = .returned (.tuple #[.slice none 0 0, .int .i64 12]) ∧ Below W.heap.size W w' := by
  have c := keys_any s1.st W h.i1.hs hr
  refine Calls.mono c (fun e w' k => ?_)
  obtain ⟨k1, k2⟩ := k
  rw [if_pos h.s.a.ok, if_neg (show ¬ s1.st.typ = 7 by show ¬ s1.t = 7; rw [h.s.a.t]; decide)] at k1
  exact ⟨k1, k2⟩
theorem mE (v : Value) {s2 : Sd} (h2 : IsS s2 ⟨#[46]⟩ 7 ⟨#[46]⟩ 1 (dE 1)) (t : Int) (ht : timeB t 5 = true) : matchB (rA v) s2 t 5 = (decide (0 ≤ t - 5) && decide (t + 5 ≤ 100)) := by
  unfold matchB
  rw [rA_ok, h2.ok, h2.t, h2.x]
  show (true && true && decide ((6 : Int) = 6) && decide ((7 : Int) = 7) && decide (dotB = dotB) && signedB s2.st s2.g ⟨#[46]⟩ (commonL (keysL s2.l) (keysL [dE 1])) t 5) = _
  rw [h2.l, h2.signed _ t 5 (by decide), ht]
  simp
theorem cm1 {w W : World} {q b g : Nat} {s1 s2 s3 : Sd} (h : HX w q b g s1 s2 s3 W) (hr : RulesAt W) :
    Calls Tryd.prog 16 #[.agg #[.string ⟨#[46]⟩, .int .i64 6, .int .i64 0, .slice (some ⟨g, 0, none⟩) 1 1], .agg #[.string s2.x, .int .i64 s2.t, .int .i64 s2.f, .slice s2.p s2.n s2.c, .slice s2.q s2.m s2.d], .int .i64 95, .int .i64 5] W fun e w' => e = .returned (.bool true) ∧ Below W.heap.size W w' := by
  have c := match_any (rA (.slice (some ⟨g, 0, none⟩) 1 1)) s2 95 5 W h.a h.i2 hr
  rw [mE _ h.s.b 95 (by decide)] at c
  exact c
theorem cm2 {w W : World} {q b g : Nat} {s1 s2 s3 : Sd} (h : HX w q b g s1 s2 s3 W) (hr : RulesAt W) :
    Calls Tryd.prog 16 #[.agg #[.string ⟨#[46]⟩, .int .i64 6, .int .i64 0, .slice (some ⟨g, 0, none⟩) 1 1], .agg #[.string s2.x, .int .i64 s2.t, .int .i64 s2.f, .slice s2.p s2.n s2.c, .slice s2.q s2.m s2.d], .int .i64 96, .int .i64 5] W fun e w' => e = .returned (.bool false) ∧ Below W.heap.size W w' := by
  have c := match_any (rA (.slice (some ⟨g, 0, none⟩) 1 1)) s2 96 5 W h.a h.i2 hr
  rw [mE _ h.s.b 96 (by decide)] at c
  exact c
theorem cs1 {w W : World} {q b g : Nat} {s1 s2 s3 : Sd} {kv : Value} (h : HX w q b g s1 s2 s3 W) (hr : RulesAt W) (hk : SlS kv [(1, 1)] W) :
    Calls Tryd.prog 18 #[.agg #[.string s1.x, .int .i64 s1.t, .int .i64 s1.f, .slice s1.p s1.n s1.c, .slice s1.q s1.m s1.d], .string ⟨#[46]⟩, kv, .int .i64 5, .int .i64 5] W fun e w' => e = .returned (.bool true) ∧ Below W.heap.size W w' := by
  have c := signed_any s1.st s1.sv s1.g ⟨#[46]⟩ kv [(1, 1)] 5 5 W h.i1.hs hr hk h.i1.hg h.i1.hz (by simp [maxLen]) h.i1.hl
  rw [h.s.a.signed _ 5 5 (by decide)] at c
  exact c
theorem cs2 {w W : World} {q b g : Nat} {s1 s2 s3 : Sd} {kv : Value} (h : HX w q b g s1 s2 s3 W) (hr : RulesAt W) (hk : SlS kv [(1, 1)] W) :
    Calls Tryd.prog 18 #[.agg #[.string s1.x, .int .i64 s1.t, .int .i64 s1.f, .slice s1.p s1.n s1.c, .slice s1.q s1.m s1.d], .string ⟨#[120]⟩, kv, .int .i64 5, .int .i64 5] W fun e w' => e = .returned (.bool false) ∧ Below W.heap.size W w' := by
  have c := signed_any s1.st s1.sv s1.g ⟨#[120]⟩ kv [(1, 1)] 5 5 W h.i1.hs hr hk h.i1.hg h.i1.hz (by simp [maxLen]) h.i1.hl
  have hf : signedB s1.st s1.g ⟨#[120]⟩ [(1, 1)] 5 5 = false := by
    obtain ⟨g0, h1, h2, -⟩ := h.s.a.g
    unfold signedB
    rw [h1]
    simp only [List.any_cons, List.any_nil, Bool.or_false]
    unfold okG
    rw [h2]
    have : decide ((⟨#[46]⟩ : ByteArray) = ⟨#[120]⟩) = false := by decide
    rw [this]
    simp
  rw [hf] at c
  exact c
end Go.Proofs.YtkhckgknldiheaaDoor
