/- The contract of sweep of package span: what a sweep over the ends makes; no condition beyond those that each theorem names. -/
import Derived.Test.YtojofkjnakiliaaS7
namespace Go.Proofs.Ytojofkjnakiliaa
open Go.RowKit Go.Shelf
open SpP
attribute [local go_sem] Oper.semAt_some

/-- A function that counts, called with numbers that are not too great. -/
structure Cnt (cf : Nat) (c : Int → Int → Bool) : Prop where
  enters : ∀ args w, (callFunc cf args).run Try.prog w = .ok (.enter cf args) w
  calls : ∀ (a b : Int) (W : World), -10000000000 ≤ a → a ≤ 10000000000 → -10000000000 ≤ b → b ≤ 10000000000 → Calls Try.prog cf #[.int .i64 a, .int .i64 b] W fun e w' => e = .returned (.bool (c a b)) ∧ W = w'
def sw (c : Int → Int → Bool) (pre : List SEv) : St := (pre.map Subtype.val).foldl (SpP.step c) st0
theorem sw_snoc (c : Int → Int → Bool) (pre : List SEv) (x : SEv) : sw c (pre ++ [x]) = SpP.step c (sw c pre) x.val := by
  unfold sw
  rw [List.map_append, List.foldl_append]
  rfl
theorem step_ab (c : Int → Int → Bool) (s : St) (x : Ev) : (SpP.step c s x).a = s.a + x.2.1 ∧ (SpP.step c s x).b = s.b + x.2.2 := by
  unfold SpP.step
  split
  · exact ⟨rfl, rfl⟩
  · split <;> exact ⟨rfl, rfl⟩
theorem step_len (c : Int → Int → Bool) (s : St) (x : Ev) : (SpP.step c s x).out.length ≤ s.out.length + 1 := by
  unfold SpP.step
  split
  · exact Nat.le_succ _
  · split
    · simp
    · exact Nat.le_succ _
theorem sw_small (c : Int → Int → Bool) : ∀ (n : Nat) (pre : List SEv), pre.length = n → (-(80000 * (n : Int)) ≤ (sw c pre).a ∧ (sw c pre).a ≤ 80000 * n ∧ -(80000 * (n : Int)) ≤ (sw c pre).b ∧ (sw c pre).b ≤ 80000 * n) ∧ (sw c pre).out.length ≤ n
  | 0, pre, h => by
    obtain rfl := List.eq_nil_of_length_eq_zero h
    simp [sw, st0]
  | n + 1, pre, h => by
    obtain ⟨q, x, rfl⟩ : ∃ q x, pre = q ++ [x] := by
      have hne : pre ≠ [] := fun e => by rw [e] at h; cases h
      exact ⟨pre.dropLast, pre.getLast hne, (List.dropLast_concat_getLast hne).symm⟩
    have ih := sw_small c n q (by simpa using h)
    have hs := x.2
    unfold SmE at hs
    have hab := step_ab c (sw c q) x.val
    have hl := step_len c (sw c q) x.val
    rw [sw_snoc, hab.1, hab.2]
    omega

/-- The cells of sweep's variables. -/
structure VS (n0 cf : Nat) (s : St) (W : World) : Prop where
  b3 : Boxed W n0 46 (.func (.func cf) #[] #[])
  b6 : Boxed W (n0 + 1 + 1) 3 (.int .i64 s.a)
  b7 : Boxed W (n0 + 1 + 1 + 1) 3 (.int .i64 s.b)
  b8 : Boxed W (n0 + 1 + 1 + 1 + 1) 3 (.int .i64 s.at_)
  b9 : Boxed W (n0 + 1 + 1 + 1 + 1 + 1) 4 (.bool s.op)
  b5 : ∃ v, Boxed W (n0 + 1) 22 v ∧ W.ownsRow n0 34 2 v s.out.length (rowS s.out)
theorem own_set {n0 : Nat} {W : World} {b : Nat} {T : TypeId} {u : Value} (hb : Boxed W b T u) (hT : T ≠ 34) (hne : n0 + 1 ≠ b) (v' : Value) {s : List Sp} (h : ∃ v, Boxed W (n0 + 1) 22 v ∧ W.ownsRow n0 34 2 v s.length (rowS s)) :
    ∃ v, Boxed (W.setCell ⟨b, 0, none⟩ v') (n0 + 1) 22 v ∧ (W.setCell ⟨b, 0, none⟩ v').ownsRow n0 34 2 v s.length (rowS s) := by
  obtain ⟨v, h1, h2⟩ := h
  exact ⟨v, h1.other hne _, h2.kept (grownBy_setCell' W b v') (.inr (hb.not_row hT h2).symm)⟩
theorem VS.setA {n0 cf : Nat} {s : St} {W : World} (h : VS n0 cf s W) (v : Int) : VS n0 cf { s with a := v } (W.setCell ⟨n0 + 1 + 1, 0, none⟩ (.int .i64 v)) :=
  ⟨h.b3.other (by omega) _, h.b6.set _, h.b7.other (by omega) _, h.b8.other (by omega) _, h.b9.other (by omega) _, own_set h.b6 (by decide) (by omega) _ h.b5⟩
theorem VS.setB {n0 cf : Nat} {s : St} {W : World} (h : VS n0 cf s W) (v : Int) : VS n0 cf { s with b := v } (W.setCell ⟨n0 + 1 + 1 + 1, 0, none⟩ (.int .i64 v)) :=
  ⟨h.b3.other (by omega) _, h.b6.other (by omega) _, h.b7.set _, h.b8.other (by omega) _, h.b9.other (by omega) _, own_set h.b7 (by decide) (by omega) _ h.b5⟩
theorem VS.setAt {n0 cf : Nat} {s : St} {W : World} (h : VS n0 cf s W) (v : Int) : VS n0 cf { s with at_ := v } (W.setCell ⟨n0 + 1 + 1 + 1 + 1, 0, none⟩ (.int .i64 v)) :=
  ⟨h.b3.other (by omega) _, h.b6.other (by omega) _, h.b7.other (by omega) _, h.b8.set _, h.b9.other (by omega) _, own_set h.b8 (by decide) (by omega) _ h.b5⟩
theorem VS.setOp {n0 cf : Nat} {s : St} {W : World} (h : VS n0 cf s W) (v : Bool) : VS n0 cf { s with op := v } (W.setCell ⟨n0 + 1 + 1 + 1 + 1 + 1, 0, none⟩ (.bool v)) :=
  ⟨h.b3.other (by omega) _, h.b6.other (by omega) _, h.b7.other (by omega) _, h.b8.other (by omega) _, h.b9.set _, own_set h.b9 (by decide) (by omega) _ h.b5⟩
theorem boxed_own' {B : Nat} {T : TypeId} {v : Value} {X Y : World} {row : Option Nat} (h : Boxed X B T v) (hg : X.grownBy Y row) (hr : ∀ r, row = some r → ∃ o : Obj, X.heap[r]? = some o ∧ o.isCells = false) : Boxed Y B T v :=
  h.kept hg (fun e' => by obtain ⟨o, ho, hc⟩ := hr B e'.symm; rw [show X.heap[B]? = _ from h] at ho; cases ho; cases hc)
theorem VS.own {n0 cf : Nat} {s : St} {X Y : World} {row : Option Nat} (h : VS n0 cf s X) (hg : X.grownBy Y row) (hr : ∀ r, row = some r → ∃ o : Obj, X.heap[r]? = some o ∧ o.isCells = false) : VS n0 cf s Y := by
  obtain ⟨v, h1, h2⟩ := h.b5
  refine ⟨boxed_own' h.b3 hg hr, boxed_own' h.b6 hg hr, boxed_own' h.b7 hg hr, boxed_own' h.b8 hg hr, boxed_own' h.b9 hg hr, v, boxed_own' h1 hg hr, h2.kept hg ?_⟩
  rcases h2.2 with ⟨rfl, _⟩ | ⟨g, cap, cur, rfl, _, hgb, _⟩
  · exact .inl rfl
  · refine .inr fun e' => ?_
    obtain ⟨o, ho, hc⟩ := hr g (by simpa [Value.ownBlock] using e'.symm)
    rw [hgb] at ho; cases ho; cases hc
theorem VS.alloc {n0 cf : Nat} {s : St} {W : World} (h : VS n0 cf s W) (o : Obj) : VS n0 cf s (W.alloc o) := h.own (World.grownBy_alloc W o none) (fun r e => by cases e)
theorem row_form {W : World} {base : Nat} {e : TypeId} {size n : Nat} {v : Value} {xs : List Value} (h : W.ownsRow base e size v n xs) : ∃ p cap, v = .slice p n cap := by
  rcases h.2 with ⟨h1, h2⟩ | ⟨g, cap, cur, h3, _⟩
  · exact ⟨none, 0, by rw [h1, h2]⟩
  · exact ⟨_, cap, h3⟩
def zSp : Value := .agg #[.int .i64 0, .int .i64 0]
theorem infoS : (Try.prog.info? 34).map (fun i => (i.zero, i.size, i.bytes)) = some (some zSp, 2, 16) := by kernel_rfl
theorem news_s (W : World) (x : Sp) (T : TypeId) : ∀ j u, (valsS x)[j]? = some u → (W.alloc (.cells #[.int .i64 x.1, .int .i64 x.2] T)).cell? ((⟨W.heap.size, 0, none⟩ : Addr).add j) = some u := by
  intro j u h
  rw [Go.WideShapes.add_plain, Nat.zero_add, World.cell?_alloc_at _ _ _ _ rfl]
  simpa [valsS] using h
theorem one_s (x : Sp) : ∀ u ∈ valsS x, u.oneCell' = true := by
  intro u hu
  simp [valsS] at hu
  rcases hu with rfl | rfl <;> rfl
/-- Behind an append, and the store of what it gives. -/
theorem vs_push {n0 cf : Nat} {s : St} {W w6 : World} {v v' : Value} {k : Nat} {tmp : Obj} (hV : VS n0 cf s W) (hb : Boxed W (n0 + 1) 22 v) (ho : W.ownsRow n0 34 2 v k (rowS s.out)) (x : Sp) (hk : s.out.length = k)
    (h6 : w6.ownsRow n0 34 2 v' (k + 1) (rowS s.out ++ valsS x)) (hg : (W.alloc tmp).grownBy w6 v.ownBlock) :
    VS n0 cf { s with out := s.out ++ [x] } (w6.setCell ⟨n0 + 1, 0, none⟩ v') ∧ Boxed (w6.setCell ⟨n0 + 1, 0, none⟩ v') (n0 + 1 + 1 + 1 + 1 + 1) 4 (.bool s.op) := by
  have go : ∀ {B : Nat} {T : TypeId} {u : Value}, Boxed W B T u → T ≠ 34 → n0 + 1 ≠ B → Boxed (w6.setCell ⟨n0 + 1, 0, none⟩ v') B T u := fun h hT hne =>
    (((h.alloc tmp).kept hg (h.not_row hT ho))).other (fun e => hne e.symm) _
  obtain ⟨_, q2, q3, _, _⟩ := hb.appended (by decide) ho (by have := hV.b3.lt; omega) (Nat.le_succ n0) h6 hg
  have h9 := go hV.b9 (by decide) (by omega)
  refine ⟨⟨go hV.b3 (by decide) (by omega), go hV.b6 (by decide) (by omega), go hV.b7 (by decide) (by omega), go hV.b8 (by decide) (by omega), h9, v', q2, ?_⟩, h9⟩
  show World.ownsRow _ _ _ _ _ (s.out ++ [x]).length (rowS (s.out ++ [x]))
  rw [List.length_append, hk, rowS_append]
  exact q3

/-- A round's frame. -/
def frame (n0 cf B Bx : Nat) (x : Ev) : Act := { tmps := #[.func (.func 46) #[] #[.pointer (some ⟨B, 0, none⟩)], .func (.func cf) #[] #[], undef, .pointer (some ⟨n0, 0, none⟩), .slice none 0 0, .pointer (some ⟨n0 + 1, 0, none⟩), .pointer (some ⟨n0 + 1 + 1, 0, none⟩), .pointer (some ⟨n0 + 1 + 1 + 1, 0, none⟩), .pointer (some ⟨n0 + 1 + 1 + 1 + 1, 0, none⟩), .pointer (some ⟨n0 + 1 + 1 + 1 + 1 + 1, 0, none⟩), .pointer (some ⟨Bx, 0, none⟩), undef, .func (.func 46) #[] #[.pointer (some ⟨B, 0, none⟩)], .agg #[.int .i64 x.1, .int .i64 x.2.1, .int .i64 x.2.2], undef, undef, undef, undef, undef, undef, undef, undef, undef, undef, undef, undef, undef, undef, undef, undef, undef, undef, undef, undef, undef, undef, undef, undef, undef, undef, undef, undef, undef, undef, undef, undef, undef, undef], defers := [] }
theorem vs_start (w : World) (cf : Nat) : VS w.heap.size cf st0 ((((((w.alloc (.cells #[.func (.func cf) #[] #[]] 46)).alloc (.cells #[.slice none 0 0] 22)).alloc (.cells #[.int .i64 0] 3)).alloc (.cells #[.int .i64 0] 3)).alloc (.cells #[.int .i64 0] 3)).alloc (.cells #[.bool false] 4)) := by
  refine ⟨?_, ?_, ?_, ?_, ?_, .slice none 0 0, ?_, World.ownsRow_nil _ _ _ _⟩
  · exact (((((Boxed.new w _ _).alloc _).alloc _).alloc _).alloc _).alloc _
  · have := Boxed.new ((w.alloc (.cells #[.func (.func cf) #[] #[]] 46)).alloc (.cells #[.slice none 0 0] 22)) 3 (.int .i64 0)
    simp only [World.size_alloc] at this
    exact ((this.alloc _).alloc _).alloc _
  · have := Boxed.new (((w.alloc (.cells #[.func (.func cf) #[] #[]] 46)).alloc (.cells #[.slice none 0 0] 22)).alloc (.cells #[.int .i64 0] 3)) 3 (.int .i64 0)
    simp only [World.size_alloc] at this
    exact (this.alloc _).alloc _
  · have := Boxed.new ((((w.alloc (.cells #[.func (.func cf) #[] #[]] 46)).alloc (.cells #[.slice none 0 0] 22)).alloc (.cells #[.int .i64 0] 3)).alloc (.cells #[.int .i64 0] 3)) 3 (.int .i64 0)
    simp only [World.size_alloc] at this
    exact this.alloc _
  · have := Boxed.new (((((w.alloc (.cells #[.func (.func cf) #[] #[]] 46)).alloc (.cells #[.slice none 0 0] 22)).alloc (.cells #[.int .i64 0] 3)).alloc (.cells #[.int .i64 0] 3)).alloc (.cells #[.int .i64 0] 3)) 4 (.bool false)
    simp only [World.size_alloc] at this
    exact this
  · have := Boxed.new (w.alloc (.cells #[.func (.func cf) #[] #[]] 46)) 22 (.slice none 0 0)
    simp only [World.size_alloc] at this
    exact (((this.alloc _).alloc _).alloc _).alloc _

set_option maxHeartbeats 2000000 in
set_option maxRecDepth 100000 in
theorem sweep_any {c : Int → Int → Bool} {cf : Nat} (hC : Cnt cf c) {B : Nat} {d : List Ev} (hd : SmallE d) {w : World} (hE : EC B d w) :
    Calls Try.prog 27 #[.func (.func 46) #[] #[.pointer (some ⟨B, 0, none⟩)], .func (.func cf) #[] #[]] w fun e w' => ∃ v, e = .returned v ∧ w'.ownsRow w.heap.size 34 2 v (swept c d).length (rowS (swept c d)) ∧ RowKit.Below w.heap.size w w' := by
  have HN := Lib.hid (Nat.le_trans (grp_len d) hd.1)
  have HC := Lib.hid hC
  have HIT := fun W (h : RowKit.Below w.heap.size w W) => iter_stops 4 (by omega) B d hd w hE W h
  refine (callsIn_wide (n := 5)).1 ?_
  refine callsIn_of_wp_marks Try.func27 rfl trivial ?_ rfl
  simp only [Try.ntmps27, List.size_toArray, List.length_cons, List.length_nil, Nat.reduceAdd, Nat.reduceSub, Array.replicate_succ, Array.replicate_zero, List.push_toArray, List.append_toArray, List.nil_append, List.cons_append]
  gi_wp2
  have hV0 := vs_start w cf
  have hB0 : RowKit.Below w.heap.size w ((((((w.alloc (.cells #[.func (.func cf) #[] #[]] 46)).alloc (.cells #[.slice none 0 0] 22)).alloc (.cells #[.int .i64 0] 3)).alloc (.cells #[.int .i64 0] 3)).alloc (.cells #[.int .i64 0] 3)).alloc (.cells #[.bool false] 4)) :=
    ((((((RowKit.Below.refl _ w).alloc (Nat.le_refl _) _).alloc (by simp) _).alloc (by simp; omega) _).alloc (by simp; omega) _).alloc (by simp; omega) _).alloc (by simp; omega) _
  have hsz : ((((((w.alloc (.cells #[.func (.func cf) #[] #[]] 46)).alloc (.cells #[.slice none 0 0] 22)).alloc (.cells #[.int .i64 0] 3)).alloc (.cells #[.int .i64 0] 3)).alloc (.cells #[.int .i64 0] 3)).alloc (.cells #[.bool false] 4)).heap.size = w.heap.size + 1 + 1 + 1 + 1 + 1 + 1 := by simp
  generalize ((((((w.alloc (.cells #[.func (.func cf) #[] #[]] 46)).alloc (.cells #[.slice none 0 0] 22)).alloc (.cells #[.int .i64 0] 3)).alloc (.cells #[.int .i64 0] 3)).alloc (.cells #[.int .i64 0] 3)).alloc (.cells #[.bool false] 4)) = W0 at *
  have hit := HIT W0 hB0
  clear HIT
  refine wpIn_rangeFunc_ownH rfl (by omega) (gf := 46) (lb := #[.pointer (some ⟨B, 0, none⟩)]) rfl trivial (enters_of Try.func46 (by kernel_rfl) rfl)
    hit belowK_t (belowK_b (by omega)) (RowKit.Below.refl _ _) (fun _ => rfl)
    (fun pre W => VS w.heap.size cf (sw c pre) W ∧ RowKit.Below w.heap.size w W)
    (fun _ _ _ => False)
    (fun s X Y row hs hg hr => ⟨hs.1.own hg (fun r e => (hr r e).2), ownFrom_below (Nat.le_refl _) (by omega) s X Y row hs.2 hg hr⟩)
    (fun _ _ _ _ _ hs _ _ => hs)
    ⟨hV0, hB0⟩
    (fun x a' W => ∃ Bx, w.heap.size + 1 + 1 + 1 + 1 + 1 < Bx ∧ W.heap[Bx]? = some (cellsE x.val) ∧ a' = frame w.heap.size cf B Bx x.val)
    (fun x a' _ X Y row hs hg hr => by
      obtain ⟨Bx, e1, e2, e3⟩ := hs
      refine ⟨Bx, e1, (hg.block Bx (Array.getElem?_eq_some_iff.1 e2).1 ?_).trans e2, e3⟩
      intro e'
      obtain ⟨_, o, ho, hc⟩ := hr Bx e'.symm
      rw [e2] at ho; cases ho; cases hc)
    ?assign ?body ?done ?stop
  case assign =>
    rintro l pre x W K ⟨hV, hB⟩ hK
    gi_wp2
    exact hK _ _ ((KeepsOthers.alloc _ _).from _) ((RowKit.Below.refl _ W).alloc hB.size _) ⟨hV.alloc _, hB.alloc hB.size _⟩ ⟨W.heap.size, hV.b9.lt, World.alloc_heap_new W _, rfl⟩
  case body =>
    rintro l pre x a' W hl hr ⟨hV, hB⟩ ⟨Bx, hBx, hX, rfl⟩ hlen
    have hsm := sw_small c pre.length pre rfl
    have hxs := x.2
    unfold SmE at hxs
    have hlen8 : pre.length ≤ 80000 := Nat.le_trans (Nat.le_of_lt hlen) HN.out
    have hsn := sw_snoc c pre x
    generalize hs : sw c pre = s at *
    obtain ⟨⟨x0, xa, xb⟩, hx⟩ := x
    simp only at hxs hX hsn
    unfold frame
    simp only
    obtain ⟨a, b, at_, op, out⟩ := s
    simp only at hsm
    obtain ⟨⟨e0, e1, e2⟩, f1, f2⟩ := box3 hX
    simp only at e0 e1 e2
    have hwsz := hB.size
    obtain ⟨n0, hn0⟩ : ∃ n, w.heap.size = n := ⟨_, rfl⟩
    rw [hn0] at hV hBx hwsz ⊢
    have c3 := hV.b3.cell
    have c6 : W.cell? ⟨n0 + 1 + 1, 0, none⟩ = some (.int .i64 a) := hV.b6.cell
    have f6 := hV.b6.frozen
    have c7 : W.cell? ⟨n0 + 1 + 1 + 1, 0, none⟩ = some (.int .i64 b) := hV.b7.cell
    have f7 := hV.b7.frozen
    have c8 : W.cell? ⟨n0 + 1 + 1 + 1 + 1, 0, none⟩ = some (.int .i64 at_) := hV.b8.cell
    have f8 := hV.b8.frozen
    have c9 : W.cell? ⟨n0 + 1 + 1 + 1 + 1 + 1, 0, none⟩ = some (.bool op) := hV.b9.cell
    have f9 := hV.b9.frozen
    have hn6 : Bx ≠ n0 + 1 + 1 := by omega
    have hn7 : Bx ≠ n0 + 1 + 1 + 1 := by omega
    have hn8 : Bx ≠ n0 + 1 + 1 + 1 + 1 := by omega
    have hn9 : Bx ≠ n0 + 1 + 1 + 1 + 1 + 1 := by omega
    have hA1 : -9000000000 ≤ a := by omega
    have hA2 : a ≤ 9000000000 := by omega
    have hB1 : -9000000000 ≤ b := by omega
    have hB2 : b ≤ 9000000000 := by omega
    have HCA := Lib.hid (fun W => HC.out.calls (a + xa) (b + xb) W (by omega) (by omega) (by omega) (by omega))
    have hen := HC.out.enters
    have HV := Lib.hid hV
    have HB := Lib.hid hB
    have HSN := Lib.hid hsn
    have HOL := Lib.hid hsm.2
    have HHS := Lib.hid hs
    have HN0 := Lib.hid hn0
    clear hV hB hsn hs hsm hn0 hit hV0 hB0 hlen
    gi_wp2
    refine ⟨trivial, ?_⟩
    refine (CallsIn.inRound l (callsIn_wide.2 (HCA.out _))).mono ?_
    rintro e w' ⟨rfl, rfl⟩
    have hV2 := (HV.out.setA (a + xa)).setB (b + xb)
    have hX2 : ((W.setCell ⟨n0 + 1 + 1, 0, none⟩ (.int .i64 (a + xa))).setCell ⟨n0 + 1 + 1 + 1, 0, none⟩ (.int .i64 (b + xb))).heap[Bx]? = some (cellsE (x0, xa, xb)) :=
      (heap_setCell_other _ _ _ _ hn7).trans ((heap_setCell_other _ _ _ _ hn6).trans hX)
    have hK2 : KeepsOthers W ((W.setCell ⟨n0 + 1 + 1, 0, none⟩ (.int .i64 (a + xa))).setCell ⟨n0 + 1 + 1 + 1, 0, none⟩ (.int .i64 (b + xb))) := (KeepsOthers.setCell _ _ _).trans (KeepsOthers.setCell _ _ _)
    have hB2' : RowKit.Below n0 W ((W.setCell ⟨n0 + 1 + 1, 0, none⟩ (.int .i64 (a + xa))).setCell ⟨n0 + 1 + 1 + 1, 0, none⟩ (.int .i64 (b + xb))) := ((RowKit.Below.refl n0 W).setCell (p := ⟨n0 + 1 + 1, 0, none⟩) (show n0 ≤ n0 + 1 + 1 by omega) _).setCell (p := ⟨n0 + 1 + 1 + 1, 0, none⟩) (show n0 ≤ n0 + 1 + 1 + 1 by omega) _
    clear c3 c6 f6 c7 f7 c8 f8 c9 f9 e0 e1 e2 f1 f2 hX
    generalize ((W.setCell ⟨n0 + 1 + 1, 0, none⟩ (.int .i64 (a + xa))).setCell ⟨n0 + 1 + 1 + 1, 0, none⟩ (.int .i64 (b + xb))) = w2 at *
    have c8 : w2.cell? ⟨n0 + 1 + 1 + 1 + 1, 0, none⟩ = some (.int .i64 at_) := hV2.b8.cell
    have f8 := hV2.b8.frozen
    have c9 : w2.cell? ⟨n0 + 1 + 1 + 1 + 1 + 1, 0, none⟩ = some (.bool op) := hV2.b9.cell
    have f9 := hV2.b9.frozen
    have e0 : w2.cell? ⟨Bx, 0, none⟩ = some (.int .i64 x0) := (box3 hX2).1.1
    have hBW : RowKit.Below n0 w W := by have := HB.out; rwa [HN0.out] at this
    have HBW := Lib.hid hBW
    have HK2 := Lib.hid hK2
    have HB2 := Lib.hid hB2'
    have HV2 := Lib.hid hV2
    obtain ⟨R, hR⟩ : ∃ R, c (a + xa) (b + xb) = R := ⟨_, rfl⟩
    have HST : Hid (sw c (pre ++ [⟨(x0, xa, xb), hx⟩]) = if R = true ∧ op = false then ⟨a + xa, b + xb, x0, true, out⟩ else if R = false ∧ op = true then ⟨a + xa, b + xb, at_, false, out ++ [(at_, x0)]⟩ else ⟨a + xa, b + xb, at_, op, out⟩) := Lib.hid (by rw [HSN.out, ← hR]; rfl)
    rw [hR]
    clear hR hV2 hK2 hB2' hX2 hBW
    cases R
    · cases op
      · gi_wp2
        refine ⟨HK2.out.from _, HB2.out, ?_, HBW.out.trans HB2.out⟩
        rw [HST.out, if_neg (by simp), if_neg (by simp)]
        exact HV2.out
      · obtain ⟨v, hb5, ho5⟩ := HV2.out.b5
        simp only at ho5
        obtain ⟨p5, cap5, hv5⟩ := row_form ho5
        obtain ⟨k, hk⟩ : ∃ k, out.length = k := ⟨_, rfl⟩
        rw [hk] at hv5 ho5
        subst hv5
        have hk8 : k ≤ 80000 := by have := HOL.out; omega
        have c5 := hb5.cell
        have hlt5 := hb5.lt
        have HB5 := Lib.hid hb5
        have HO5 := Lib.hid ho5
        have HK := Lib.hid hk
        have hn02 : n0 ≤ w2.heap.size := by omega
        obtain ⟨i0, hi0, hz0, hz1, hz2⟩ := info_parts infoS
        have HI := Lib.hid hi0
        have HZ0 := Lib.hid hz0
        have HZ1 := Lib.hid hz1
        have HZ2 := Lib.hid hz2
        clear hb5 ho5 hk hi0 hz0 hz1 hz2
        gi_wp2_with (gi_at_builtin; refine wpListIn_append_own _ rfl (.tmp 40) (.tmp 45) 22 rfl n0 34 i0 zSp 2 16 Try.underlying22 HI.out HZ0.out HZ1.out HZ2.out rfl (by decide) (.slice p5 k cap5) k (rowS out) rfl (HO5.out.alloc _) ⟨w2.heap.size, 0, none⟩ 1 1 (valsS (at_, x0)) rfl rfl (news_s w2 (at_, x0) 34) (one_s _) (by unfold maxLen; omega) (by omega) (by simp; omega) ?_; intro v' w6 hown' hgrow _; obtain ⟨g2, cap2, rfl⟩ := ownsRow_succ hown'; have hap := HB5.out.appended (by decide) HO5.out hn02 (Nat.le_succ n0) hown' hgrow; have hV6 := vs_push HV2.out HB5.out HO5.out (at_, x0) HK.out hown' hgrow; obtain ⟨q1, q2, q3, q4, q5⟩ := hap; have c5' := q1.cell; have f5' := q1.frozen; have c9' := hV6.2.cell; have f9' := hV6.2.frozen; have Q4 := Lib.hid q4; have Q5 := Lib.hid q5; have HV7 := Lib.hid hV6.1; clear q1 q2 q3 q4 q5 hV6 hown' hgrow)
        refine ⟨((HK2.out.trans Q4.out).trans (KeepsOthers.setCell _ _ _)).from _, ?_, ?_, ?_⟩
        · exact (HB2.out.trans Q5.out).setCell (p := ⟨n0 + 1 + 1 + 1 + 1 + 1, 0, none⟩) (show n0 ≤ n0 + 1 + 1 + 1 + 1 + 1 by omega) _
        · rw [HST.out, if_neg (by simp), if_pos (by simp)]
          exact HV7.out.setOp false
        · exact HBW.out.trans ((HB2.out.trans Q5.out).setCell (p := ⟨n0 + 1 + 1 + 1 + 1 + 1, 0, none⟩) (show n0 ≤ n0 + 1 + 1 + 1 + 1 + 1 by omega) _)
    · cases op
      · gi_wp2
        refine ⟨(HK2.out.trans ((KeepsOthers.setCell _ _ _).trans (KeepsOthers.setCell _ _ _))).from _, ?_, ?_, ?_⟩
        · exact (HB2.out.setCell (p := ⟨n0 + 1 + 1 + 1 + 1, 0, none⟩) (show n0 ≤ n0 + 1 + 1 + 1 + 1 by omega) _).setCell (p := ⟨n0 + 1 + 1 + 1 + 1 + 1, 0, none⟩) (show n0 ≤ n0 + 1 + 1 + 1 + 1 + 1 by omega) _
        · rw [HST.out, if_pos (by simp)]
          exact (HV2.out.setAt x0).setOp true
        · exact HBW.out.trans ((HB2.out.setCell (p := ⟨n0 + 1 + 1 + 1 + 1, 0, none⟩) (show n0 ≤ n0 + 1 + 1 + 1 + 1 by omega) _).setCell (p := ⟨n0 + 1 + 1 + 1 + 1 + 1, 0, none⟩) (show n0 ≤ n0 + 1 + 1 + 1 + 1 + 1 by omega) _)
      · gi_wp2
        refine ⟨HK2.out.from _, HB2.out, ?_, HBW.out.trans HB2.out⟩
        rw [HST.out, if_neg (by simp), if_neg (by simp)]
        exact HV2.out
  case done =>
    rintro D ys W hD hys ⟨hV, hB⟩ hK
    have hsw : (sw c ys).out = swept c d := by unfold sw swept; rw [hys]
    obtain ⟨v, hb5, ho5⟩ := hV.b5
    rw [hsw] at ho5
    have c5 := hb5.cell
    have HV := Lib.hid ho5
    have HB := Lib.hid hB
    have HK := Lib.hid hK
    obtain ⟨p5, cap5, hv5⟩ := row_form ho5
    subst hv5
    clear hV hB hK hys hsw ho5 hb5 hit hV0 hB0
    gi_wp2
    refine ⟨by simp, .inl ⟨_, _, rfl, run_takeDeferred HK.out, ?_⟩⟩
    refine ⟨_, results_tmp rfl _ _ _, _, rfl, ownsRow_putObj HV.out _ HK.out rfl, HB.out.trans (belowK_b (w := w) (Nat.le_refl _) W D _ _ (by omega) HK.out rfl rfl)⟩
  case stop =>
    rintro D c' pre W _ _ h _
    exact h.elim
end Go.Proofs.Ytojofkjnakiliaa
