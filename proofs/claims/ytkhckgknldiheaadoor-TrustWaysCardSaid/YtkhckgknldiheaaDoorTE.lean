/- What the head of layer 10's laws needs of the helper signed; no condition beyond those that each theorem names. -/
import Derived.Test.YtkhckgknldiheaaDoorPA
namespace Go.Proofs.YtkhckgknldiheaaDoor
set_option linter.unusedSimpArgs false
set_option linter.unusedVariables false
open Go.RowKit
open NmP SpP

/-- A set of one datum that is signed for a zone by a key. -/
structure IsS (s : Sd) (x : ByteArray) (kind : Int) (zone : ByteArray) (n : Int) (d : Dt) : Prop where
  x : s.x = x
  t : s.t = kind
  l : s.l = [d]
  g : ∃ g, s.g = [g] ∧ g.z = zone ∧ g.k = n ∧ g.a = 1 ∧ g.f = 0 ∧ g.u = 100 ∧ checkB s.st g n 1 = true
/-- Its slices lie in blocks of their own. -/
def FrS (n : Nat) (s : Sd) : Prop := ∃ a b, s.p = some ⟨a, 0, none⟩ ∧ s.q = some ⟨b, 0, none⟩ ∧ n ≤ a ∧ n ≤ b
theorem FrS.mono {n m : Nat} {s : Sd} (h : FrS m s) (hn : n < m) : FrS (n + 1) s := by
  obtain ⟨a, b, h1, h2, h3, h4⟩ := h
  exact ⟨a, b, h1, h2, by omega, by omega⟩
/-- A call that returns such a set. -/
def SigTo (x : ByteArray) (kind : Int) (zone : ByteArray) (n : Int) (d : Dt) (w : World) (e : Ending) (w' : World) : Prop := ∃ s : Sd, e = .returned (.agg #[.string s.x, .int .i64 s.t, .int .i64 s.f, .slice s.p s.n s.c, .slice s.q s.m s.d]) ∧ IsS s x kind zone n d ∧ FrS w.heap.size s ∧ s.In w' ∧ Below w.heap.size w w'
theorem sldE_new (d : Dt) (W : World) (t : TypeId) : SlD (.slice (some ⟨W.heap.size, 0, none⟩) 1 1) [d] (W.alloc (.cells #[.string d.1, .int .i64 d.2.1, .int .i64 d.2.2] t)) := by
  refine .inr ⟨W.heap.size, 0, 1, rfl, by simp, fun m u hm => ?_⟩
  have hm' : (#[Value.string d.1, .int .i64 d.2.1, .int .i64 d.2.2] : Array Value)[m]? = some u := by
    rw [← Array.getElem?_toList]
    exact hm
  rw [Nat.zero_add]
  exact cell_of_blk (heap_alloc_new W _) m u hm'
theorem slgE_new (g : Sg) (W : World) (t : TypeId) : SlG (.slice (some ⟨W.heap.size, 0, none⟩) 1 1) [g] (W.alloc (.cells #[.string g.z, .int .i64 g.k, .int .i64 g.a, .int .i64 g.f, .int .i64 g.u, .int .u64 g.m] t)) := by
  refine .inr ⟨W.heap.size, 0, 1, rfl, by simp, fun m u hm => ?_⟩
  have hm' : (#[Value.string g.z, .int .i64 g.k, .int .i64 g.a, .int .i64 g.f, .int .i64 g.u, .int .u64 g.m] : Array Value)[m]? = some u := by
    rw [← Array.getElem?_toList]
    exact hm
  rw [Nat.zero_add]
  exact cell_of_blk (heap_alloc_new W _) m u hm'
theorem sldE_other {W W' : World} {g n c : Nat} {l : List Dt} (h : SlD (.slice (some ⟨g, 0, none⟩) n c) l W) (hs : W.heap.size ≤ W'.heap.size) (hg : W'.heap[g]? = W.heap[g]?) : SlD (.slice (some ⟨g, 0, none⟩) n c) l W' := by
  rcases h with ⟨h1, p, c', h2⟩ | ⟨b', off, c', h1, h2, h3⟩
  · exact .inl ⟨h1, p, c', h2⟩
  · cases h1
    exact .inr ⟨g, 0, c, rfl, Nat.lt_of_lt_of_le h2 hs, fun m u hm => by rw [World.cell?_of_block hg]; exact h3 m u hm⟩
theorem slgE_other {W W' : World} {g n c : Nat} {l : List Sg} (h : SlG (.slice (some ⟨g, 0, none⟩) n c) l W) (hs : W.heap.size ≤ W'.heap.size) (hg : W'.heap[g]? = W.heap[g]?) : SlG (.slice (some ⟨g, 0, none⟩) n c) l W' := by
  rcases h with ⟨h1, p, c', h2⟩ | ⟨b', off, c', h1, h2, h3⟩
  · exact .inl ⟨h1, p, c', h2⟩
  · cases h1
    exact .inr ⟨g, 0, c, rfl, Nat.lt_of_lt_of_le h2 hs, fun m u hm => by rw [World.cell?_of_block hg]; exact h3 m u hm⟩
theorem fiveE_other (W : World) (q g : Nat) (h : g ≠ q) (a0 a1 a2 a3 a4 : Value) : (((((W.setCell ⟨q, 0, none⟩ a0).setCell ⟨q, 1, none⟩ a1).setCell ⟨q, 2, none⟩ a2).setCell ⟨q, 3, none⟩ a3).setCell ⟨q, 4, none⟩ a4).heap[g]? = W.heap[g]? :=
  (heap_setCell_other _ ⟨q, 4, none⟩ g a4 h).trans ((heap_setCell_other _ ⟨q, 3, none⟩ g a3 h).trans ((heap_setCell_other _ ⟨q, 2, none⟩ g a2 h).trans ((heap_setCell_other _ ⟨q, 1, none⟩ g a1 h).trans (heap_setCell_other _ ⟨q, 0, none⟩ g a0 h))))
theorem fiveE_size (W : World) (q : Nat) (a0 a1 a2 a3 a4 : Value) : W.heap.size ≤ (((((W.setCell ⟨q, 0, none⟩ a0).setCell ⟨q, 1, none⟩ a1).setCell ⟨q, 2, none⟩ a2).setCell ⟨q, 3, none⟩ a3).setCell ⟨q, 4, none⟩ a4).heap.size := by simp
theorem fiveE_eq (W : World) (q : Nat) (a0 a1 a2 a3 a4 : Value) : (((((W.setCell ⟨q, 0, none⟩ a0).setCell ⟨q, 1, none⟩ a1).setCell ⟨q, 2, none⟩ a2).setCell ⟨q, 3, none⟩ a3).setCell ⟨q, 4, none⟩ a4).heap.size = W.heap.size := by simp
theorem bnewE (W : World) (o : Obj) : Below W.heap.size W (W.alloc o) := (Below.refl _ W).alloc (Nat.le_refl _) _

set_option maxHeartbeats 4000000 in
set_option maxRecDepth 100000 in
theorem signed_lit (x : ByteArray) (kind : Int) (zone : ByteArray) (n : Int) (d : Dt) (w : World) (hr : RulesAt w) (hx : x.size ≤ maxLen) (hz : zone.size ≤ maxLen) (hd : d.1.size ≤ maxLen) (hs : signB ⟨x, kind, 9, .slice none 0 0, [d]⟩ zone n 1 0 100 = true) :
    Calls Tryd.prog 63 #[.string x, .int .i64 kind, .string zone, .int .i64 n, .agg #[.string d.1, .int .i64 d.2.1, .int .i64 d.2.2]] w (SigTo x kind zone n d w) := by
  have hx' := hx
  have hd' := hd
  have hz' := hz
  obtain ⟨W1, hW1⟩ : ∃ W, (w.alloc (.cells #[.string d.1, .int .i64 d.2.1, .int .i64 d.2.2] 65)).alloc (.cells #[.string ⟨#[]⟩, .int .i64 0, .int .i64 0, .slice none 0 0, .slice none 0 0] 37) = W := ⟨_, rfl⟩
  have hb1 : Below w.heap.size w W1 := by rw [← hW1]; exact (bnewE w _).alloc (by simp) _
  have hz1 : W1.heap.size = w.heap.size + 2 := by rw [← hW1]; simp
  have hc1 : W1.heap[w.heap.size + 1]? = some (Obj.cells #[.string ⟨#[]⟩, .int .i64 0, .int .i64 0, .slice none 0 0, .slice none 0 0] 37 (0, 0)) := by
    rw [← hW1]
    have := heap_alloc_new (w.alloc (.cells #[.string d.1, .int .i64 d.2.1, .int .i64 d.2.2] 65)) (.cells #[.string ⟨#[]⟩, .int .i64 0, .int .i64 0, .slice none 0 0, .slice none 0 0] 37)
    simpa using this
  have hd1 : W1.heap[w.heap.size]? = some (Obj.cells #[.string d.1, .int .i64 d.2.1, .int .i64 d.2.2] 65 (0, 0)) := by
    rw [← hW1]
    exact (heap_alloc_old _ _ (by simp)).trans (heap_alloc_new w _)
  have hsl := sldE_new d W1 65
  have hb2 := bnewE W1 (.cells #[.string d.1, .int .i64 d.2.1, .int .i64 d.2.2] 65)
  obtain ⟨W2, hW2⟩ : ∃ W, W1.alloc (.cells #[.string d.1, .int .i64 d.2.1, .int .i64 d.2.2] 65) = W := ⟨_, rfl⟩
  rw [hW2] at hsl hb2
  have hz2 : W2.heap.size = w.heap.size + 3 := by rw [← hW2]; simp [hz1]
  rw [hz1] at hsl
  have hb3 := bnewE W2 (.cells #[.string x, .int .i64 kind, .int .i64 9, .slice (some ⟨w.heap.size + 2, 0, none⟩) 1 1] 25)
  have hs3 := heap_alloc_new W2 (.cells #[.string x, .int .i64 kind, .int .i64 9, .slice (some ⟨w.heap.size + 2, 0, none⟩) 1 1] 25)
  obtain ⟨W3, hW3⟩ : ∃ W, W2.alloc (.cells #[.string x, .int .i64 kind, .int .i64 9, .slice (some ⟨w.heap.size + 2, 0, none⟩) 1 1] 25) = W := ⟨_, rfl⟩
  rw [hW3] at hb3 hs3
  rw [hz2] at hs3
  have hsl3 := hsl.keep hb3
  have hb13 := hb2.trans (hb3.mono hb2.size)
  have hbw3 : Below w.heap.size w W3 := hb1.trans (hb13.mono hb1.size)
  have hc3 := (hb13.block (w.heap.size + 1) (by omega)).trans hc1
  have CS := Lib.hid (sign_any ⟨x, kind, 9, .slice (some ⟨w.heap.size + 2, 0, none⟩) 1 1, [d]⟩ zone n 1 0 100 W3 ⟨hx, fun e he => by rw [List.mem_singleton.1 he]; exact hd, hsl3⟩ (hr.keep hbw3) hz)
  have hs' : signB ⟨x, kind, 9, .slice (some ⟨w.heap.size + 2, 0, none⟩) 1 1, [d]⟩ zone n 1 0 100 = true := hs
  unfold signV at CS
  rw [if_pos hs'] at CS
  obtain ⟨sm, hsm⟩ : ∃ m, sigSum ⟨x, kind, 9, .slice (some ⟨w.heap.size + 2, 0, none⟩) 1 1, [d]⟩ zone n 1 0 100 = m := ⟨_, rfl⟩
  rw [hsm] at CS
  have HW1 := Lib.hid hW1
  have HW2 := Lib.hid hW2
  have HW3 := Lib.hid hW3
  have HC3 := Lib.hid hc3
  have HS3 := Lib.hid hs3
  have HSL := Lib.hid hsl3
  have HB3 := Lib.hid hbw3
  have HZ1 := Lib.hid hz1
  have HZ2 := Lib.hid hz2
  have d0 := cell_of_blk hd1 0 (.string d.1) rfl
  have d1 := cell_of_blk hd1 1 (.int .i64 d.2.1) rfl
  have d2 := cell_of_blk hd1 2 (.int .i64 d.2.2) rfl
  have HCK : Hid (checkB ⟨x, kind, 9, .slice (some ⟨w.heap.size + 2, 0, none⟩) 1 1, [d]⟩ ⟨zone, n, 1, 0, 100, sm⟩ n 1 = true) := Lib.hid (by
    unfold checkB
    simp only
    rw [hs', hsm]
    simp)
  clear hW1 hW2 hW3 hc3 hs3 hsl3 hbw3 hb1 hb2 hb3 hb13 hsl hc1 hz2 hd1 hs hs' hsm
  go_enter Tryd.func63, Tryd.ntmps63
  go_upto_region 1 with fail
  rw [HW1.out]
  go_upto_region 2 with fail
  simp only [Nat.add_assoc, Nat.reduceAdd]
  rw [HW2.out, HW3.out]
  have e0 := cell_of_blk HS3.out 0 (.string x) rfl
  have e1 := cell_of_blk HS3.out 1 (.int .i64 kind) rfl
  have e2 := cell_of_blk HS3.out 2 (.int .i64 9) rfl
  have e3 := cell_of_blk HS3.out 3 (.slice (some ⟨w.heap.size + 2, 0, none⟩) 1 1) rfl
  go_upto_region 3 with (go_at_call 22; (with_reducible refine (CS.out).mono ?_); rintro e w4 ⟨rfl, hb⟩; have HB4 := Lib.hid hb; clear hb)
  have hz3 : W3.heap.size = w.heap.size + 4 := by rw [← HW3.out]; simp [HZ2.out]
  have hz4 := HB4.out.size
  have hb5 := bnewE w4 (.cells #[.string zone, .int .i64 n, .int .i64 1, .int .i64 0, .int .i64 100, .int .u64 sm] 49)
  have hg5 := heap_alloc_new w4 (.cells #[.string zone, .int .i64 n, .int .i64 1, .int .i64 0, .int .i64 100, .int .u64 sm] 49)
  obtain ⟨W5, hW5⟩ : ∃ W, w4.alloc (.cells #[.string zone, .int .i64 n, .int .i64 1, .int .i64 0, .int .i64 100, .int .u64 sm] 49) = W := ⟨_, rfl⟩
  have hz5 : W5.heap.size = w4.heap.size + 1 := by rw [← hW5]; simp
  rw [hW5] at hb5 hg5 ⊢
  have hb35 := HB4.out.trans (hb5.mono hz4)
  have hs5 := (hb35.block (w.heap.size + 3) (by omega)).trans HS3.out
  have hc5 := (hb35.block (w.heap.size + 1) (by omega)).trans HC3.out
  have hbw5 := HB3.out.trans (hb35.mono HB3.out.size)
  have hsl5 := HSL.out.keep hb35
  have hx5 := set5_ (.string x) (.int .i64 kind) (.int .i64 9) (.slice (some ⟨w.heap.size + 2, 0, none⟩) 1 1) (.slice (some ⟨W5.heap.size, 0, none⟩) 1 1) hc5
  have hbx5 := below5_ hbw5 (q := w.heap.size + 1) (Nat.le_succ _) (.string x) (.int .i64 kind) (.int .i64 9) (.slice (some ⟨w.heap.size + 2, 0, none⟩) 1 1) (.slice (some ⟨W5.heap.size, 0, none⟩) 1 1)
  have hsl6 := sldE_other hsl5 (fiveE_size W5 (w.heap.size + 1) (.string x) (.int .i64 kind) (.int .i64 9) (.slice (some ⟨w.heap.size + 2, 0, none⟩) 1 1) (.slice (some ⟨W5.heap.size, 0, none⟩) 1 1)) (fiveE_other W5 (w.heap.size + 1) (w.heap.size + 2) (by omega) (.string x) (.int .i64 kind) (.int .i64 9) (.slice (some ⟨w.heap.size + 2, 0, none⟩) 1 1) (.slice (some ⟨W5.heap.size, 0, none⟩) 1 1))
  have hsz6 := fiveE_eq W5 (w.heap.size + 1) (.string x) (.int .i64 kind) (.int .i64 9) (.slice (some ⟨w.heap.size + 2, 0, none⟩) 1 1) (.slice (some ⟨W5.heap.size, 0, none⟩) 1 1)
  obtain ⟨W6, hW6⟩ : ∃ W, ((((W5.setCell ⟨w.heap.size + 1, 0, none⟩ (.string x)).setCell ⟨w.heap.size + 1, 1, none⟩ (.int .i64 kind)).setCell ⟨w.heap.size + 1, 2, none⟩ (.int .i64 9)).setCell ⟨w.heap.size + 1, 3, none⟩ (.slice (some ⟨w.heap.size + 2, 0, none⟩) 1 1)).setCell ⟨w.heap.size + 1, 4, none⟩ (.slice (some ⟨W5.heap.size, 0, none⟩) 1 1) = W := ⟨_, rfl⟩
  rw [hW6] at hx5 hbx5 hsl6 hsz6
  have hb7 := bnewE W6 (.cells #[.string zone, .int .i64 n, .int .i64 1, .int .i64 0, .int .i64 100, .int .u64 sm] 49)
  have hx := (hb7.block (w.heap.size + 1) (by omega)).trans hx5
  have hbx := hbx5.trans (hb7.mono hbx5.size)
  have hsl7 := hsl6.keep hb7
  have hsg7 := slgE_new ⟨zone, n, 1, 0, 100, sm⟩ W6 49
  rw [hsz6] at hsg7
  have HW6 := Lib.hid hW6
  have g0 := cell_of_blk hg5 0 (.string zone) rfl
  have g1 := cell_of_blk hg5 1 (.int .i64 n) rfl
  have g2 := cell_of_blk hg5 2 (.int .i64 1) rfl
  have g3 := cell_of_blk hg5 3 (.int .i64 0) rfl
  have g4 := cell_of_blk hg5 4 (.int .i64 100) rfl
  have g5 := cell_of_blk hg5 5 (.int .u64 sm) rfl
  replace e0 := cell_of_blk hs5 0 (.string x) rfl
  replace e1 := cell_of_blk hs5 1 (.int .i64 kind) rfl
  replace e2 := cell_of_blk hs5 2 (.int .i64 9) rfl
  replace e3 := cell_of_blk hs5 3 (.slice (some ⟨w.heap.size + 2, 0, none⟩) 1 1) rfl
  have q0 := cell_of_blk hc5 0 (.string ⟨#[]⟩) rfl
  have q1 := cell_of_blk hc5 1 (.int .i64 0) rfl
  have q2 := cell_of_blk hc5 2 (.int .i64 0) rfl
  have q3 := cell_of_blk hc5 3 (.slice none 0 0) rfl
  have q4 := cell_of_blk hc5 4 (.slice none 0 0) rfl
  have hq : w.heap.size + 1 < W5.heap.size := by omega
  have hz5' : W5.heap.size = w4.heap.size + 1 := hz5
  have HX := Lib.hid hx
  have HBX := Lib.hid hbx
  have HD7 := Lib.hid hsl7
  have HG7 := Lib.hid hsg7
  have rf0 := frozen_of_blk hc5 0
  have rf1 := frozen_of_blk hc5 1
  have rf2 := frozen_of_blk hc5 2
  have rf3 := frozen_of_blk hc5 3
  have rf4 := frozen_of_blk hc5 4
  have HW5 := Lib.hid hW5
  clear hW5 hW6 hx hbx hsl7 hsg7 hb7 hsz6 hsl6 hbx5 hx5 hsl5 hbw5 hc5 hs5 hb35 hz5' hg5 hb5 hz4 hz3 hz5 HW1 HW2 HW3 HC3 HS3 HSL CS
  go_wp2
  rw [HW6.out]
  trace_state
  have hx := HX.out
  have hbx := HBX.out
  have hd7 := HD7.out
  have hg7 := HG7.out
  generalize W6.alloc _ = W' at *
  have x0 := cell_of_blk hx 0 (.string x) rfl
  have x1 := cell_of_blk hx 1 (.int .i64 kind) rfl
  have x2 := cell_of_blk hx 2 (.int .i64 9) rfl
  have x3 := cell_of_blk hx 3 (.slice (some ⟨w.heap.size + 2, 0, none⟩) 1 1) rfl
  have x4 := cell_of_blk hx 4 (.slice (some ⟨W5.heap.size, 0, none⟩) 1 1) rfl
  refine bodyPost_ret (v := .agg #[.string x, .int .i64 kind, .int .i64 9, .slice (some ⟨w.heap.size + 2, 0, none⟩) 1 1, .slice (some ⟨W5.heap.size, 0, none⟩) 1 1]) (by simp [results, Tryd.f63, go_sem, x0, x1, x2, x3, x4]) rfl ?_
  refine ⟨⟨x, kind, 9, some ⟨w.heap.size + 2, 0, none⟩, 1, 1, some ⟨W5.heap.size, 0, none⟩, 1, 1, [d], [⟨zone, n, 1, 0, 100, sm⟩]⟩, rfl, ⟨rfl, rfl, rfl, ⟨⟨zone, n, 1, 0, 100, sm⟩, rfl, rfl, rfl, rfl, rfl, rfl, HCK.out⟩⟩, ⟨_, _, rfl, rfl, by omega, by omega⟩, ⟨⟨hx', fun e he => by rw [List.mem_singleton.1 he]; exact hd', hd7⟩, by simp [maxLen], hg7, fun e he => by rw [List.mem_singleton.1 he]; exact hz', by simp [maxLen]⟩, hbx⟩
end Go.Proofs.YtkhckgknldiheaaDoor
