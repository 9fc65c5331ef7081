/- The contract of follow of package trust; no condition beyond those that each theorem names. -/
import Derived.Test.YtkhckgknldiheaaDoorFP
import Derived.BigRegionIn
import Derived.RegionIn
import Derived.WalkMore
namespace Go.Proofs.YtkhckgknldiheaaDoor
set_option linter.unusedSimpArgs false
set_option linter.unusedVariables false
open Go.RowKit Go.Shelf
open NmP SpP
attribute [local go_sem] Oper.semAt_some

/-- Keys in a slice whose block is not before B. -/
def SlQ (B : Nat) (v : Value) (l : List Sp) (W : World) : Prop := (l = [] ∧ ∃ p c, v = .slice p 0 c) ∨ ∃ b off c, v = .slice (some ⟨b, off, none⟩) l.length c ∧ B ≤ b ∧ b < W.heap.size ∧ RS b off l W
theorem SlQ.sl {B : Nat} {v : Value} {l : List Sp} {W : World} (h : SlQ B v l W) : SlS v l W := by
  rcases h with h | ⟨b, off, c, h1, h2, h3, h4⟩
  · exact .inl h
  · exact .inr ⟨b, off, c, h1, h3, h4⟩
theorem SlQ.keep {B : Nat} {v : Value} {l : List Sp} {W W' : World} (h : SlQ B v l W) (hb : Below W.heap.size W W') : SlQ B v l W' := by
  rcases h with h | ⟨b, off, c, h1, h2, h3, h4⟩
  · exact .inl h
  · exact .inr ⟨b, off, c, h1, h2, Nat.lt_of_lt_of_le h3 hb.size, h4.keep h3 hb⟩
theorem SlQ.set {B : Nat} {v : Value} {l : List Sp} {W : World} (h : SlQ B v l W) {b j : Nat} (hb : b < B) (u : Value) : SlQ B v l (W.setCell ⟨b, j, none⟩ u) := by
  rcases h with h | ⟨b', off, c, h1, h2, h3, h4⟩
  · exact .inl h
  · exact .inr ⟨b', off, c, h1, h2, by simpa using h3, fun m x hm => by rw [World.cell?_of_block (heap_setCell_other W ⟨b, j, none⟩ b' u (by simp only; omega))]; exact h4 m x hm⟩
theorem SlQ.own {B : Nat} {v : Value} {l : List Sp} {W W' : World} {row : Option Nat} (h : SlQ B v l W) (hg : W.grownBy W' row) (hr : ∀ r, row = some r → ∃ o : Obj, W.heap[r]? = some o ∧ o.isCells = false) : SlQ B v l W' := by
  rcases h with h | ⟨b, off, c, h1, h2, h3, h4⟩
  · exact .inl h
  · exact .inr ⟨b, off, c, h1, h2, Nat.lt_of_lt_of_le h3 hg.size, fun m u hm => cell_own (h4 m u hm) hg hr⟩
theorem OwnK.slq {B B' : Nat} {v : Value} {l : List Sp} {w : World} (h : OwnK B v l w) (hB : B' ≤ B) : SlQ B' v l w := by
  obtain ⟨h0, h1⟩ := h
  rcases h1 with ⟨rfl, h2⟩ | ⟨g, cap, cur, rfl, h2, h3, h4, h5, h6, h7⟩
  · exact .inl ⟨List.length_eq_zero_iff.1 h2, none, 0, rfl⟩
  · refine .inr ⟨g, 0, cap, rfl, by omega, (Array.getElem?_eq_some_iff.1 h3).1, fun m u hm => ?_⟩
    rw [Nat.zero_add]
    rw [← h7, List.getElem?_take] at hm
    split at hm
    · exact cell_of_blk h3 m u (by simpa using hm)
    · cases hm
/-- What follow returns. -/
def DownTo (R : FR) (w : World) (e : Ending) (w' : World) : Prop := (match R with
  | .run keys _ => ∃ v, e = .returned (.tuple #[v, .agg #[.string ⟨#[]⟩, .int .i64 0], .int .i64 0]) ∧ SlS v keys w' ∧ keys.length ≤ 8
  | .miss z => e = .returned (.tuple #[.slice none 0 0, .agg #[.string z, .int .i64 7], .int .i64 4])
  | .bad => e = .returned (.tuple #[.slice none 0 0, .agg #[.string ⟨#[]⟩, .int .i64 0], .int .i64 31])) ∧ Below w.heap.size w w'
/-- What the loop of follow keeps. -/
def FI (known : List Sd) (root : St) (t d : Int) (w : World) (KV : Value) (L : List Stp) (pre : List (Mst L)) (W : World) : Prop :=
  (∃ keys ab kv, atF known root t d (pre.map (·.1)) = .run keys ab ∧ FB w.heap.size KV root.x root.typ root.life root.v t d kv ⟨#[]⟩ 0 0 ab W ∧ SlQ (w.heap.size + 10) kv keys W ∧ keys.length ≤ 8) ∧ Below w.heap.size w W ∧ w.heap.size + 10 ≤ W.heap.size
/-- How the loop of follow is left. -/
def FX (known : List Sd) (root : St) (t d : Int) (w : World) (KV : Value) (L : List Stp) (c : Code) (pre : List (Mst L)) (W : World) : Prop :=
  (c = .exit 0 ∧ ∃ kv ab qz qt e, FB w.heap.size KV root.x root.typ root.life root.v t d kv qz qt e ab W ∧ ((e = 31 ∧ qz = ⟨#[]⟩ ∧ qt = 0 ∧ atF known root t d (pre.map (·.1)) = .bad) ∨ (e = 4 ∧ qt = 7 ∧ atF known root t d (pre.map (·.1)) = .miss qz))) ∧ Below w.heap.size w W ∧ w.heap.size + 10 ≤ W.heap.size
theorem fb_own {B : Nat} {KV : Value} {rx : ByteArray} {rt rl : Int} {RV : Value} {t d : Int} {kv : Value} {qz : ByteArray} {qt e : Int} {ab : ByteArray} {W W' : World} {row : Option Nat} (h : FB B KV rx rt rl RV t d kv qz qt e ab W) (hg : W.grownBy W' row) {D : Nat} (hD : B + 9 ≤ D) (hr : ∀ r, row = some r → D ≤ r) : FB B KV rx rt rl RV t d kv qz qt e ab W' :=
  h.keep fun k hk => hg.block k (by have := h.lt; omega) (fun e => by have := hr _ e.symm; omega)
theorem fi_own (known : List Sd) (root : St) (t d : Int) (w : World) (KV : Value) (L : List Stp) (D : Nat) (hD : w.heap.size + 10 ≤ D) : OwnFrom D (FI known root t d w KV L) := by
  intro s X Y row hs hg hr
  obtain ⟨⟨keys, ab, kv, h1, h2, h3, h4⟩, h5, h6⟩ := hs
  exact ⟨⟨keys, ab, kv, h1, fb_own h2 hg (by omega) (fun r e => (hr r e).1), h3.own hg (fun r e => (hr r e).2), h4⟩, ownFrom_below (β := Unit) (n₀ := w.heap.size) (w₀ := w) (Nat.le_refl _) (by omega) () X Y row h5 hg hr, Nat.le_trans h6 hg.size⟩
theorem fx_own (known : List Sd) (root : St) (t d : Int) (w : World) (KV : Value) (L : List Stp) (D : Nat) (hD : w.heap.size + 10 ≤ D) (c : Code) : OwnFrom D (FX known root t d w KV L c) := by
  intro s X Y row hs hg hr
  obtain ⟨⟨h0, kv, ab, qz, qt, e, h1, h2⟩, h5, h6⟩ := hs
  exact ⟨⟨h0, kv, ab, qz, qt, e, fb_own h1 hg (by omega) (fun r e => (hr r e).1), h2⟩, ownFrom_below (β := Unit) (n₀ := w.heap.size) (w₀ := w) (Nat.le_refl _) (by omega) () X Y row h5 hg hr, Nat.le_trans h6 hg.size⟩
theorem FB.drew {B : Nat} {KV : Value} {rx : ByteArray} {rt rl : Int} {RV : Value} {t d : Int} {kv : Value} {qz : ByteArray} {qt e : Int} {ab : ByteArray} {W : World} (h : FB B KV rx rt rl RV t d kv qz qt e ab W) : FB B KV rx rt rl RV t d kv qz qt e ab W.drew := h.keep (fun k _ => rfl)
theorem SlQ.drew {B : Nat} {v : Value} {l : List Sp} {W : World} (h : SlQ B v l W) : SlQ B v l W.drew := h
/-- A step, behind the signature. -/
def stepG (known : List Sd) (a : St) (t d : Int) (z : ByteArray) : FR := match findK known z 7 with
  | none => .miss z
  | some k => if matchB a k t d = true then .run (keysL k.l) z else .bad
theorem stepF_dot (known : List Sd) (root : St) (t d : Int) (s : Sd) (keys : List Sp) (ab : ByteArray) : stepF known root t d (dotB, s) keys ab = stepG known root t d dotB := by
  unfold stepF stepG
  simp only [decide_true, Bool.not_true, Bool.false_and, Bool.false_eq_true, if_false, if_true]
  cases findK known dotB 7 <;> rfl
theorem stepF_no {known : List Sd} {root : St} {t d : Int} {z : ByteArray} {s : Sd} {keys : List Sp} {ab : ByteArray} (hz : z ≠ dotB) (h : signedB s.st s.g ab keys t d = false) : stepF known root t d (z, s) keys ab = .bad := by
  unfold stepF
  rw [h]
  simp [hz]
theorem stepF_yes {known : List Sd} {root : St} {t d : Int} {z : ByteArray} {s : Sd} {keys : List Sp} {ab : ByteArray} (hz : z ≠ dotB) (h : signedB s.st s.g ab keys t d = true) : stepF known root t d (z, s) keys ab = stepG known s.st t d z := by
  unfold stepF stepG
  rw [h]
  simp only [hz, decide_false, Bool.not_false, Bool.true_and, Bool.not_true, Bool.false_eq_true, if_false]
  cases findK known z 7 <;> rfl
theorem stepG_none {known : List Sd} {a : St} {t d : Int} {z : ByteArray} (h : findK known z 7 = none) : stepG known a t d z = .miss z := by
  unfold stepG
  rw [h]
theorem stepG_no {known : List Sd} {a : St} {t d : Int} {z : ByteArray} {k : Sd} (h : findK known z 7 = some k) (hm : matchB a k t d = false) : stepG known a t d z = .bad := by
  unfold stepG
  rw [h]
  simp only
  rw [if_neg (by rw [hm]; simp)]
theorem stepG_yes {known : List Sd} {a : St} {t d : Int} {z : ByteArray} {k : Sd} (h : findK known z 7 = some k) (hm : matchB a k t d = true) : stepG known a t d z = .run (keysL k.l) z := by
  unfold stepG
  rw [h]
  simp only
  rw [if_pos hm]
theorem set4F {W : World} {q : Nat} {o0 o1 o2 o3 : Value} {t : TypeId} (a b c d : Value) (h : W.heap[q]? = some (Obj.cells #[o0, o1, o2, o3] t (0, 0))) :
    ((((W.setCell ⟨q, 0, none⟩ a).setCell ⟨q, 1, none⟩ b).setCell ⟨q, 2, none⟩ c).setCell ⟨q, 3, none⟩ d).heap[q]? = some (Obj.cells #[a, b, c, d] t (0, 0)) := by
  have h1 := heap_setCell_same W q 0 _ _ a h
  have h2 := heap_setCell_same _ q 1 _ _ b h1
  have h3 := heap_setCell_same _ q 2 _ _ c h2
  exact heap_setCell_same _ q 3 _ _ d h3

/-- The world in which the loop begins. -/
def folW (w : World) (KV : Value) (rx : ByteArray) (rt rl : Int) (RV : Value) (t d : Int) (SV : Value) : World :=
  ((((((((((w.alloc (.cells #[KV] 22)).alloc (.cells #[.string rx, .int .i64 rt, .int .i64 rl, RV] 25)).alloc (.cells #[.int .i64 t] 3)).alloc (.cells #[.int .i64 d] 3)).alloc (.cells #[.string ⟨#[]⟩, .int .i64 0] 30)).alloc (.cells #[.slice none 0 0] 26)).alloc (.cells #[.string ⟨#[]⟩, .int .i64 0] 30)).alloc (.cells #[.int .i64 0] 31)).alloc (.cells #[.string ⟨#[]⟩] 9)).alloc (.cells #[SV] 73))
set_option maxHeartbeats 1000000 in
theorem folW_fb (w : World) (KV : Value) (rx : ByteArray) (rt rl : Int) (RV : Value) (t d : Int) (SV : Value) : FB w.heap.size KV rx rt rl RV t d (.slice none 0 0) ⟨#[]⟩ 0 0 ⟨#[]⟩ (folW w KV rx rt rl RV t d SV) ∧ (folW w KV rx rt rl RV t d SV).heap[w.heap.size + 9]? = some (Obj.cells #[SV] 73 (0, 0)) ∧ (folW w KV rx rt rl RV t d SV).heap.size = w.heap.size + 10 ∧ Below w.heap.size w (folW w KV rx rt rl RV t d SV) := by
  unfold folW
  have h0 := Below.refl w.heap.size w
  have s0 : w.heap.size = w.heap.size := rfl
  obtain ⟨B, hB⟩ : ∃ B, w.heap.size = B := ⟨_, rfl⟩
  have b0 : Below B w w := Below.refl _ _
  rw [hB] at s0 h0 ⊢
  have n0 := heap_alloc_new w (.cells #[KV] 22)
  rw [hB] at n0
  have s1 : (w.alloc (.cells #[KV] 22)).heap.size = B + 1 := by rw [World.size_alloc, hB]
  have b1 := b0.alloc (by omega) (.cells #[KV] 22)
  generalize w.alloc (.cells #[KV] 22) = W1 at *
  have n1 := heap_alloc_new W1 (.cells #[.string rx, .int .i64 rt, .int .i64 rl, RV] 25)
  rw [s1] at n1
  replace n0 := (heap_alloc_old W1 (.cells #[.string rx, .int .i64 rt, .int .i64 rl, RV] 25) (by omega)).trans n0
  have s2 : (W1.alloc (.cells #[.string rx, .int .i64 rt, .int .i64 rl, RV] 25)).heap.size = B + 2 := by rw [World.size_alloc, s1]
  have b2 := b1.alloc (by omega) (.cells #[.string rx, .int .i64 rt, .int .i64 rl, RV] 25)
  generalize W1.alloc (.cells #[.string rx, .int .i64 rt, .int .i64 rl, RV] 25) = W2 at *
  have n2 := heap_alloc_new W2 (.cells #[.int .i64 t] 3)
  rw [s2] at n2
  replace n0 := (heap_alloc_old W2 (.cells #[.int .i64 t] 3) (by omega)).trans n0
  replace n1 := (heap_alloc_old W2 (.cells #[.int .i64 t] 3) (by omega)).trans n1
  have s3 : (W2.alloc (.cells #[.int .i64 t] 3)).heap.size = B + 3 := by rw [World.size_alloc, s2]
  have b3 := b2.alloc (by omega) (.cells #[.int .i64 t] 3)
  generalize W2.alloc (.cells #[.int .i64 t] 3) = W3 at *
  have n3 := heap_alloc_new W3 (.cells #[.int .i64 d] 3)
  rw [s3] at n3
  replace n0 := (heap_alloc_old W3 (.cells #[.int .i64 d] 3) (by omega)).trans n0
  replace n1 := (heap_alloc_old W3 (.cells #[.int .i64 d] 3) (by omega)).trans n1
  replace n2 := (heap_alloc_old W3 (.cells #[.int .i64 d] 3) (by omega)).trans n2
  have s4 : (W3.alloc (.cells #[.int .i64 d] 3)).heap.size = B + 4 := by rw [World.size_alloc, s3]
  have b4 := b3.alloc (by omega) (.cells #[.int .i64 d] 3)
  generalize W3.alloc (.cells #[.int .i64 d] 3) = W4 at *
  have n4 := heap_alloc_new W4 (.cells #[.string ⟨#[]⟩, .int .i64 0] 30)
  rw [s4] at n4
  replace n0 := (heap_alloc_old W4 (.cells #[.string ⟨#[]⟩, .int .i64 0] 30) (by omega)).trans n0
  replace n1 := (heap_alloc_old W4 (.cells #[.string ⟨#[]⟩, .int .i64 0] 30) (by omega)).trans n1
  replace n2 := (heap_alloc_old W4 (.cells #[.string ⟨#[]⟩, .int .i64 0] 30) (by omega)).trans n2
  replace n3 := (heap_alloc_old W4 (.cells #[.string ⟨#[]⟩, .int .i64 0] 30) (by omega)).trans n3
  have s5 : (W4.alloc (.cells #[.string ⟨#[]⟩, .int .i64 0] 30)).heap.size = B + 5 := by rw [World.size_alloc, s4]
  have b5 := b4.alloc (by omega) (.cells #[.string ⟨#[]⟩, .int .i64 0] 30)
  generalize W4.alloc (.cells #[.string ⟨#[]⟩, .int .i64 0] 30) = W5 at *
  have n5 := heap_alloc_new W5 (.cells #[.slice none 0 0] 26)
  rw [s5] at n5
  replace n0 := (heap_alloc_old W5 (.cells #[.slice none 0 0] 26) (by omega)).trans n0
  replace n1 := (heap_alloc_old W5 (.cells #[.slice none 0 0] 26) (by omega)).trans n1
  replace n2 := (heap_alloc_old W5 (.cells #[.slice none 0 0] 26) (by omega)).trans n2
  replace n3 := (heap_alloc_old W5 (.cells #[.slice none 0 0] 26) (by omega)).trans n3
  replace n4 := (heap_alloc_old W5 (.cells #[.slice none 0 0] 26) (by omega)).trans n4
  have s6 : (W5.alloc (.cells #[.slice none 0 0] 26)).heap.size = B + 6 := by rw [World.size_alloc, s5]
  have b6 := b5.alloc (by omega) (.cells #[.slice none 0 0] 26)
  generalize W5.alloc (.cells #[.slice none 0 0] 26) = W6 at *
  have n6 := heap_alloc_new W6 (.cells #[.string ⟨#[]⟩, .int .i64 0] 30)
  rw [s6] at n6
  replace n0 := (heap_alloc_old W6 (.cells #[.string ⟨#[]⟩, .int .i64 0] 30) (by omega)).trans n0
  replace n1 := (heap_alloc_old W6 (.cells #[.string ⟨#[]⟩, .int .i64 0] 30) (by omega)).trans n1
  replace n2 := (heap_alloc_old W6 (.cells #[.string ⟨#[]⟩, .int .i64 0] 30) (by omega)).trans n2
  replace n3 := (heap_alloc_old W6 (.cells #[.string ⟨#[]⟩, .int .i64 0] 30) (by omega)).trans n3
  replace n4 := (heap_alloc_old W6 (.cells #[.string ⟨#[]⟩, .int .i64 0] 30) (by omega)).trans n4
  replace n5 := (heap_alloc_old W6 (.cells #[.string ⟨#[]⟩, .int .i64 0] 30) (by omega)).trans n5
  have s7 : (W6.alloc (.cells #[.string ⟨#[]⟩, .int .i64 0] 30)).heap.size = B + 7 := by rw [World.size_alloc, s6]
  have b7 := b6.alloc (by omega) (.cells #[.string ⟨#[]⟩, .int .i64 0] 30)
  generalize W6.alloc (.cells #[.string ⟨#[]⟩, .int .i64 0] 30) = W7 at *
  have n7 := heap_alloc_new W7 (.cells #[.int .i64 0] 31)
  rw [s7] at n7
  replace n0 := (heap_alloc_old W7 (.cells #[.int .i64 0] 31) (by omega)).trans n0
  replace n1 := (heap_alloc_old W7 (.cells #[.int .i64 0] 31) (by omega)).trans n1
  replace n2 := (heap_alloc_old W7 (.cells #[.int .i64 0] 31) (by omega)).trans n2
  replace n3 := (heap_alloc_old W7 (.cells #[.int .i64 0] 31) (by omega)).trans n3
  replace n4 := (heap_alloc_old W7 (.cells #[.int .i64 0] 31) (by omega)).trans n4
  replace n5 := (heap_alloc_old W7 (.cells #[.int .i64 0] 31) (by omega)).trans n5
  replace n6 := (heap_alloc_old W7 (.cells #[.int .i64 0] 31) (by omega)).trans n6
  have s8 : (W7.alloc (.cells #[.int .i64 0] 31)).heap.size = B + 8 := by rw [World.size_alloc, s7]
  have b8 := b7.alloc (by omega) (.cells #[.int .i64 0] 31)
  generalize W7.alloc (.cells #[.int .i64 0] 31) = W8 at *
  have n8 := heap_alloc_new W8 (.cells #[.string ⟨#[]⟩] 9)
  rw [s8] at n8
  replace n0 := (heap_alloc_old W8 (.cells #[.string ⟨#[]⟩] 9) (by omega)).trans n0
  replace n1 := (heap_alloc_old W8 (.cells #[.string ⟨#[]⟩] 9) (by omega)).trans n1
  replace n2 := (heap_alloc_old W8 (.cells #[.string ⟨#[]⟩] 9) (by omega)).trans n2
  replace n3 := (heap_alloc_old W8 (.cells #[.string ⟨#[]⟩] 9) (by omega)).trans n3
  replace n4 := (heap_alloc_old W8 (.cells #[.string ⟨#[]⟩] 9) (by omega)).trans n4
  replace n5 := (heap_alloc_old W8 (.cells #[.string ⟨#[]⟩] 9) (by omega)).trans n5
  replace n6 := (heap_alloc_old W8 (.cells #[.string ⟨#[]⟩] 9) (by omega)).trans n6
  replace n7 := (heap_alloc_old W8 (.cells #[.string ⟨#[]⟩] 9) (by omega)).trans n7
  have s9 : (W8.alloc (.cells #[.string ⟨#[]⟩] 9)).heap.size = B + 9 := by rw [World.size_alloc, s8]
  have b9 := b8.alloc (by omega) (.cells #[.string ⟨#[]⟩] 9)
  generalize W8.alloc (.cells #[.string ⟨#[]⟩] 9) = W9 at *
  have n9 := heap_alloc_new W9 (.cells #[SV] 73)
  rw [s9] at n9
  replace n0 := (heap_alloc_old W9 (.cells #[SV] 73) (by omega)).trans n0
  replace n1 := (heap_alloc_old W9 (.cells #[SV] 73) (by omega)).trans n1
  replace n2 := (heap_alloc_old W9 (.cells #[SV] 73) (by omega)).trans n2
  replace n3 := (heap_alloc_old W9 (.cells #[SV] 73) (by omega)).trans n3
  replace n4 := (heap_alloc_old W9 (.cells #[SV] 73) (by omega)).trans n4
  replace n5 := (heap_alloc_old W9 (.cells #[SV] 73) (by omega)).trans n5
  replace n6 := (heap_alloc_old W9 (.cells #[SV] 73) (by omega)).trans n6
  replace n7 := (heap_alloc_old W9 (.cells #[SV] 73) (by omega)).trans n7
  replace n8 := (heap_alloc_old W9 (.cells #[SV] 73) (by omega)).trans n8
  have s10 : (W9.alloc (.cells #[SV] 73)).heap.size = B + 10 := by rw [World.size_alloc, s9]
  have b10 := b9.alloc (by omega) (.cells #[SV] 73)
  generalize W9.alloc (.cells #[SV] 73) = W10 at *
  exact ⟨⟨n0, n1, n2, n3, n4, n5, n6, n7, n8⟩, n9, s10, b10⟩

set_option maxHeartbeats 16000000 in
set_option maxRecDepth 100000 in
theorem follow_in (n : Nat) (hn : 4 ≤ n) (b off cap : Nat) (L : List Stp) (kv0 : Value) (known : List Sd) (root : St) (t d : Int) (w : World) (hb : b < w.heap.size) (hR : RTp b off L w) (hLin : ∀ s ∈ L, s.2.In w) (hL : L.length ≤ 100) (hk : SlK kv0 known w) (hkn : known.length ≤ maxLen) (hroot : root.In w) (hr : RulesAt w) :
    CallsIn Fence.wide n Tryd.prog 36 #[.slice (some ⟨b, off, none⟩) L.length cap, kv0, .agg #[.string root.x, .int .i64 root.typ, .int .i64 root.life, root.v], .int .i64 t, .int .i64 d] w (DownTo (downF known root t d L) w) := by
  obtain ⟨pk, ck, rfl⟩ := hk.form
  obtain ⟨pr, cr, hrv⟩ := hroot.hA.form
  obtain ⟨rx, rt, rl, rv, rd⟩ := root
  simp only at hrv
  subst hrv
  refine callsIn_of_wp_marks Tryd.func36 rfl trivial ?_ rfl
  simp only [Tryd.ntmps36, List.size_toArray, List.length_cons, List.length_nil, Nat.reduceAdd, Nat.reduceSub, Array.replicate_succ, Array.replicate_zero, List.push_toArray, List.append_toArray, List.nil_append, List.cons_append]
  refine wpIn_wide.2 ?_
  go_wp2
  go_step3
  go_wp2
  go_step3
  go_wp2_with (go_at_call 73; (with_reducible refine (backward_any _ _ _ _).mono ?_); rintro e w1 ⟨rfl, rfl⟩)
  have hsz : L.length ≤ 1000000 := by omega
  simp only [Nat.add_assoc, Nat.reduceAdd]
  generalize hW1 : World.alloc _ _ = W1
  obtain ⟨hF1, hB9, hS1, hBl1⟩ := folW_fb w (.slice pk known.length ck) rx rt rl (.slice pr rd.length cr) t d (.slice (some ⟨b, off, none⟩) L.length cap)
  rw [show folW w (.slice pk known.length ck) rx rt rl (.slice pr rd.length cr) t d (.slice (some ⟨b, off, none⟩) L.length cap) = W1 from hW1] at hF1 hB9 hS1 hBl1
  clear hW1
  have hbx := cell_of_blk hB9 0 (.slice (some ⟨b, off, none⟩) L.length cap) rfl
  have hst := backward_stops (n - 1) (by omega) (w.heap.size + 9) w.heap.size b off cap L hsz hb W1 (by omega) (by omega) hbx (hR.keepN hb hBl1)
  refine (wpIn_wide (n := n)).1 ?_
  refine wpIn_rangeFunc_ownH rfl (by omega) (gf := 91) (lb := #[.pointer (some ⟨w.heap.size + 9, 0, none⟩)]) rfl trivial (enters_of Tryd.func91 (by kernel_rfl) rfl)
    hst (fun h k => h.trans k) (fun W l o o' hl h h1 h2 => ⟨belowK_b (w := W1) (by omega) W l o o' hl h h1 h2, World.putObj_heap_other (by omega)⟩) (Below.refl _ _) (fun _ => rfl)
    (FI known ⟨rx, rt, rl, .slice pr rd.length cr, rd⟩ t d w (.slice pk known.length ck) L) (FX known ⟨rx, rt, rl, .slice pr rd.length cr, rd⟩ t d w (.slice pk known.length ck) L) (fi_own _ _ _ _ _ _ _ _ (by omega)) (fx_own _ _ _ _ _ _ _ _ (by omega))
    ⟨⟨[], ⟨#[]⟩, _, rfl, hF1, .inl ⟨rfl, none, 0, rfl⟩, Nat.zero_le _⟩, hBl1, by omega⟩
    (fun x a' W => ∃ By, w.heap.size + 10 ≤ By ∧ W.heap[By]? = some (Obj.cells #[.string x.1.2.1, .string x.1.2.2.x, .int .i64 x.1.2.2.t, .int .i64 x.1.2.2.f, .slice x.1.2.2.p x.1.2.2.n x.1.2.2.c, .slice x.1.2.2.q x.1.2.2.m x.1.2.2.d] 110 (0, 0)) ∧ a' = { tmps := #[.slice (some ⟨b, off, none⟩) L.length cap, .slice pk known.length ck, .agg #[.string rx, .int .i64 rt, .int .i64 rl, .slice pr rd.length cr], .int .i64 t, .int .i64 d, undef, .pointer (some ⟨w.heap.size, 0, none⟩), .pointer (some ⟨w.heap.size + 1, 0, none⟩), .pointer (some ⟨w.heap.size + 2, 0, none⟩), .pointer (some ⟨w.heap.size + 3, 0, none⟩), .slice none 0 0, .pointer (some ⟨w.heap.size + 4, 0, none⟩), .int .i64 0, .pointer (some ⟨w.heap.size + 5, 0, none⟩), .pointer (some ⟨w.heap.size + 6, 0, none⟩), .pointer (some ⟨w.heap.size + 7, 0, none⟩), .pointer (some ⟨w.heap.size + 8, 0, none⟩), undef, .pointer (some ⟨By, 0, none⟩), undef, undef, undef, undef, .slice (some ⟨b, off, none⟩) L.length cap, .func (.func 91) #[] #[.pointer (some ⟨w.heap.size + 9, 0, none⟩)], .int .i64 x.1.1, .agg #[.string x.1.2.1, .string x.1.2.2.x, .int .i64 x.1.2.2.t, .int .i64 x.1.2.2.f, .slice x.1.2.2.p x.1.2.2.n x.1.2.2.c, .slice x.1.2.2.q x.1.2.2.m x.1.2.2.d], undef, undef, undef, undef, undef, undef, undef, undef, undef, undef, undef, undef, undef, undef, undef, undef, undef, undef, undef, undef, undef, undef, undef, undef, undef, undef, undef, undef, undef, undef, undef, undef, undef, undef, undef, undef, undef, undef, undef, undef, undef, undef, undef, undef, undef, undef], defers := [] })
    (fun x a' u X Y row hs hg hr => by
      obtain ⟨By, h1, h2, h3⟩ := hs
      refine ⟨By, h1, (hg.block By (Array.getElem?_eq_some_iff.1 h2).1 (fun e => ?_)).trans h2, h3⟩
      obtain ⟨o, ho, hc⟩ := (hr By e.symm).2
      rw [h2] at ho
      cases ho
      cases hc)
    ?assign ?body ?done ?stop
  case assign =>
    rintro lk pre x W K hI hK
    have hBX := hI.2.2
    simp only [encI]
    gi_wp2
    exact hK _ _ ((KeepsOthers.alloc _ _).from _) ⟨(Below.refl _ W).alloc (by omega) _, heap_alloc_old W _ (by omega)⟩ (fi_own _ _ _ _ _ _ _ (w.heap.size + 10) (Nat.le_refl _) _ _ _ none hI (World.grownBy_alloc _ _ _) (fun r e => by cases e)) ⟨W.heap.size, hBX, heap_alloc_new W _, rfl⟩
  case body =>
    rintro lk pre x a' W hl hloop hI ⟨By, hBy, hX, rfl⟩ hlen
    obtain ⟨⟨keys, ab, kv, h1, h2, h3, h4⟩, h5, h6⟩ := hI
    obtain ⟨⟨xi, z, s⟩, hxm⟩ := x
    have hsin : s.In w := hLin (z, s) (mem_revI hxm)
    have hat : ∀ f, stepF known ⟨rx, rt, rl, .slice pr rd.length cr, rd⟩ t d (z, s) keys ab = f → atF known ⟨rx, rt, rl, .slice pr rd.length cr, rd⟩ t d ((pre ++ [(⟨(xi, z, s), hxm⟩ : Mst L)]).map (fun y => y.1)) = f := fun f hf => by
      rw [List.map_append]
      exact (atF_snoc (x := (xi, z, s)) h1).trans hf
    have CSG := Lib.hid (fun W' (hb : Below w.heap.size w W') (hk : SlS kv keys W') => signed_any s.st s.sv s.g ab kv keys t d W' (hsin.keep hb).hs (hr.keep hb) hk (hsin.keep hb).hg hsin.hz (by unfold maxLen; omega) hsin.hl)
    have CFI := Lib.hid (fun W' (hb : Below w.heap.size w W') => find_any (.slice pk known.length ck) known z 7 W' (hk.keep hb) hkn)
    have CMR := Lib.hid (fun k W' (hb : Below w.heap.size w W') (hm : k ∈ known) => match_any ⟨rx, rt, rl, .slice pr rd.length cr, rd⟩ k t d W' (hroot.keep hb) ((hk.2 k hm).keep hb) (hr.keep hb))
    have CMS := Lib.hid (fun k W' (hb : Below w.heap.size w W') (hm : k ∈ known) => match_any s.st k t d W' (hsin.keep hb).hs ((hk.2 k hm).keep hb) (hr.keep hb))
    have CKO := Lib.hid (fun k W' (hb : Below w.heap.size w W') (hm : k ∈ known) (h8 : k.l.length ≤ 8) => keysOf_any k.st W' ((hk.2 k hm).keep hb).hs (by show k.l.length ≤ 1000; omega))
    obtain ⟨p5, n5, c5, rfl⟩ : ∃ p n c, kv = .slice p n c := by
      obtain ⟨p, c, h⟩ := h3.sl.form
      exact ⟨_, _, _, h⟩
    have H2 := Lib.hid h2
    have H3 := Lib.hid h3
    have H4 := Lib.hid h4
    have H5 := Lib.hid h5
    have HX := Lib.hid hX
    have HAT := Lib.hid hat
    clear h1 h3 h4 h5 hat hst hbx hF1 hB9 hBl1 hR hroot hk hLin hr hloop hlen
    obtain ⟨x, ty, lf, sp, sn, sc, sq, sm, sd, dl, sg⟩ := s
    simp only [Sd.st, Sd.sv] at CSG CMS hX HX
    have c6 := cell_of_blk h2.h6 0 (.slice pk known.length ck) rfl
    have c70 := cell_of_blk h2.h7 0 (.string rx) rfl
    have c71 := cell_of_blk h2.h7 1 (.int .i64 rt) rfl
    have c72 := cell_of_blk h2.h7 2 (.int .i64 rl) rfl
    have c73 := cell_of_blk h2.h7 3 (.slice pr rd.length cr) rfl
    have c8 := cell_of_blk h2.h8 0 (.int .i64 t) rfl
    have c9 := cell_of_blk h2.h9 0 (.int .i64 d) rfl
    have c13 := cell_of_blk h2.h13 0 (.slice p5 n5 c5) rfl
    have c16 := cell_of_blk h2.h16 0 (.string ab) rfl
    have x0 := cell_of_blk hX 0 (.string z) rfl
    have x1 := cell_of_blk hX 1 (.string x) rfl
    have x2 := cell_of_blk hX 2 (.int .i64 ty) rfl
    have x3 := cell_of_blk hX 3 (.int .i64 lf) rfl
    have x4 := cell_of_blk hX 4 (.slice sp sn sc) rfl
    have x5 := cell_of_blk hX 5 (.slice sq sm sd) rfl
    have hByW : By < W.heap.size := (Array.getElem?_eq_some_iff.1 hX).1
    have l0 : w.heap.size < W.heap.size := by omega
    have l1 : w.heap.size + 1 < W.heap.size := by omega
    have l2 : w.heap.size + 2 < W.heap.size := by omega
    have l3 : w.heap.size + 3 < W.heap.size := by omega
    have l4 : w.heap.size + 4 < W.heap.size := by omega
    have l5 : w.heap.size + 5 < W.heap.size := by omega
    have l6 : w.heap.size + 6 < W.heap.size := by omega
    have l7 : w.heap.size + 7 < W.heap.size := by omega
    have l8 : w.heap.size + 8 < W.heap.size := by omega
    have l9 : w.heap.size + 9 < W.heap.size := by omega
    have h46 : (ByteArray.mk #[46]).toList = [46] := by rw [tl]
    have hn2 : 1 ≤ n - 1 - 1 := by omega
    clear h2 hX
    by_cases hzd : z = dotB
    · have f0 : (z.toList == [46]) = true := by rw [hzd, dot_list]; rfl
      have HS : Hid (stepF known ⟨rx, rt, rl, .slice pr rd.length cr, rd⟩ t d (z, ⟨x, ty, lf, sp, sn, sc, sq, sm, sd, dl, sg⟩) keys ab = stepG known ⟨rx, rt, rl, .slice pr rd.length cr, rd⟩ t d z) := Lib.hid (by rw [hzd]; exact stepF_dot _ _ _ _ _ _ _)
      clear hzd
      have RA : Hid (BR w.heap.size W (W.alloc (.cells #[.string rx, .int .i64 rt, .int .i64 rl, .slice pr rd.length cr] 25))) := Lib.hid ((BR.refl _ W).alloc h6 _)
      have BA : Hid (Below w.heap.size w (W.alloc (.cells #[.string rx, .int .i64 rt, .int .i64 rl, .slice pr rd.length cr] 25))) := Lib.hid (H5.out.trans RA.out.bel)
      have SA : Hid (SlQ (w.heap.size + 10) (.slice p5 n5 c5) keys (W.alloc (.cells #[.string rx, .int .i64 rt, .int .i64 rl, .slice pr rd.length cr] 25))) := Lib.hid (H3.out.keep ((Below.refl _ W).alloc (Nat.le_refl _) _))
      have HAA : Hid ((W.alloc (.cells #[.string rx, .int .i64 rt, .int .i64 rl, .slice pr rd.length cr] 25)).heap[W.heap.size]? = some (Obj.cells #[.string rx, .int .i64 rt, .int .i64 rl, .slice pr rd.length cr] 25 (0, 0))) := Lib.hid (heap_alloc_new W _)
      have H2A : Hid (FB w.heap.size (.slice pk known.length ck) rx rt rl (.slice pr rd.length cr) t d (.slice p5 n5 c5) ⟨#[]⟩ 0 0 ab (W.alloc (.cells #[.string rx, .int .i64 rt, .int .i64 rl, .slice pr rd.length cr] 25))) := Lib.hid (H2.out.below ((Below.refl _ W).alloc (Nat.le_refl _) _))
      have HXA : Hid ((W.alloc (.cells #[.string rx, .int .i64 rt, .int .i64 rl, .slice pr rd.length cr] 25)).heap[By]? = _) := Lib.hid ((heap_alloc_old W _ hByW).trans HX.out)
      have RQ : Hid (BR w.heap.size W ((W.alloc (.cells #[.string rx, .int .i64 rt, .int .i64 rl, .slice pr rd.length cr] 25)).alloc (.cells #[.string z, .int .i64 7] 30))) := Lib.hid (RA.out.alloc (by have := RA.out.ko.size; omega) _)
      have BQ : Hid (Below w.heap.size w ((W.alloc (.cells #[.string rx, .int .i64 rt, .int .i64 rl, .slice pr rd.length cr] 25)).alloc (.cells #[.string z, .int .i64 7] 30))) := Lib.hid (H5.out.trans RQ.out.bel)
      have hbaQ : Below (W.alloc (.cells #[.string rx, .int .i64 rt, .int .i64 rl, .slice pr rd.length cr] 25)).heap.size (W.alloc (.cells #[.string rx, .int .i64 rt, .int .i64 rl, .slice pr rd.length cr] 25)) ((W.alloc (.cells #[.string rx, .int .i64 rt, .int .i64 rl, .slice pr rd.length cr] 25)).alloc (.cells #[.string z, .int .i64 7] 30)) := (Below.refl _ (W.alloc (.cells #[.string rx, .int .i64 rt, .int .i64 rl, .slice pr rd.length cr] 25))).alloc (Nat.le_refl _) _
      have SQ := Lib.hid (SA.out.keep hbaQ)
      have HAQ : Hid (((W.alloc (.cells #[.string rx, .int .i64 rt, .int .i64 rl, .slice pr rd.length cr] 25)).alloc (.cells #[.string z, .int .i64 7] 30)).heap[W.heap.size]? = _) := Lib.hid ((hbaQ.block _ (Array.getElem?_eq_some_iff.1 HAA.out).1).trans HAA.out)
      have H2Q := Lib.hid (H2A.out.below hbaQ)
      have HXQ : Hid (((W.alloc (.cells #[.string rx, .int .i64 rt, .int .i64 rl, .slice pr rd.length cr] 25)).alloc (.cells #[.string z, .int .i64 7] 30)).heap[By]? = _) := Lib.hid ((hbaQ.block _ (Array.getElem?_eq_some_iff.1 HXA.out).1).trans HXA.out)
      have HQQ : Hid (((W.alloc (.cells #[.string rx, .int .i64 rt, .int .i64 rl, .slice pr rd.length cr] 25)).alloc (.cells #[.string z, .int .i64 7] 30)).heap[(W.alloc (.cells #[.string rx, .int .i64 rt, .int .i64 rl, .slice pr rd.length cr] 25)).heap.size]? = some (Obj.cells #[.string z, .int .i64 7] 30 (0, 0))) := Lib.hid (heap_alloc_new (W.alloc (.cells #[.string rx, .int .i64 rt, .int .i64 rl, .slice pr rd.length cr] 25)) _)
      obtain ⟨NQ, hNQ0⟩ : ∃ q, W.heap.size + 1 = q := ⟨_, rfl⟩
      have hNQ : (W.alloc (.cells #[.string rx, .int .i64 rt, .int .i64 rl, .slice pr rd.length cr] 25)).heap.size = NQ := by rw [World.size_alloc]; exact hNQ0
      rw [hNQ] at HQQ
      have HNQ := Lib.hid hNQ0
      clear hNQ hbaQ hNQ0
      have CF := CFI.out _ BQ.out
      unfold FstS at CF
      obtain ⟨Fd, hF⟩ : ∃ F, findK known z 7 = F := ⟨_, rfl⟩
      rw [hF] at CF
      cases Fd with
      | none =>
        have HR : Hid (atF known ⟨rx, rt, rl, .slice pr rd.length cr, rd⟩ t d ((pre ++ [(⟨(xi, z, ⟨x, ty, lf, sp, sn, sc, sq, sm, sd, dl, sg⟩), hxm⟩ : Mst L)]).map (fun y => y.1)) = .miss z) := Lib.hid (HAT.out _ (HS.out.trans (stepG_none hF)))
        unfold fstV at CF
        simp only at CF
        have HCF := Lib.hid CF
        clear CF hF
        gi_wp2_with (refine ⟨trivial, ?_⟩; gi_at_call 72; fail)
        refine ⟨trivial, ?_⟩
        refine (CallsIn.inRound lk (callsIn_wide.2 HCF.out)).mono ?_
        rintro e w2 ⟨rfl, hb⟩
        have R2 : Hid (BR w.heap.size W w2) := Lib.hid (RQ.out.trans (BR.of_below hb (by have := RQ.out.ko.size; omega)))
        have B2 : Hid (Below w.heap.size w w2) := Lib.hid (H5.out.trans R2.out.bel)
        have S2 := Lib.hid (SQ.out.keep hb)
        have HA2 := Lib.hid ((hb.block _ (Array.getElem?_eq_some_iff.1 HAQ.out).1).trans HAQ.out)
        have H22 := Lib.hid (H2Q.out.below hb)
        have HX2 := Lib.hid ((hb.block _ (Array.getElem?_eq_some_iff.1 HXQ.out).1).trans HXQ.out)
        have HQ2 := Lib.hid ((hb.block _ (Array.getElem?_eq_some_iff.1 HQQ.out).1).trans HQQ.out)
        clear hb
        have R3 : Hid (BR w.heap.size W (w2.alloc (.cells #[.string ⟨#[]⟩, .int .i64 0, .int .i64 0, .slice none 0 0, .slice none 0 0] 37))) := Lib.hid (R2.out.alloc (by have := R2.out.ko.size; omega) _)
        have B3 : Hid (Below w.heap.size w (w2.alloc (.cells #[.string ⟨#[]⟩, .int .i64 0, .int .i64 0, .slice none 0 0, .slice none 0 0] 37))) := Lib.hid (H5.out.trans R3.out.bel)
        have hba3 : Below w2.heap.size w2 (w2.alloc (.cells #[.string ⟨#[]⟩, .int .i64 0, .int .i64 0, .slice none 0 0, .slice none 0 0] 37)) := (Below.refl _ w2).alloc (Nat.le_refl _) _
        have S3 := Lib.hid (S2.out.keep hba3)
        have HA3 : Hid ((w2.alloc (.cells #[.string ⟨#[]⟩, .int .i64 0, .int .i64 0, .slice none 0 0, .slice none 0 0] 37)).heap[W.heap.size]? = _) := Lib.hid ((hba3.block _ (Array.getElem?_eq_some_iff.1 HA2.out).1).trans HA2.out)
        have H23 := Lib.hid (H22.out.below hba3)
        have HX3 : Hid ((w2.alloc (.cells #[.string ⟨#[]⟩, .int .i64 0, .int .i64 0, .slice none 0 0, .slice none 0 0] 37)).heap[By]? = _) := Lib.hid ((hba3.block _ (Array.getElem?_eq_some_iff.1 HX2.out).1).trans HX2.out)
        have HQ3 : Hid ((w2.alloc (.cells #[.string ⟨#[]⟩, .int .i64 0, .int .i64 0, .slice none 0 0, .slice none 0 0] 37)).heap[NQ]? = _) := Lib.hid ((hba3.block _ (Array.getElem?_eq_some_iff.1 HQ2.out).1).trans HQ2.out)
        have e15 := cell_of_blk H23.out.h15 0 (.int .i64 0) rfl
        have e15f := frozen_of_blk H23.out.h15 0
        have m0 := cell_of_blk H23.out.h14 0 (.string ⟨#[]⟩) rfl
        have m1 := cell_of_blk H23.out.h14 1 (.int .i64 0) rfl
        have mf0 := frozen_of_blk H23.out.h14 0
        have mf1 := frozen_of_blk H23.out.h14 1
        have q0 := cell_of_blk HQ3.out 0 (.string z) rfl
        have q1 := cell_of_blk HQ3.out 1 (.int .i64 7) rfl
        rw [HNQ.out]
        clear l0 l1 l2 l3 l4 l5 l6 l7 l8 l9 c6 c70 c71 c72 c73 c8 c9 c13 c16 x0 x1 x2 x3 x4 x5
        gi_wp2
        clear hba3
        generalize w2.alloc _ = W3 at *
        have hq10 : w.heap.size + 10 ≤ NQ := by have := HNQ.out; have := RA.out.ko.size; omega
        have hq7 : NQ ≠ w.heap.size + 7 := by omega
        have hq6 : NQ ≠ w.heap.size + 6 := by omega
        have hq7' : w.heap.size + 7 ≠ NQ := by omega
        have hq6' : w.heap.size + 6 ≠ NQ := by omega
        have hmx : Tryd.prog.follows .mixedOrders = true := by kernel_rfl
        gi_region_with_o (fail)
        all_goals gi_wp2
        all_goals
          refine ⟨((((R3.out.setCell (b := w.heap.size + 7) (j := 0) (by omega) (by omega) (.int .i64 4)).setCell (b := w.heap.size + 6) (j := 0) (by omega) (by omega) (.string z)).setCell (b := w.heap.size + 6) (j := 1) (by omega) (by omega) (.int .i64 7)).drew).ko.from _, ⟨rfl, _, _, _, _, _, ((H23.out.setE 4).setQ z 7).drew, .inr ⟨rfl, rfl, HR.out⟩⟩, H5.out.trans ((((R3.out.setCell (b := w.heap.size + 7) (j := 0) (by omega) (by omega) (.int .i64 4)).setCell (b := w.heap.size + 6) (j := 0) (by omega) (by omega) (.string z)).setCell (b := w.heap.size + 6) (j := 1) (by omega) (by omega) (.int .i64 7)).drew).bel, ?_⟩
          have := R3.out.ko.size
          show w.heap.size + 10 ≤ (((W3.setCell ⟨w.heap.size + 7, 0, none⟩ (.int .i64 4)).setCell ⟨w.heap.size + 6, 0, none⟩ (.string z)).setCell ⟨w.heap.size + 6, 1, none⟩ (.int .i64 7)).heap.size
          simp only [World.size_setCell]
          omega
      | some k =>
        have hmem : k ∈ known := List.mem_of_find?_eq_some hF
        have hok8 : matchB ⟨rx, rt, rl, .slice pr rd.length cr, rd⟩ k t d = true → k.l.length ≤ 8 := fun h => by
          unfold matchB at h
          simp only [Bool.and_eq_true] at h
          exact (ok_len h.1.1.1.1.2).2
        obtain ⟨mb, hmb⟩ : ∃ b, matchB ⟨rx, rt, rl, .slice pr rd.length cr, rd⟩ k t d = b := ⟨_, rfl⟩
        have CMK := Lib.hid (fun W' (hb : Below w.heap.size w W') => (by have q := CMR.out k W' hb hmem; rw [hmb] at q; exact q : Calls Tryd.prog 16 #[.agg #[.string rx, .int .i64 rt, .int .i64 rl, .slice pr rd.length cr], .agg #[.string k.x, .int .i64 k.t, .int .i64 k.f, .slice k.p k.n k.c, .slice k.q k.m k.d], .int .i64 t, .int .i64 d] W' fun e w' => e = .returned (.bool mb) ∧ Below W'.heap.size W' w'))
        have CKK := Lib.hid (fun W' (hb : Below w.heap.size w W') h8 => CKO.out k W' hb hmem h8)
        have HRB : Hid (mb = false → atF known ⟨rx, rt, rl, .slice pr rd.length cr, rd⟩ t d ((pre ++ [(⟨(xi, z, ⟨x, ty, lf, sp, sn, sc, sq, sm, sd, dl, sg⟩), hxm⟩ : Mst L)]).map (fun y => y.1)) = .bad) := Lib.hid (fun h => HAT.out _ (HS.out.trans (stepG_no hF (hmb.trans h))))
        have HRG : Hid (mb = true → atF known ⟨rx, rt, rl, .slice pr rd.length cr, rd⟩ t d ((pre ++ [(⟨(xi, z, ⟨x, ty, lf, sp, sn, sc, sq, sm, sd, dl, sg⟩), hxm⟩ : Mst L)]).map (fun y => y.1)) = .run (keysL k.l) z ∧ k.l.length ≤ 8) := Lib.hid (fun h => ⟨HAT.out _ (HS.out.trans (stepG_yes hF (hmb.trans h))), hok8 (hmb.trans h)⟩)
        unfold fstV at CF
        simp only at CF
        have HCF := Lib.hid CF
        clear CF hF hok8 hmb
        unfold KeysTo at CKK
        obtain ⟨kx, kt, kf, kp, kn, kc, kq, km, kd, kl, kg⟩ := k
        simp only [Sd.st] at CMK CKK HRG HCF
        gi_wp2_with (refine ⟨trivial, ?_⟩; gi_at_call 72; fail)
        refine ⟨trivial, ?_⟩
        refine (CallsIn.inRound lk (callsIn_wide.2 HCF.out)).mono ?_
        rintro e w2 ⟨rfl, hb⟩
        have R2 : Hid (BR w.heap.size W w2) := Lib.hid (RQ.out.trans (BR.of_below hb (by have := RQ.out.ko.size; omega)))
        have B2 : Hid (Below w.heap.size w w2) := Lib.hid (H5.out.trans R2.out.bel)
        have S2 := Lib.hid (SQ.out.keep hb)
        have HA2 := Lib.hid ((hb.block _ (Array.getElem?_eq_some_iff.1 HAQ.out).1).trans HAQ.out)
        have H22 := Lib.hid (H2Q.out.below hb)
        have HX2 := Lib.hid ((hb.block _ (Array.getElem?_eq_some_iff.1 HXQ.out).1).trans HXQ.out)
        clear hb
        have R3 : Hid (BR w.heap.size W (w2.alloc (.cells #[.string kx, .int .i64 kt, .int .i64 kf, .slice kp kn kc, .slice kq km kd] 37))) := Lib.hid (R2.out.alloc (by have := R2.out.ko.size; omega) _)
        have B3 : Hid (Below w.heap.size w (w2.alloc (.cells #[.string kx, .int .i64 kt, .int .i64 kf, .slice kp kn kc, .slice kq km kd] 37))) := Lib.hid (H5.out.trans R3.out.bel)
        have hba3 : Below w2.heap.size w2 (w2.alloc (.cells #[.string kx, .int .i64 kt, .int .i64 kf, .slice kp kn kc, .slice kq km kd] 37)) := (Below.refl _ w2).alloc (Nat.le_refl _) _
        have S3 := Lib.hid (S2.out.keep hba3)
        have HA3 : Hid ((w2.alloc (.cells #[.string kx, .int .i64 kt, .int .i64 kf, .slice kp kn kc, .slice kq km kd] 37)).heap[W.heap.size]? = _) := Lib.hid ((hba3.block _ (Array.getElem?_eq_some_iff.1 HA2.out).1).trans HA2.out)
        have H23 := Lib.hid (H22.out.below hba3)
        have HX3 : Hid ((w2.alloc (.cells #[.string kx, .int .i64 kt, .int .i64 kf, .slice kp kn kc, .slice kq km kd] 37)).heap[By]? = _) := Lib.hid ((hba3.block _ (Array.getElem?_eq_some_iff.1 HX2.out).1).trans HX2.out)
        have HK3 : Hid ((w2.alloc (.cells #[.string kx, .int .i64 kt, .int .i64 kf, .slice kp kn kc, .slice kq km kd] 37)).heap[w2.heap.size]? = some (Obj.cells #[.string kx, .int .i64 kt, .int .i64 kf, .slice kp kn kc, .slice kq km kd] 37 (0, 0))) := Lib.hid (heap_alloc_new w2 _)
        clear l0 l1 l2 l3 l4 l5 l6 l7 l8 l9 c6 c70 c71 c72 c73 c8 c9 c13 c16 x0 x1 x2 x3 x4 x5 hByW hba3
        have c6 := cell_of_blk H23.out.h6 0 (.slice pk known.length ck) rfl
        have c70 := cell_of_blk H23.out.h7 0 (.string rx) rfl
        have c71 := cell_of_blk H23.out.h7 1 (.int .i64 rt) rfl
        have c72 := cell_of_blk H23.out.h7 2 (.int .i64 rl) rfl
        have c73 := cell_of_blk H23.out.h7 3 (.slice pr rd.length cr) rfl
        have c8 := cell_of_blk H23.out.h8 0 (.int .i64 t) rfl
        have c9 := cell_of_blk H23.out.h9 0 (.int .i64 d) rfl
        have c13 := cell_of_blk H23.out.h13 0 (.slice p5 n5 c5) rfl
        have c16 := cell_of_blk H23.out.h16 0 (.string ab) rfl
        have x0 := cell_of_blk HX3.out 0 (.string z) rfl
        have x1 := cell_of_blk HX3.out 1 (.string x) rfl
        have x2 := cell_of_blk HX3.out 2 (.int .i64 ty) rfl
        have x3 := cell_of_blk HX3.out 3 (.int .i64 lf) rfl
        have x4 := cell_of_blk HX3.out 4 (.slice sp sn sc) rfl
        have x5 := cell_of_blk HX3.out 5 (.slice sq sm sd) rfl
        have a0 := cell_of_blk HA3.out 0 (.string rx) rfl
        have a1 := cell_of_blk HA3.out 1 (.int .i64 rt) rfl
        have a2 := cell_of_blk HA3.out 2 (.int .i64 rl) rfl
        have a3 := cell_of_blk HA3.out 3 (.slice pr rd.length cr) rfl
        have l0 : w.heap.size < (w2.alloc (.cells #[.string kx, .int .i64 kt, .int .i64 kf, .slice kp kn kc, .slice kq km kd] 37)).heap.size := (by have := R3.out.ko.size; omega)
        have l1 : w.heap.size + 1 < (w2.alloc (.cells #[.string kx, .int .i64 kt, .int .i64 kf, .slice kp kn kc, .slice kq km kd] 37)).heap.size := (by have := R3.out.ko.size; omega)
        have l2 : w.heap.size + 2 < (w2.alloc (.cells #[.string kx, .int .i64 kt, .int .i64 kf, .slice kp kn kc, .slice kq km kd] 37)).heap.size := (by have := R3.out.ko.size; omega)
        have l3 : w.heap.size + 3 < (w2.alloc (.cells #[.string kx, .int .i64 kt, .int .i64 kf, .slice kp kn kc, .slice kq km kd] 37)).heap.size := (by have := R3.out.ko.size; omega)
        have l4 : w.heap.size + 4 < (w2.alloc (.cells #[.string kx, .int .i64 kt, .int .i64 kf, .slice kp kn kc, .slice kq km kd] 37)).heap.size := (by have := R3.out.ko.size; omega)
        have l5 : w.heap.size + 5 < (w2.alloc (.cells #[.string kx, .int .i64 kt, .int .i64 kf, .slice kp kn kc, .slice kq km kd] 37)).heap.size := (by have := R3.out.ko.size; omega)
        have l6 : w.heap.size + 6 < (w2.alloc (.cells #[.string kx, .int .i64 kt, .int .i64 kf, .slice kp kn kc, .slice kq km kd] 37)).heap.size := (by have := R3.out.ko.size; omega)
        have l7 : w.heap.size + 7 < (w2.alloc (.cells #[.string kx, .int .i64 kt, .int .i64 kf, .slice kp kn kc, .slice kq km kd] 37)).heap.size := (by have := R3.out.ko.size; omega)
        have l8 : w.heap.size + 8 < (w2.alloc (.cells #[.string kx, .int .i64 kt, .int .i64 kf, .slice kp kn kc, .slice kq km kd] 37)).heap.size := (by have := R3.out.ko.size; omega)
        have l9 : w.heap.size + 9 < (w2.alloc (.cells #[.string kx, .int .i64 kt, .int .i64 kf, .slice kp kn kc, .slice kq km kd] 37)).heap.size := (by have := R3.out.ko.size; omega)
        have hByW := (Array.getElem?_eq_some_iff.1 HX3.out).1
        have hAW := (Array.getElem?_eq_some_iff.1 HA3.out).1
        rw [HNQ.out]
        gi_wp2_with (refine ⟨trivial, ?_⟩; gi_at_call 16; fail)
        refine ⟨trivial, ?_⟩
        refine (CallsIn.inRound lk (callsIn_wide.2 (CMK.out _ B3.out))).mono ?_
        rintro e w4 ⟨rfl, hb⟩
        have R4 : Hid (BR w.heap.size W w4) := Lib.hid (R3.out.trans (BR.of_below hb (by have := R3.out.ko.size; omega)))
        have B4 : Hid (Below w.heap.size w w4) := Lib.hid (H5.out.trans R4.out.bel)
        have S4 := Lib.hid (S3.out.keep hb)
        have HA4 := Lib.hid ((hb.block _ (Array.getElem?_eq_some_iff.1 HA3.out).1).trans HA3.out)
        have H24 := Lib.hid (H23.out.below hb)
        have HX4 := Lib.hid ((hb.block _ (Array.getElem?_eq_some_iff.1 HX3.out).1).trans HX3.out)
        have HK4 := Lib.hid ((hb.block _ (Array.getElem?_eq_some_iff.1 HK3.out).1).trans HK3.out)
        clear hb
        clear c6 c70 c71 c72 c73 c8 c9 c13 c16 x0 x1 x2 x3 x4 x5 l0 l1 l2 l3 l4 l5 l6 l7 l8 l9 hByW a0 a1 a2 a3 hAW
        have c6 := cell_of_blk H24.out.h6 0 (.slice pk known.length ck) rfl
        have c70 := cell_of_blk H24.out.h7 0 (.string rx) rfl
        have c71 := cell_of_blk H24.out.h7 1 (.int .i64 rt) rfl
        have c72 := cell_of_blk H24.out.h7 2 (.int .i64 rl) rfl
        have c73 := cell_of_blk H24.out.h7 3 (.slice pr rd.length cr) rfl
        have c8 := cell_of_blk H24.out.h8 0 (.int .i64 t) rfl
        have c9 := cell_of_blk H24.out.h9 0 (.int .i64 d) rfl
        have c13 := cell_of_blk H24.out.h13 0 (.slice p5 n5 c5) rfl
        have c16 := cell_of_blk H24.out.h16 0 (.string ab) rfl
        have x0 := cell_of_blk HX4.out 0 (.string z) rfl
        have x1 := cell_of_blk HX4.out 1 (.string x) rfl
        have x2 := cell_of_blk HX4.out 2 (.int .i64 ty) rfl
        have x3 := cell_of_blk HX4.out 3 (.int .i64 lf) rfl
        have x4 := cell_of_blk HX4.out 4 (.slice sp sn sc) rfl
        have x5 := cell_of_blk HX4.out 5 (.slice sq sm sd) rfl
        have a0 := cell_of_blk HA4.out 0 (.string rx) rfl
        have a1 := cell_of_blk HA4.out 1 (.int .i64 rt) rfl
        have a2 := cell_of_blk HA4.out 2 (.int .i64 rl) rfl
        have a3 := cell_of_blk HA4.out 3 (.slice pr rd.length cr) rfl
        have l0 : w.heap.size < w4.heap.size := (by have := R4.out.ko.size; omega)
        have l1 : w.heap.size + 1 < w4.heap.size := (by have := R4.out.ko.size; omega)
        have l2 : w.heap.size + 2 < w4.heap.size := (by have := R4.out.ko.size; omega)
        have l3 : w.heap.size + 3 < w4.heap.size := (by have := R4.out.ko.size; omega)
        have l4 : w.heap.size + 4 < w4.heap.size := (by have := R4.out.ko.size; omega)
        have l5 : w.heap.size + 5 < w4.heap.size := (by have := R4.out.ko.size; omega)
        have l6 : w.heap.size + 6 < w4.heap.size := (by have := R4.out.ko.size; omega)
        have l7 : w.heap.size + 7 < w4.heap.size := (by have := R4.out.ko.size; omega)
        have l8 : w.heap.size + 8 < w4.heap.size := (by have := R4.out.ko.size; omega)
        have l9 : w.heap.size + 9 < w4.heap.size := (by have := R4.out.ko.size; omega)
        have hByW := (Array.getElem?_eq_some_iff.1 HX4.out).1
        have hAW := (Array.getElem?_eq_some_iff.1 HA4.out).1
        have e15 := cell_of_blk H24.out.h15 0 (.int .i64 0) rfl
        have e15f := frozen_of_blk H24.out.h15 0
        have k0 := cell_of_blk HK4.out 0 (.string kx) rfl
        have k1 := cell_of_blk HK4.out 1 (.int .i64 kt) rfl
        have k2 := cell_of_blk HK4.out 2 (.int .i64 kf) rfl
        have k3 := cell_of_blk HK4.out 3 (.slice kp kn kc) rfl
        have k4 := cell_of_blk HK4.out 4 (.slice kq km kd) rfl
        have c13f := frozen_of_blk H24.out.h13 0
        have c16f := frozen_of_blk H24.out.h16 0
        have hmx : Tryd.prog.follows .mixedOrders = true := by kernel_rfl
        cases mb
        · have HR := Lib.hid (HRB.out rfl)
          gi_wp2
          refine ⟨(R4.out.setCell (b := w.heap.size + 7) (j := 0) (by omega) (by omega) (.int .i64 31)).ko.from _, ⟨rfl, _, _, _, _, _, H24.out.setE 31, .inl ⟨rfl, rfl, rfl, HR.out⟩⟩, H5.out.trans (R4.out.setCell (b := w.heap.size + 7) (j := 0) (by omega) (by omega) (.int .i64 31)).bel, ?_⟩
          have := R4.out.ko.size
          simp only [World.size_setCell]
          omega
        · obtain ⟨hrg, h8⟩ := HRG.out rfl
          have HR := Lib.hid hrg
          have BD4 : Hid (Below w.heap.size w w4.drew) := Lib.hid (below_drewN B4.out 1)
          clear hrg
          gi_wp2
          gi_region_with_o (refine ⟨trivial, ?_⟩; gi_at_call 40; refine (CallsIn.inRound lk (callsIn_wide.2 (CKK.out _ BD4.out h8))).mono ?_; rintro e w5 ⟨v5, rfl, ho, hb⟩; replace hb : Below w4.heap.size w4 w5 := (below_drewN (Below.refl _ w4) 1).trans hb; obtain ⟨p6, c6', hv5⟩ := ho.sl.form; subst hv5; have R5 : Hid (BR w.heap.size W w5) := Lib.hid (R4.out.trans (BR.of_below hb (by have := R4.out.ko.size; omega))); have B5 : Hid (Below w.heap.size w w5) := Lib.hid (H5.out.trans R5.out.bel); have S5 := Lib.hid (S4.out.keep hb); have HA5 := Lib.hid ((hb.block _ (Array.getElem?_eq_some_iff.1 HA4.out).1).trans HA4.out); have H25 := Lib.hid (H24.out.below hb); have HX5 := Lib.hid ((hb.block _ (Array.getElem?_eq_some_iff.1 HX4.out).1).trans HX4.out); have HO5 := Lib.hid (OwnK.slq (B' := w.heap.size + 10) ho (by have := R4.out.ko.size; show w.heap.size + 10 ≤ w4.heap.size; omega)); clear hb ho; clear c6 c70 c71 c72 c73 c8 c9 c13 c16 x0 x1 x2 x3 x4 x5 l0 l1 l2 l3 l4 l5 l6 l7 l8 l9 hByW a0 a1 a2 a3 hAW k0 k1 k2 k3 k4 e15 e15f c13f c16f; have x0 := cell_of_blk HX5.out 0 (.string z) rfl; have c13 := cell_of_blk H25.out.h13 0 (.slice p5 n5 c5) rfl; have c16 := cell_of_blk H25.out.h16 0 (.string ab) rfl; have c13f := frozen_of_blk H25.out.h13 0; have c16f := frozen_of_blk H25.out.h16 0)
          all_goals gi_wp2
          all_goals
            refine ⟨(((R5.out.setCell (b := w.heap.size + 5) (j := 0) (by omega) (by omega) (.slice p6 (keysL kl).length c6')).setCell (b := w.heap.size + 8) (j := 0) (by omega) (by omega) (.string z))).ko.from _, ⟨(((R5.out.setCell (b := w.heap.size + 5) (j := 0) (by omega) (by omega) (.slice p6 (keysL kl).length c6')).setCell (b := w.heap.size + 8) (j := 0) (by omega) (by omega) (.string z))).bel, (((R5.out.setCell (b := w.heap.size + 5) (j := 0) (by omega) (by omega) (.slice p6 (keysL kl).length c6')).setCell (b := w.heap.size + 8) (j := 0) (by omega) (by omega) (.string z))).bx⟩, ⟨keysL kl, z, _, HR.out, ((H25.out.setK _).setA z), ((HO5.out.set (b := w.heap.size + 5) (by omega) _).set (b := w.heap.size + 8) (by omega) _), by unfold keysL; rw [List.length_map]; exact h8⟩, H5.out.trans (((R5.out.setCell (b := w.heap.size + 5) (j := 0) (by omega) (by omega) (.slice p6 (keysL kl).length c6')).setCell (b := w.heap.size + 8) (j := 0) (by omega) (by omega) (.string z))).bel, ?_⟩
            have := R5.out.ko.size
            show w.heap.size + 10 ≤ ((w5.setCell ⟨w.heap.size + 5, 0, none⟩ (.slice p6 (keysL kl).length c6')).setCell ⟨w.heap.size + 8, 0, none⟩ (.string z)).heap.size
            simp only [World.size_setCell]
            omega
    · have f0 : (z.toList == [46]) = false := by
        rw [beq_eq_false_iff_ne]
        intro h
        exact hzd (ba_eqT (h.trans dot_list.symm))
      have RA : Hid (BR w.heap.size W (W.alloc (.cells #[.string x, .int .i64 ty, .int .i64 lf, .slice sp sn sc] 25))) := Lib.hid ((BR.refl _ W).alloc h6 _)
      have BA : Hid (Below w.heap.size w (W.alloc (.cells #[.string x, .int .i64 ty, .int .i64 lf, .slice sp sn sc] 25))) := Lib.hid (H5.out.trans RA.out.bel)
      have SA : Hid (SlQ (w.heap.size + 10) (.slice p5 n5 c5) keys (W.alloc (.cells #[.string x, .int .i64 ty, .int .i64 lf, .slice sp sn sc] 25))) := Lib.hid (H3.out.keep ((Below.refl _ W).alloc (Nat.le_refl _) _))
      have HAA : Hid ((W.alloc (.cells #[.string x, .int .i64 ty, .int .i64 lf, .slice sp sn sc] 25)).heap[W.heap.size]? = some (Obj.cells #[.string x, .int .i64 ty, .int .i64 lf, .slice sp sn sc] 25 (0, 0))) := Lib.hid (heap_alloc_new W _)
      have H2A : Hid (FB w.heap.size (.slice pk known.length ck) rx rt rl (.slice pr rd.length cr) t d (.slice p5 n5 c5) ⟨#[]⟩ 0 0 ab (W.alloc (.cells #[.string x, .int .i64 ty, .int .i64 lf, .slice sp sn sc] 25))) := Lib.hid (H2.out.below ((Below.refl _ W).alloc (Nat.le_refl _) _))
      have HXA : Hid ((W.alloc (.cells #[.string x, .int .i64 ty, .int .i64 lf, .slice sp sn sc] 25)).heap[By]? = _) := Lib.hid ((heap_alloc_old W _ hByW).trans HX.out)
      obtain ⟨sb, hsb⟩ : ∃ b, signedB ⟨x, ty, lf, .slice sp sn sc, dl⟩ sg ab keys t d = b := ⟨_, rfl⟩
      rw [hsb] at CSG
      cases sb
      · have HR : Hid (atF known ⟨rx, rt, rl, .slice pr rd.length cr, rd⟩ t d ((pre ++ [(⟨(xi, z, ⟨x, ty, lf, sp, sn, sc, sq, sm, sd, dl, sg⟩), hxm⟩ : Mst L)]).map (fun y => y.1)) = .bad) := Lib.hid (HAT.out _ (stepF_no hzd hsb))
        clear hsb
        gi_wp2_with (refine ⟨trivial, ?_⟩; gi_at_call 18; refine (CallsIn.inRound lk (callsIn_wide.2 (CSG.out _ BA.out SA.out.sl))).mono ?_; rintro e w1 ⟨rfl, hb⟩; have R1 : Hid (BR w.heap.size W w1) := Lib.hid (RA.out.trans (BR.of_below hb (by have := RA.out.ko.size; omega))); have B1 : Hid (Below w.heap.size w w1) := Lib.hid (H5.out.trans R1.out.bel); have S1 := Lib.hid (SA.out.keep hb); have HA1 := Lib.hid ((hb.block _ (Array.getElem?_eq_some_iff.1 HAA.out).1).trans HAA.out); have H21 := Lib.hid (H2A.out.below hb); have HX1 := Lib.hid ((hb.block _ (Array.getElem?_eq_some_iff.1 HXA.out).1).trans HXA.out); clear hb; clear c6 c70 c71 c72 c73 c8 c9 c13 c16 x0 x1 x2 x3 x4 x5 l0 l1 l2 l3 l4 l5 l6 l7 l8 l9 hByW; have c6 := cell_of_blk H21.out.h6 0 (.slice pk known.length ck) rfl; have c70 := cell_of_blk H21.out.h7 0 (.string rx) rfl; have c71 := cell_of_blk H21.out.h7 1 (.int .i64 rt) rfl; have c72 := cell_of_blk H21.out.h7 2 (.int .i64 rl) rfl; have c73 := cell_of_blk H21.out.h7 3 (.slice pr rd.length cr) rfl; have c8 := cell_of_blk H21.out.h8 0 (.int .i64 t) rfl; have c9 := cell_of_blk H21.out.h9 0 (.int .i64 d) rfl; have c13 := cell_of_blk H21.out.h13 0 (.slice p5 n5 c5) rfl; have c16 := cell_of_blk H21.out.h16 0 (.string ab) rfl; have x0 := cell_of_blk HX1.out 0 (.string z) rfl; have x1 := cell_of_blk HX1.out 1 (.string x) rfl; have x2 := cell_of_blk HX1.out 2 (.int .i64 ty) rfl; have x3 := cell_of_blk HX1.out 3 (.int .i64 lf) rfl; have x4 := cell_of_blk HX1.out 4 (.slice sp sn sc) rfl; have x5 := cell_of_blk HX1.out 5 (.slice sq sm sd) rfl; have a0 := cell_of_blk HA1.out 0 (.string x) rfl; have a1 := cell_of_blk HA1.out 1 (.int .i64 ty) rfl; have a2 := cell_of_blk HA1.out 2 (.int .i64 lf) rfl; have a3 := cell_of_blk HA1.out 3 (.slice sp sn sc) rfl; have l0 : w.heap.size < w1.heap.size := (by have := R1.out.ko.size; omega); have l1 : w.heap.size + 1 < w1.heap.size := (by have := R1.out.ko.size; omega); have l2 : w.heap.size + 2 < w1.heap.size := (by have := R1.out.ko.size; omega); have l3 : w.heap.size + 3 < w1.heap.size := (by have := R1.out.ko.size; omega); have l4 : w.heap.size + 4 < w1.heap.size := (by have := R1.out.ko.size; omega); have l5 : w.heap.size + 5 < w1.heap.size := (by have := R1.out.ko.size; omega); have l6 : w.heap.size + 6 < w1.heap.size := (by have := R1.out.ko.size; omega); have l7 : w.heap.size + 7 < w1.heap.size := (by have := R1.out.ko.size; omega); have l8 : w.heap.size + 8 < w1.heap.size := (by have := R1.out.ko.size; omega); have l9 : w.heap.size + 9 < w1.heap.size := (by have := R1.out.ko.size; omega); have hByW := (Array.getElem?_eq_some_iff.1 HX1.out).1; have hAW := (Array.getElem?_eq_some_iff.1 HA1.out).1; have e15 := cell_of_blk H21.out.h15 0 (.int .i64 0) rfl; have e15f := frozen_of_blk H21.out.h15 0)
        refine ⟨(R1.out.setCell (b := w.heap.size + 7) (j := 0) (by omega) (by omega) (.int .i64 31)).ko.from _, ⟨rfl, _, _, _, _, _, H21.out.setE 31, .inl ⟨rfl, rfl, rfl, HR.out⟩⟩, H5.out.trans (R1.out.setCell (b := w.heap.size + 7) (j := 0) (by omega) (by omega) (.int .i64 31)).bel, ?_⟩
        have := R1.out.ko.size
        simp only [World.size_setCell]
        omega
      · have HS := Lib.hid (stepF_yes (known := known) (root := ⟨rx, rt, rl, .slice pr rd.length cr, rd⟩) (s := ⟨x, ty, lf, sp, sn, sc, sq, sm, sd, dl, sg⟩) hzd hsb)
        clear hsb
        gi_wp2_with (refine ⟨trivial, ?_⟩; gi_at_call 18; fail)
        refine ⟨trivial, ?_⟩
        refine (CallsIn.inRound lk (callsIn_wide.2 (CSG.out _ BA.out SA.out.sl))).mono ?_
        rintro e w1 ⟨rfl, hb⟩
        have R1 : Hid (BR w.heap.size W w1) := Lib.hid (RA.out.trans (BR.of_below hb (by have := RA.out.ko.size; omega)))
        have B1 : Hid (Below w.heap.size w w1) := Lib.hid (H5.out.trans R1.out.bel)
        have S1 := Lib.hid (SA.out.keep hb)
        have HA1 := Lib.hid ((hb.block _ (Array.getElem?_eq_some_iff.1 HAA.out).1).trans HAA.out)
        have H21 := Lib.hid (H2A.out.below hb)
        have HX1 := Lib.hid ((hb.block _ (Array.getElem?_eq_some_iff.1 HXA.out).1).trans HXA.out)
        clear hb
        clear c6 c70 c71 c72 c73 c8 c9 c13 c16 x0 x1 x2 x3 x4 x5 l0 l1 l2 l3 l4 l5 l6 l7 l8 l9 hByW
        have c6 := cell_of_blk H21.out.h6 0 (.slice pk known.length ck) rfl
        have c70 := cell_of_blk H21.out.h7 0 (.string rx) rfl
        have c71 := cell_of_blk H21.out.h7 1 (.int .i64 rt) rfl
        have c72 := cell_of_blk H21.out.h7 2 (.int .i64 rl) rfl
        have c73 := cell_of_blk H21.out.h7 3 (.slice pr rd.length cr) rfl
        have c8 := cell_of_blk H21.out.h8 0 (.int .i64 t) rfl
        have c9 := cell_of_blk H21.out.h9 0 (.int .i64 d) rfl
        have c13 := cell_of_blk H21.out.h13 0 (.slice p5 n5 c5) rfl
        have c16 := cell_of_blk H21.out.h16 0 (.string ab) rfl
        have x0 := cell_of_blk HX1.out 0 (.string z) rfl
        have x1 := cell_of_blk HX1.out 1 (.string x) rfl
        have x2 := cell_of_blk HX1.out 2 (.int .i64 ty) rfl
        have x3 := cell_of_blk HX1.out 3 (.int .i64 lf) rfl
        have x4 := cell_of_blk HX1.out 4 (.slice sp sn sc) rfl
        have x5 := cell_of_blk HX1.out 5 (.slice sq sm sd) rfl
        have a0 := cell_of_blk HA1.out 0 (.string x) rfl
        have a1 := cell_of_blk HA1.out 1 (.int .i64 ty) rfl
        have a2 := cell_of_blk HA1.out 2 (.int .i64 lf) rfl
        have a3 := cell_of_blk HA1.out 3 (.slice sp sn sc) rfl
        have l0 : w.heap.size < w1.heap.size := (by have := R1.out.ko.size; omega)
        have l1 : w.heap.size + 1 < w1.heap.size := (by have := R1.out.ko.size; omega)
        have l2 : w.heap.size + 2 < w1.heap.size := (by have := R1.out.ko.size; omega)
        have l3 : w.heap.size + 3 < w1.heap.size := (by have := R1.out.ko.size; omega)
        have l4 : w.heap.size + 4 < w1.heap.size := (by have := R1.out.ko.size; omega)
        have l5 : w.heap.size + 5 < w1.heap.size := (by have := R1.out.ko.size; omega)
        have l6 : w.heap.size + 6 < w1.heap.size := (by have := R1.out.ko.size; omega)
        have l7 : w.heap.size + 7 < w1.heap.size := (by have := R1.out.ko.size; omega)
        have l8 : w.heap.size + 8 < w1.heap.size := (by have := R1.out.ko.size; omega)
        have l9 : w.heap.size + 9 < w1.heap.size := (by have := R1.out.ko.size; omega)
        have hByW := (Array.getElem?_eq_some_iff.1 HX1.out).1
        have hAW := (Array.getElem?_eq_some_iff.1 HA1.out).1
        have RQ : Hid (BR w.heap.size W (w1.alloc (.cells #[.string z, .int .i64 7] 30))) := Lib.hid (R1.out.alloc (by have := R1.out.ko.size; omega) _)
        have BQ : Hid (Below w.heap.size w (w1.alloc (.cells #[.string z, .int .i64 7] 30))) := Lib.hid (H5.out.trans RQ.out.bel)
        have hbaQ : Below w1.heap.size w1 (w1.alloc (.cells #[.string z, .int .i64 7] 30)) := (Below.refl _ w1).alloc (Nat.le_refl _) _
        have SQ := Lib.hid (S1.out.keep hbaQ)
        have HAQ : Hid ((w1.alloc (.cells #[.string z, .int .i64 7] 30)).heap[W.heap.size]? = _) := Lib.hid ((hbaQ.block _ (Array.getElem?_eq_some_iff.1 HA1.out).1).trans HA1.out)
        have H2Q := Lib.hid (H21.out.below hbaQ)
        have HXQ : Hid ((w1.alloc (.cells #[.string z, .int .i64 7] 30)).heap[By]? = _) := Lib.hid ((hbaQ.block _ (Array.getElem?_eq_some_iff.1 HX1.out).1).trans HX1.out)
        have HQQ : Hid ((w1.alloc (.cells #[.string z, .int .i64 7] 30)).heap[w1.heap.size]? = some (Obj.cells #[.string z, .int .i64 7] 30 (0, 0))) := Lib.hid (heap_alloc_new w1 _)
        obtain ⟨NQ, hNQ⟩ : ∃ q, w1.heap.size = q := ⟨_, rfl⟩
        rw [hNQ] at HQQ
        have HNQ := Lib.hid hNQ
        clear hNQ hbaQ
        have CF := CFI.out _ BQ.out
        unfold FstS at CF
        obtain ⟨Fd, hF⟩ : ∃ F, findK known z 7 = F := ⟨_, rfl⟩
        rw [hF] at CF
        cases Fd with
        | none =>
          have HR : Hid (atF known ⟨rx, rt, rl, .slice pr rd.length cr, rd⟩ t d ((pre ++ [(⟨(xi, z, ⟨x, ty, lf, sp, sn, sc, sq, sm, sd, dl, sg⟩), hxm⟩ : Mst L)]).map (fun y => y.1)) = .miss z) := Lib.hid (HAT.out _ (HS.out.trans (stepG_none hF)))
          unfold fstV at CF
          simp only at CF
          have HCF := Lib.hid CF
          clear CF hF
          gi_wp2_with (refine ⟨trivial, ?_⟩; gi_at_call 72; fail)
          refine ⟨trivial, ?_⟩
          refine (CallsIn.inRound lk (callsIn_wide.2 HCF.out)).mono ?_
          rintro e w2 ⟨rfl, hb⟩
          have R2 : Hid (BR w.heap.size W w2) := Lib.hid (RQ.out.trans (BR.of_below hb (by have := RQ.out.ko.size; omega)))
          have B2 : Hid (Below w.heap.size w w2) := Lib.hid (H5.out.trans R2.out.bel)
          have S2 := Lib.hid (SQ.out.keep hb)
          have HA2 := Lib.hid ((hb.block _ (Array.getElem?_eq_some_iff.1 HAQ.out).1).trans HAQ.out)
          have H22 := Lib.hid (H2Q.out.below hb)
          have HX2 := Lib.hid ((hb.block _ (Array.getElem?_eq_some_iff.1 HXQ.out).1).trans HXQ.out)
          have HQ2 := Lib.hid ((hb.block _ (Array.getElem?_eq_some_iff.1 HQQ.out).1).trans HQQ.out)
          clear hb
          have R3 : Hid (BR w.heap.size W (w2.alloc (.cells #[.string ⟨#[]⟩, .int .i64 0, .int .i64 0, .slice none 0 0, .slice none 0 0] 37))) := Lib.hid (R2.out.alloc (by have := R2.out.ko.size; omega) _)
          have B3 : Hid (Below w.heap.size w (w2.alloc (.cells #[.string ⟨#[]⟩, .int .i64 0, .int .i64 0, .slice none 0 0, .slice none 0 0] 37))) := Lib.hid (H5.out.trans R3.out.bel)
          have hba3 : Below w2.heap.size w2 (w2.alloc (.cells #[.string ⟨#[]⟩, .int .i64 0, .int .i64 0, .slice none 0 0, .slice none 0 0] 37)) := (Below.refl _ w2).alloc (Nat.le_refl _) _
          have S3 := Lib.hid (S2.out.keep hba3)
          have HA3 : Hid ((w2.alloc (.cells #[.string ⟨#[]⟩, .int .i64 0, .int .i64 0, .slice none 0 0, .slice none 0 0] 37)).heap[W.heap.size]? = _) := Lib.hid ((hba3.block _ (Array.getElem?_eq_some_iff.1 HA2.out).1).trans HA2.out)
          have H23 := Lib.hid (H22.out.below hba3)
          have HX3 : Hid ((w2.alloc (.cells #[.string ⟨#[]⟩, .int .i64 0, .int .i64 0, .slice none 0 0, .slice none 0 0] 37)).heap[By]? = _) := Lib.hid ((hba3.block _ (Array.getElem?_eq_some_iff.1 HX2.out).1).trans HX2.out)
          have HQ3 : Hid ((w2.alloc (.cells #[.string ⟨#[]⟩, .int .i64 0, .int .i64 0, .slice none 0 0, .slice none 0 0] 37)).heap[NQ]? = _) := Lib.hid ((hba3.block _ (Array.getElem?_eq_some_iff.1 HQ2.out).1).trans HQ2.out)
          have e15 := cell_of_blk H23.out.h15 0 (.int .i64 0) rfl
          have e15f := frozen_of_blk H23.out.h15 0
          have m0 := cell_of_blk H23.out.h14 0 (.string ⟨#[]⟩) rfl
          have m1 := cell_of_blk H23.out.h14 1 (.int .i64 0) rfl
          have mf0 := frozen_of_blk H23.out.h14 0
          have mf1 := frozen_of_blk H23.out.h14 1
          have q0 := cell_of_blk HQ3.out 0 (.string z) rfl
          have q1 := cell_of_blk HQ3.out 1 (.int .i64 7) rfl
          rw [HNQ.out]
          clear l0 l1 l2 l3 l4 l5 l6 l7 l8 l9 c6 c70 c71 c72 c73 c8 c9 c13 c16 x0 x1 x2 x3 x4 x5
          gi_wp2
          clear hba3
          generalize w2.alloc _ = W3 at *
          have hq10 : w.heap.size + 10 ≤ NQ := by have := HNQ.out; have := R1.out.ko.size; omega
          have hq7 : NQ ≠ w.heap.size + 7 := by omega
          have hq6 : NQ ≠ w.heap.size + 6 := by omega
          have hq7' : w.heap.size + 7 ≠ NQ := by omega
          have hq6' : w.heap.size + 6 ≠ NQ := by omega
          have hmx : Tryd.prog.follows .mixedOrders = true := by kernel_rfl
          gi_region_with_o (fail)
          all_goals gi_wp2
          all_goals
            refine ⟨((((R3.out.setCell (b := w.heap.size + 7) (j := 0) (by omega) (by omega) (.int .i64 4)).setCell (b := w.heap.size + 6) (j := 0) (by omega) (by omega) (.string z)).setCell (b := w.heap.size + 6) (j := 1) (by omega) (by omega) (.int .i64 7)).drew).ko.from _, ⟨rfl, _, _, _, _, _, ((H23.out.setE 4).setQ z 7).drew, .inr ⟨rfl, rfl, HR.out⟩⟩, H5.out.trans ((((R3.out.setCell (b := w.heap.size + 7) (j := 0) (by omega) (by omega) (.int .i64 4)).setCell (b := w.heap.size + 6) (j := 0) (by omega) (by omega) (.string z)).setCell (b := w.heap.size + 6) (j := 1) (by omega) (by omega) (.int .i64 7)).drew).bel, ?_⟩
            have := R3.out.ko.size
            show w.heap.size + 10 ≤ (((W3.setCell ⟨w.heap.size + 7, 0, none⟩ (.int .i64 4)).setCell ⟨w.heap.size + 6, 0, none⟩ (.string z)).setCell ⟨w.heap.size + 6, 1, none⟩ (.int .i64 7)).heap.size
            simp only [World.size_setCell]
            omega
        | some k =>
          have hmem : k ∈ known := List.mem_of_find?_eq_some hF
          have hok8 : matchB ⟨x, ty, lf, .slice sp sn sc, dl⟩ k t d = true → k.l.length ≤ 8 := fun h => by
            unfold matchB at h
            simp only [Bool.and_eq_true] at h
            exact (ok_len h.1.1.1.1.2).2
          obtain ⟨mb, hmb⟩ : ∃ b, matchB ⟨x, ty, lf, .slice sp sn sc, dl⟩ k t d = b := ⟨_, rfl⟩
          have CMK := Lib.hid (fun W' (hb : Below w.heap.size w W') => (by have q := CMS.out k W' hb hmem; rw [hmb] at q; exact q : Calls Tryd.prog 16 #[.agg #[.string x, .int .i64 ty, .int .i64 lf, .slice sp sn sc], .agg #[.string k.x, .int .i64 k.t, .int .i64 k.f, .slice k.p k.n k.c, .slice k.q k.m k.d], .int .i64 t, .int .i64 d] W' fun e w' => e = .returned (.bool mb) ∧ Below W'.heap.size W' w'))
          have CKK := Lib.hid (fun W' (hb : Below w.heap.size w W') h8 => CKO.out k W' hb hmem h8)
          have HRB : Hid (mb = false → atF known ⟨rx, rt, rl, .slice pr rd.length cr, rd⟩ t d ((pre ++ [(⟨(xi, z, ⟨x, ty, lf, sp, sn, sc, sq, sm, sd, dl, sg⟩), hxm⟩ : Mst L)]).map (fun y => y.1)) = .bad) := Lib.hid (fun h => HAT.out _ (HS.out.trans (stepG_no hF (hmb.trans h))))
          have HRG : Hid (mb = true → atF known ⟨rx, rt, rl, .slice pr rd.length cr, rd⟩ t d ((pre ++ [(⟨(xi, z, ⟨x, ty, lf, sp, sn, sc, sq, sm, sd, dl, sg⟩), hxm⟩ : Mst L)]).map (fun y => y.1)) = .run (keysL k.l) z ∧ k.l.length ≤ 8) := Lib.hid (fun h => ⟨HAT.out _ (HS.out.trans (stepG_yes hF (hmb.trans h))), hok8 (hmb.trans h)⟩)
          unfold fstV at CF
          simp only at CF
          have HCF := Lib.hid CF
          clear CF hF hok8 hmb
          unfold KeysTo at CKK
          obtain ⟨kx, kt, kf, kp, kn, kc, kq, km, kd, kl, kg⟩ := k
          simp only [Sd.st] at CMK CKK HRG HCF
          gi_wp2_with (refine ⟨trivial, ?_⟩; gi_at_call 72; fail)
          refine ⟨trivial, ?_⟩
          refine (CallsIn.inRound lk (callsIn_wide.2 HCF.out)).mono ?_
          rintro e w2 ⟨rfl, hb⟩
          have R2 : Hid (BR w.heap.size W w2) := Lib.hid (RQ.out.trans (BR.of_below hb (by have := RQ.out.ko.size; omega)))
          have B2 : Hid (Below w.heap.size w w2) := Lib.hid (H5.out.trans R2.out.bel)
          have S2 := Lib.hid (SQ.out.keep hb)
          have HA2 := Lib.hid ((hb.block _ (Array.getElem?_eq_some_iff.1 HAQ.out).1).trans HAQ.out)
          have H22 := Lib.hid (H2Q.out.below hb)
          have HX2 := Lib.hid ((hb.block _ (Array.getElem?_eq_some_iff.1 HXQ.out).1).trans HXQ.out)
          clear hb
          have R3 : Hid (BR w.heap.size W (w2.alloc (.cells #[.string kx, .int .i64 kt, .int .i64 kf, .slice kp kn kc, .slice kq km kd] 37))) := Lib.hid (R2.out.alloc (by have := R2.out.ko.size; omega) _)
          have B3 : Hid (Below w.heap.size w (w2.alloc (.cells #[.string kx, .int .i64 kt, .int .i64 kf, .slice kp kn kc, .slice kq km kd] 37))) := Lib.hid (H5.out.trans R3.out.bel)
          have hba3 : Below w2.heap.size w2 (w2.alloc (.cells #[.string kx, .int .i64 kt, .int .i64 kf, .slice kp kn kc, .slice kq km kd] 37)) := (Below.refl _ w2).alloc (Nat.le_refl _) _
          have S3 := Lib.hid (S2.out.keep hba3)
          have HA3 : Hid ((w2.alloc (.cells #[.string kx, .int .i64 kt, .int .i64 kf, .slice kp kn kc, .slice kq km kd] 37)).heap[W.heap.size]? = _) := Lib.hid ((hba3.block _ (Array.getElem?_eq_some_iff.1 HA2.out).1).trans HA2.out)
          have H23 := Lib.hid (H22.out.below hba3)
          have HX3 : Hid ((w2.alloc (.cells #[.string kx, .int .i64 kt, .int .i64 kf, .slice kp kn kc, .slice kq km kd] 37)).heap[By]? = _) := Lib.hid ((hba3.block _ (Array.getElem?_eq_some_iff.1 HX2.out).1).trans HX2.out)
          have HK3 : Hid ((w2.alloc (.cells #[.string kx, .int .i64 kt, .int .i64 kf, .slice kp kn kc, .slice kq km kd] 37)).heap[w2.heap.size]? = some (Obj.cells #[.string kx, .int .i64 kt, .int .i64 kf, .slice kp kn kc, .slice kq km kd] 37 (0, 0))) := Lib.hid (heap_alloc_new w2 _)
          clear l0 l1 l2 l3 l4 l5 l6 l7 l8 l9 c6 c70 c71 c72 c73 c8 c9 c13 c16 x0 x1 x2 x3 x4 x5 hByW hba3 a0 a1 a2 a3 hAW
          have c6 := cell_of_blk H23.out.h6 0 (.slice pk known.length ck) rfl
          have c70 := cell_of_blk H23.out.h7 0 (.string rx) rfl
          have c71 := cell_of_blk H23.out.h7 1 (.int .i64 rt) rfl
          have c72 := cell_of_blk H23.out.h7 2 (.int .i64 rl) rfl
          have c73 := cell_of_blk H23.out.h7 3 (.slice pr rd.length cr) rfl
          have c8 := cell_of_blk H23.out.h8 0 (.int .i64 t) rfl
          have c9 := cell_of_blk H23.out.h9 0 (.int .i64 d) rfl
          have c13 := cell_of_blk H23.out.h13 0 (.slice p5 n5 c5) rfl
          have c16 := cell_of_blk H23.out.h16 0 (.string ab) rfl
          have x0 := cell_of_blk HX3.out 0 (.string z) rfl
          have x1 := cell_of_blk HX3.out 1 (.string x) rfl
          have x2 := cell_of_blk HX3.out 2 (.int .i64 ty) rfl
          have x3 := cell_of_blk HX3.out 3 (.int .i64 lf) rfl
          have x4 := cell_of_blk HX3.out 4 (.slice sp sn sc) rfl
          have x5 := cell_of_blk HX3.out 5 (.slice sq sm sd) rfl
          have a0 := cell_of_blk HA3.out 0 (.string x) rfl
          have a1 := cell_of_blk HA3.out 1 (.int .i64 ty) rfl
          have a2 := cell_of_blk HA3.out 2 (.int .i64 lf) rfl
          have a3 := cell_of_blk HA3.out 3 (.slice sp sn sc) rfl
          have l0 : w.heap.size < (w2.alloc (.cells #[.string kx, .int .i64 kt, .int .i64 kf, .slice kp kn kc, .slice kq km kd] 37)).heap.size := (by have := R3.out.ko.size; omega)
          have l1 : w.heap.size + 1 < (w2.alloc (.cells #[.string kx, .int .i64 kt, .int .i64 kf, .slice kp kn kc, .slice kq km kd] 37)).heap.size := (by have := R3.out.ko.size; omega)
          have l2 : w.heap.size + 2 < (w2.alloc (.cells #[.string kx, .int .i64 kt, .int .i64 kf, .slice kp kn kc, .slice kq km kd] 37)).heap.size := (by have := R3.out.ko.size; omega)
          have l3 : w.heap.size + 3 < (w2.alloc (.cells #[.string kx, .int .i64 kt, .int .i64 kf, .slice kp kn kc, .slice kq km kd] 37)).heap.size := (by have := R3.out.ko.size; omega)
          have l4 : w.heap.size + 4 < (w2.alloc (.cells #[.string kx, .int .i64 kt, .int .i64 kf, .slice kp kn kc, .slice kq km kd] 37)).heap.size := (by have := R3.out.ko.size; omega)
          have l5 : w.heap.size + 5 < (w2.alloc (.cells #[.string kx, .int .i64 kt, .int .i64 kf, .slice kp kn kc, .slice kq km kd] 37)).heap.size := (by have := R3.out.ko.size; omega)
          have l6 : w.heap.size + 6 < (w2.alloc (.cells #[.string kx, .int .i64 kt, .int .i64 kf, .slice kp kn kc, .slice kq km kd] 37)).heap.size := (by have := R3.out.ko.size; omega)
          have l7 : w.heap.size + 7 < (w2.alloc (.cells #[.string kx, .int .i64 kt, .int .i64 kf, .slice kp kn kc, .slice kq km kd] 37)).heap.size := (by have := R3.out.ko.size; omega)
          have l8 : w.heap.size + 8 < (w2.alloc (.cells #[.string kx, .int .i64 kt, .int .i64 kf, .slice kp kn kc, .slice kq km kd] 37)).heap.size := (by have := R3.out.ko.size; omega)
          have l9 : w.heap.size + 9 < (w2.alloc (.cells #[.string kx, .int .i64 kt, .int .i64 kf, .slice kp kn kc, .slice kq km kd] 37)).heap.size := (by have := R3.out.ko.size; omega)
          have hByW := (Array.getElem?_eq_some_iff.1 HX3.out).1
          have hAW := (Array.getElem?_eq_some_iff.1 HA3.out).1
          rw [HNQ.out]
          gi_wp2_with (refine ⟨trivial, ?_⟩; gi_at_call 16; fail)
          refine ⟨trivial, ?_⟩
          refine (CallsIn.inRound lk (callsIn_wide.2 (CMK.out _ B3.out))).mono ?_
          rintro e w4 ⟨rfl, hb⟩
          have R4 : Hid (BR w.heap.size W w4) := Lib.hid (R3.out.trans (BR.of_below hb (by have := R3.out.ko.size; omega)))
          have B4 : Hid (Below w.heap.size w w4) := Lib.hid (H5.out.trans R4.out.bel)
          have S4 := Lib.hid (S3.out.keep hb)
          have HA4 := Lib.hid ((hb.block _ (Array.getElem?_eq_some_iff.1 HA3.out).1).trans HA3.out)
          have H24 := Lib.hid (H23.out.below hb)
          have HX4 := Lib.hid ((hb.block _ (Array.getElem?_eq_some_iff.1 HX3.out).1).trans HX3.out)
          have HK4 := Lib.hid ((hb.block _ (Array.getElem?_eq_some_iff.1 HK3.out).1).trans HK3.out)
          clear hb
          clear c6 c70 c71 c72 c73 c8 c9 c13 c16 x0 x1 x2 x3 x4 x5 l0 l1 l2 l3 l4 l5 l6 l7 l8 l9 hByW a0 a1 a2 a3 hAW
          have c6 := cell_of_blk H24.out.h6 0 (.slice pk known.length ck) rfl
          have c70 := cell_of_blk H24.out.h7 0 (.string rx) rfl
          have c71 := cell_of_blk H24.out.h7 1 (.int .i64 rt) rfl
          have c72 := cell_of_blk H24.out.h7 2 (.int .i64 rl) rfl
          have c73 := cell_of_blk H24.out.h7 3 (.slice pr rd.length cr) rfl
          have c8 := cell_of_blk H24.out.h8 0 (.int .i64 t) rfl
          have c9 := cell_of_blk H24.out.h9 0 (.int .i64 d) rfl
          have c13 := cell_of_blk H24.out.h13 0 (.slice p5 n5 c5) rfl
          have c16 := cell_of_blk H24.out.h16 0 (.string ab) rfl
          have x0 := cell_of_blk HX4.out 0 (.string z) rfl
          have x1 := cell_of_blk HX4.out 1 (.string x) rfl
          have x2 := cell_of_blk HX4.out 2 (.int .i64 ty) rfl
          have x3 := cell_of_blk HX4.out 3 (.int .i64 lf) rfl
          have x4 := cell_of_blk HX4.out 4 (.slice sp sn sc) rfl
          have x5 := cell_of_blk HX4.out 5 (.slice sq sm sd) rfl
          have a0 := cell_of_blk HA4.out 0 (.string x) rfl
          have a1 := cell_of_blk HA4.out 1 (.int .i64 ty) rfl
          have a2 := cell_of_blk HA4.out 2 (.int .i64 lf) rfl
          have a3 := cell_of_blk HA4.out 3 (.slice sp sn sc) rfl
          have l0 : w.heap.size < w4.heap.size := (by have := R4.out.ko.size; omega)
          have l1 : w.heap.size + 1 < w4.heap.size := (by have := R4.out.ko.size; omega)
          have l2 : w.heap.size + 2 < w4.heap.size := (by have := R4.out.ko.size; omega)
          have l3 : w.heap.size + 3 < w4.heap.size := (by have := R4.out.ko.size; omega)
          have l4 : w.heap.size + 4 < w4.heap.size := (by have := R4.out.ko.size; omega)
          have l5 : w.heap.size + 5 < w4.heap.size := (by have := R4.out.ko.size; omega)
          have l6 : w.heap.size + 6 < w4.heap.size := (by have := R4.out.ko.size; omega)
          have l7 : w.heap.size + 7 < w4.heap.size := (by have := R4.out.ko.size; omega)
          have l8 : w.heap.size + 8 < w4.heap.size := (by have := R4.out.ko.size; omega)
          have l9 : w.heap.size + 9 < w4.heap.size := (by have := R4.out.ko.size; omega)
          have hByW := (Array.getElem?_eq_some_iff.1 HX4.out).1
          have hAW := (Array.getElem?_eq_some_iff.1 HA4.out).1
          have e15 := cell_of_blk H24.out.h15 0 (.int .i64 0) rfl
          have e15f := frozen_of_blk H24.out.h15 0
          have k0 := cell_of_blk HK4.out 0 (.string kx) rfl
          have k1 := cell_of_blk HK4.out 1 (.int .i64 kt) rfl
          have k2 := cell_of_blk HK4.out 2 (.int .i64 kf) rfl
          have k3 := cell_of_blk HK4.out 3 (.slice kp kn kc) rfl
          have k4 := cell_of_blk HK4.out 4 (.slice kq km kd) rfl
          have c13f := frozen_of_blk H24.out.h13 0
          have c16f := frozen_of_blk H24.out.h16 0
          have hmx : Tryd.prog.follows .mixedOrders = true := by kernel_rfl
          cases mb
          · have HR := Lib.hid (HRB.out rfl)
            gi_wp2
            refine ⟨(R4.out.setCell (b := w.heap.size + 7) (j := 0) (by omega) (by omega) (.int .i64 31)).ko.from _, ⟨rfl, _, _, _, _, _, H24.out.setE 31, .inl ⟨rfl, rfl, rfl, HR.out⟩⟩, H5.out.trans (R4.out.setCell (b := w.heap.size + 7) (j := 0) (by omega) (by omega) (.int .i64 31)).bel, ?_⟩
            have := R4.out.ko.size
            simp only [World.size_setCell]
            omega
          · obtain ⟨hrg, h8⟩ := HRG.out rfl
            have HR := Lib.hid hrg
            have BD4 : Hid (Below w.heap.size w w4.drew) := Lib.hid (below_drewN B4.out 1)
            clear hrg
            gi_wp2
            gi_region_with_o (refine ⟨trivial, ?_⟩; gi_at_call 40; refine (CallsIn.inRound lk (callsIn_wide.2 (CKK.out _ BD4.out h8))).mono ?_; rintro e w5 ⟨v5, rfl, ho, hb⟩; replace hb : Below w4.heap.size w4 w5 := (below_drewN (Below.refl _ w4) 1).trans hb; obtain ⟨p6, c6', hv5⟩ := ho.sl.form; subst hv5; have R5 : Hid (BR w.heap.size W w5) := Lib.hid (R4.out.trans (BR.of_below hb (by have := R4.out.ko.size; omega))); have B5 : Hid (Below w.heap.size w w5) := Lib.hid (H5.out.trans R5.out.bel); have S5 := Lib.hid (S4.out.keep hb); have HA5 := Lib.hid ((hb.block _ (Array.getElem?_eq_some_iff.1 HA4.out).1).trans HA4.out); have H25 := Lib.hid (H24.out.below hb); have HX5 := Lib.hid ((hb.block _ (Array.getElem?_eq_some_iff.1 HX4.out).1).trans HX4.out); have HO5 := Lib.hid (OwnK.slq (B' := w.heap.size + 10) ho (by have := R4.out.ko.size; show w.heap.size + 10 ≤ w4.heap.size; omega)); clear hb ho; clear c6 c70 c71 c72 c73 c8 c9 c13 c16 x0 x1 x2 x3 x4 x5 l0 l1 l2 l3 l4 l5 l6 l7 l8 l9 hByW a0 a1 a2 a3 hAW k0 k1 k2 k3 k4 e15 e15f c13f c16f; have x0 := cell_of_blk HX5.out 0 (.string z) rfl; have c13 := cell_of_blk H25.out.h13 0 (.slice p5 n5 c5) rfl; have c16 := cell_of_blk H25.out.h16 0 (.string ab) rfl; have c13f := frozen_of_blk H25.out.h13 0; have c16f := frozen_of_blk H25.out.h16 0)
            all_goals gi_wp2
            all_goals
              refine ⟨(((R5.out.setCell (b := w.heap.size + 5) (j := 0) (by omega) (by omega) (.slice p6 (keysL kl).length c6')).setCell (b := w.heap.size + 8) (j := 0) (by omega) (by omega) (.string z))).ko.from _, ⟨(((R5.out.setCell (b := w.heap.size + 5) (j := 0) (by omega) (by omega) (.slice p6 (keysL kl).length c6')).setCell (b := w.heap.size + 8) (j := 0) (by omega) (by omega) (.string z))).bel, (((R5.out.setCell (b := w.heap.size + 5) (j := 0) (by omega) (by omega) (.slice p6 (keysL kl).length c6')).setCell (b := w.heap.size + 8) (j := 0) (by omega) (by omega) (.string z))).bx⟩, ⟨keysL kl, z, _, HR.out, ((H25.out.setK _).setA z), ((HO5.out.set (b := w.heap.size + 5) (by omega) _).set (b := w.heap.size + 8) (by omega) _), by unfold keysL; rw [List.length_map]; exact h8⟩, H5.out.trans (((R5.out.setCell (b := w.heap.size + 5) (j := 0) (by omega) (by omega) (.slice p6 (keysL kl).length c6')).setCell (b := w.heap.size + 8) (j := 0) (by omega) (by omega) (.string z))).bel, ?_⟩
              have := R5.out.ko.size
              show w.heap.size + 10 ≤ ((w5.setCell ⟨w.heap.size + 5, 0, none⟩ (.slice p6 (keysL kl).length c6')).setCell ⟨w.heap.size + 8, 0, none⟩ (.string z)).heap.size
              simp only [World.size_setCell]
              omega
  case done =>
    rintro D ys W hD hys hI hK
    obtain ⟨⟨keys, ab, kv, h1, h2, h3, h4⟩, h5, h6⟩ := hI
    subst hys
    have hres : downF known ⟨rx, rt, rl, .slice pr rd.length cr, rd⟩ t d L = .run keys ab := by
      unfold downF
      rw [← h1, List.attach_map_subtype_val]
    have HRES := Lib.hid hres
    have c15 := cell_of_blk h2.h15 0 (.int .i64 0) rfl
    have c13 := cell_of_blk h2.h13 0 kv rfl
    have c0 := cell_of_blk h2.h11 0 (.string ⟨#[]⟩) rfl
    have c1 := cell_of_blk h2.h11 1 (.int .i64 0) rfl
    have f0 := frozen_of_blk h2.h11 0
    have f1 := frozen_of_blk h2.h11 1
    obtain ⟨p5, n5, c5, rfl⟩ : ∃ p n c, kv = .slice p n c := by
      obtain ⟨p, c, h⟩ := h3.sl.form
      exact ⟨_, _, _, h⟩
    have H2 := Lib.hid h2
    have H3 := Lib.hid h3
    have H4 := Lib.hid h4
    have H5 := Lib.hid h5
    have HK := Lib.hid hK
    clear h1 h2 h3 h4 h5 hK hres hst hbx hF1 hB9 hBl1 hR hroot hk hLin
    go_wp2
    have hK8 : (((W.setCell ⟨w.heap.size + 4, 0, none⟩ (.string ⟨#[]⟩)).setCell ⟨w.heap.size + 4, 1, none⟩ (.int .i64 0))).heap[D]? = _ := ((KeepsOthers.setCell W ⟨w.heap.size + 4, 0, none⟩ (.string ⟨#[]⟩)).trans (KeepsOthers.setCell _ ⟨w.heap.size + 4, 1, none⟩ (.int .i64 0))).same D _ HK.out rfl
    refine ⟨by simp, .inl ⟨_, _, rfl, run_takeDeferred hK8, ?_⟩⟩
    have hq : ((((W.setCell ⟨w.heap.size + 4, 0, none⟩ (.string ⟨#[]⟩)).setCell ⟨w.heap.size + 4, 1, none⟩ (.int .i64 0))).putObj D (.deferred none)).heap[w.heap.size + 4]? = some (Obj.cells #[.string ⟨#[]⟩, .int .i64 0] 30 (0, 0)) := (World.putObj_heap_other (by omega)).trans (set2Q (.string ⟨#[]⟩) (.int .i64 0) H2.out.h11)
    have y0 := cell_of_blk hq 0 (.string ⟨#[]⟩) rfl
    have y1 := cell_of_blk hq 1 (.int .i64 0) rfl
    rw [HRES.out]
    refine ⟨.tuple #[.slice p5 n5 c5, .agg #[.string ⟨#[]⟩, .int .i64 0], .int .i64 0], by simp [results, Tryd.f36, go_sem, y0, y1], ⟨_, rfl, (((H3.out.set (b := w.heap.size + 4) (by omega) _).set (b := w.heap.size + 4) (by omega) _).own (grownBy_putObj' _ D (.deferred none)) (fun r e => by cases e; exact ⟨_, hK8, rfl⟩)).sl, H4.out⟩, ((H5.out.setCell (p := ⟨w.heap.size + 4, 0, none⟩) (by simp only; omega) (.string ⟨#[]⟩)).setCell (p := ⟨w.heap.size + 4, 1, none⟩) (by simp only; omega) (.int .i64 0)).trans (belowK_b (w := w) (Nat.le_refl _) _ D _ _ (by omega) hK8 rfl rfl)⟩
  case stop =>
    rintro D c pre W hD hpre hX hK
    obtain ⟨⟨rfl, kv, ab, qz, qt, e, h2, h3⟩, h5, h6⟩ := hX
    obtain ⟨r, hr'⟩ := hpre
    refine wpIn_wide.2 ?_
    rcases h3 with ⟨rfl, rfl, rfl, h4⟩ | ⟨rfl, rfl, h4⟩
    · have HRES : Hid (downF known ⟨rx, rt, rl, .slice pr rd.length cr, rd⟩ t d L = .bad) := Lib.hid (by
        unfold downF
        rw [← List.attach_map_subtype_val (revI L), hr', List.map_append]
        exact atF_pre h4 (.inl rfl))
      have c15 := cell_of_blk h2.h15 0 (.int .i64 31) rfl
      have m0 := cell_of_blk h2.h14 0 (.string ⟨#[]⟩) rfl
      have m1 := cell_of_blk h2.h14 1 (.int .i64 0) rfl
      have c0 := cell_of_blk h2.h11 0 (.string ⟨#[]⟩) rfl
      have c1 := cell_of_blk h2.h11 1 (.int .i64 0) rfl
      have f0 := frozen_of_blk h2.h11 0
      have f1 := frozen_of_blk h2.h11 1
      have H2 := Lib.hid h2
      have H5 := Lib.hid h5
      have HK := Lib.hid hK
      clear h2 h5 hK hst hbx hF1 hB9 hBl1 hR hroot hk hLin hr'
      go_wp2
      go_region
      go_wp2
      have hK8 : (((W.setCell ⟨w.heap.size + 4, 0, none⟩ (.string ⟨#[]⟩)).setCell ⟨w.heap.size + 4, 1, none⟩ (.int .i64 0)).drew).heap[D]? = _ := (((KeepsOthers.setCell W ⟨w.heap.size + 4, 0, none⟩ (.string ⟨#[]⟩)).trans (KeepsOthers.setCell _ ⟨w.heap.size + 4, 1, none⟩ (.int .i64 0))).trans (KeepsOthers.drew _)).same D _ HK.out rfl
      refine ⟨by simp, .inl ⟨_, _, rfl, run_takeDeferred hK8, ?_⟩⟩
      have hq : ((((W.setCell ⟨w.heap.size + 4, 0, none⟩ (.string ⟨#[]⟩)).setCell ⟨w.heap.size + 4, 1, none⟩ (.int .i64 0)).drew).putObj D (.deferred none)).heap[w.heap.size + 4]? = some (Obj.cells #[.string ⟨#[]⟩, .int .i64 0] 30 (0, 0)) := (World.putObj_heap_other (by omega)).trans (set2Q (.string ⟨#[]⟩) (.int .i64 0) H2.out.h11)
      have y0 := cell_of_blk hq 0 (.string ⟨#[]⟩) rfl
      have y1 := cell_of_blk hq 1 (.int .i64 0) rfl
      rw [HRES.out]
      refine ⟨.tuple #[.slice none 0 0, .agg #[.string ⟨#[]⟩, .int .i64 0], .int .i64 31], by simp [results, Tryd.f36, go_sem, y0, y1], rfl, (below_drewN ((H5.out.setCell (p := ⟨w.heap.size + 4, 0, none⟩) (by simp only; omega) (.string ⟨#[]⟩)).setCell (p := ⟨w.heap.size + 4, 1, none⟩) (by simp only; omega) (.int .i64 0)) 1).trans (belowK_b (w := w) (Nat.le_refl _) _ D _ _ (by omega) hK8 rfl rfl)⟩
    · have HRES : Hid (downF known ⟨rx, rt, rl, .slice pr rd.length cr, rd⟩ t d L = .miss qz) := Lib.hid (by
        unfold downF
        rw [← List.attach_map_subtype_val (revI L), hr', List.map_append]
        exact atF_pre h4 (.inr ⟨_, rfl⟩))
      have c15 := cell_of_blk h2.h15 0 (.int .i64 4) rfl
      have m0 := cell_of_blk h2.h14 0 (.string qz) rfl
      have m1 := cell_of_blk h2.h14 1 (.int .i64 7) rfl
      have c0 := cell_of_blk h2.h11 0 (.string ⟨#[]⟩) rfl
      have c1 := cell_of_blk h2.h11 1 (.int .i64 0) rfl
      have f0 := frozen_of_blk h2.h11 0
      have f1 := frozen_of_blk h2.h11 1
      have H2 := Lib.hid h2
      have H5 := Lib.hid h5
      have HK := Lib.hid hK
      clear h2 h5 hK hst hbx hF1 hB9 hBl1 hR hroot hk hLin hr'
      go_wp2
      go_region
      go_wp2
      have hK8 : (((W.setCell ⟨w.heap.size + 4, 0, none⟩ (.string qz)).setCell ⟨w.heap.size + 4, 1, none⟩ (.int .i64 7)).drew).heap[D]? = _ := (((KeepsOthers.setCell W ⟨w.heap.size + 4, 0, none⟩ (.string qz)).trans (KeepsOthers.setCell _ ⟨w.heap.size + 4, 1, none⟩ (.int .i64 7))).trans (KeepsOthers.drew _)).same D _ HK.out rfl
      refine ⟨by simp, .inl ⟨_, _, rfl, run_takeDeferred hK8, ?_⟩⟩
      have hq : ((((W.setCell ⟨w.heap.size + 4, 0, none⟩ (.string qz)).setCell ⟨w.heap.size + 4, 1, none⟩ (.int .i64 7)).drew).putObj D (.deferred none)).heap[w.heap.size + 4]? = some (Obj.cells #[.string qz, .int .i64 7] 30 (0, 0)) := (World.putObj_heap_other (by omega)).trans (set2Q (.string qz) (.int .i64 7) H2.out.h11)
      have y0 := cell_of_blk hq 0 (.string qz) rfl
      have y1 := cell_of_blk hq 1 (.int .i64 7) rfl
      rw [HRES.out]
      refine ⟨.tuple #[.slice none 0 0, .agg #[.string qz, .int .i64 7], .int .i64 4], by simp [results, Tryd.f36, go_sem, y0, y1], rfl, (below_drewN ((H5.out.setCell (p := ⟨w.heap.size + 4, 0, none⟩) (by simp only; omega) (.string qz)).setCell (p := ⟨w.heap.size + 4, 1, none⟩) (by simp only; omega) (.int .i64 7)) 1).trans (belowK_b (w := w) (Nat.le_refl _) _ D _ _ (by omega) hK8 rfl rfl)⟩
theorem follow_any (v : Value) (L : List Stp) (kv0 : Value) (known : List Sd) (root : St) (t d : Int) (w : World) (hT : SlT v L w) (hL : 1 ≤ L.length ∧ L.length ≤ 100) (hk : SlK kv0 known w) (hkn : known.length ≤ maxLen) (hroot : root.In w) (hr : RulesAt w) :
    Calls Tryd.prog 36 #[v, kv0, .agg #[.string root.x, .int .i64 root.typ, .int .i64 root.life, root.v], .int .i64 t, .int .i64 d] w (DownTo (downF known root t d L) w) := by
  obtain ⟨p, c, rfl⟩ := hT.form
  obtain ⟨b, off, rfl, hb, hR⟩ := hT.at_ (by omega)
  exact (callsIn_wide (n := 5)).1 (follow_in 5 (by omega) b off c L kv0 known root t d w hb hR hT.2 hL.2 hk hkn hroot hr)
end Go.Proofs.YtkhckgknldiheaaDoor
