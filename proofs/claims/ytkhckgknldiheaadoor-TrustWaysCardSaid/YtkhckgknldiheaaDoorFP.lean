/- The way down from the root, plain; the boxes of follow; no condition beyond those that each theorem names. -/
import Derived.Test.YtkhckgknldiheaaDoorTB
namespace Go.Proofs.YtkhckgknldiheaaDoor
set_option linter.unusedSimpArgs false
set_option linter.unusedVariables false
open Go.RowKit Go.Shelf
open NmP SpP

/-! plain -/
/-- Where follow is: the keys of a zone, or what is missing, or none. -/
inductive FR where
  | run (keys : List Sp) (ab : ByteArray)
  | miss (z : ByteArray)
  | bad
def stepF (known : List Sd) (root : St) (t d : Int) (p : Stp) (keys : List Sp) (ab : ByteArray) : FR :=
  if (!decide (p.1 = dotB) && !signedB p.2.st p.2.g ab keys t d) = true then .bad else match findK known p.1 7 with
    | none => .miss p.1
    | some k => if matchB (if p.1 = dotB then root else p.2.st) k t d = true then .run (keysL k.l) p.1 else .bad
def folF (known : List Sd) (root : St) (t d : Int) : List Stp → FR → FR
  | [], s => s
  | p :: r, .run k a => folF known root t d r (stepF known root t d p k a)
  | _ :: _, .miss z => .miss z
  | _ :: _, .bad => .bad
theorem folF_miss (known : List Sd) (root : St) (t d : Int) (z : ByteArray) : ∀ l, folF known root t d l (.miss z) = .miss z
  | [] => rfl
  | _ :: _ => rfl
theorem folF_bad (known : List Sd) (root : St) (t d : Int) : ∀ l, folF known root t d l .bad = .bad
  | [] => rfl
  | _ :: _ => rfl
theorem folF_app (known : List Sd) (root : St) (t d : Int) : ∀ (a b : List Stp) (s : FR), folF known root t d (a ++ b) s = folF known root t d b (folF known root t d a s)
  | [], b, s => rfl
  | p :: r, b, .run k x => folF_app known root t d r b (stepF known root t d p k x)
  | p :: r, b, .miss z => (folF_miss known root t d z b).symm
  | p :: r, b, .bad => (folF_bad known root t d b).symm
/-- What follow has come to behind some stops. -/
def atF (known : List Sd) (root : St) (t d : Int) (pre : List Ist) : FR := folF known root t d (pre.map (·.2)) (.run [] ⟨#[]⟩)
theorem atF_snoc {known : List Sd} {root : St} {t d : Int} {pre : List Ist} {x : Ist} {k : List Sp} {a : ByteArray} (h : atF known root t d pre = .run k a) : atF known root t d (pre ++ [x]) = stepF known root t d x.2 k a := by
  unfold atF at h ⊢
  rw [List.map_append, folF_app, h]
  rfl
theorem atF_pre {known : List Sd} {root : St} {t d : Int} {pre r : List Ist} {f : FR} (h : atF known root t d pre = f) (hf : f = .bad ∨ ∃ z, f = .miss z) : atF known root t d (pre ++ r) = f := by
  unfold atF at h ⊢
  rw [List.map_append, folF_app, h]
  rcases hf with rfl | ⟨z, rfl⟩
  · exact folF_bad _ _ _ _ _
  · exact folF_miss _ _ _ _ _ _
/-- What Path returns, behind a way. -/
def downF (known : List Sd) (root : St) (t d : Int) (l : List Stp) : FR := atF known root t d (revI l)

/-! the boxes -/
structure FB (B : Nat) (KV : Value) (rx : ByteArray) (rt rl : Int) (RV : Value) (t d : Int) (kv : Value) (qz : ByteArray) (qt e : Int) (ab : ByteArray) (W : World) : Prop where
  h6 : W.heap[B]? = some (Obj.cells #[KV] 22 (0, 0))
  h7 : W.heap[B + 1]? = some (Obj.cells #[.string rx, .int .i64 rt, .int .i64 rl, RV] 25 (0, 0))
  h8 : W.heap[B + 2]? = some (Obj.cells #[.int .i64 t] 3 (0, 0))
  h9 : W.heap[B + 3]? = some (Obj.cells #[.int .i64 d] 3 (0, 0))
  h11 : W.heap[B + 4]? = some (Obj.cells #[.string ⟨#[]⟩, .int .i64 0] 30 (0, 0))
  h13 : W.heap[B + 5]? = some (Obj.cells #[kv] 26 (0, 0))
  h14 : W.heap[B + 6]? = some (Obj.cells #[.string qz, .int .i64 qt] 30 (0, 0))
  h15 : W.heap[B + 7]? = some (Obj.cells #[.int .i64 e] 31 (0, 0))
  h16 : W.heap[B + 8]? = some (Obj.cells #[.string ab] 9 (0, 0))
theorem FB.keep {B : Nat} {KV : Value} {rx : ByteArray} {rt rl : Int} {RV : Value} {t d : Int} {kv : Value} {qz : ByteArray} {qt e : Int} {ab : ByteArray} {W W' : World} (h : FB B KV rx rt rl RV t d kv qz qt e ab W) (hb : ∀ k, k < B + 9 → W'.heap[k]? = W.heap[k]?) : FB B KV rx rt rl RV t d kv qz qt e ab W' :=
  ⟨(hb _ (by omega)).trans h.h6, (hb _ (by omega)).trans h.h7, (hb _ (by omega)).trans h.h8, (hb _ (by omega)).trans h.h9, (hb _ (by omega)).trans h.h11, (hb _ (by omega)).trans h.h13, (hb _ (by omega)).trans h.h14, (hb _ (by omega)).trans h.h15, (hb _ (by omega)).trans h.h16⟩
theorem FB.lt {B : Nat} {KV : Value} {rx : ByteArray} {rt rl : Int} {RV : Value} {t d : Int} {kv : Value} {qz : ByteArray} {qt e : Int} {ab : ByteArray} {W : World} (h : FB B KV rx rt rl RV t d kv qz qt e ab W) : B + 9 ≤ W.heap.size := (Array.getElem?_eq_some_iff.1 h.h16).1
theorem FB.below {B : Nat} {KV : Value} {rx : ByteArray} {rt rl : Int} {RV : Value} {t d : Int} {kv : Value} {qz : ByteArray} {qt e : Int} {ab : ByteArray} {W W' : World} (h : FB B KV rx rt rl RV t d kv qz qt e ab W) (hb : Below W.heap.size W W') : FB B KV rx rt rl RV t d kv qz qt e ab W' :=
  h.keep fun k hk => hb.block k (by have := h.lt; omega)
theorem FB.setE {B : Nat} {KV : Value} {rx : ByteArray} {rt rl : Int} {RV : Value} {t d : Int} {kv : Value} {qz : ByteArray} {qt e : Int} {ab : ByteArray} {W : World} (h : FB B KV rx rt rl RV t d kv qz qt e ab W) (e' : Int) : FB B KV rx rt rl RV t d kv qz qt e' ab (W.setCell ⟨B + 7, 0, none⟩ (.int .i64 e')) := by
  have k : ∀ j, j ≠ B + 7 → (W.setCell ⟨B + 7, 0, none⟩ (.int .i64 e')).heap[j]? = W.heap[j]? := fun j hj => heap_setCell_other W ⟨B + 7, 0, none⟩ j _ hj
  exact ⟨(k _ (by omega)).trans h.h6, (k _ (by omega)).trans h.h7, (k _ (by omega)).trans h.h8, (k _ (by omega)).trans h.h9, (k _ (by omega)).trans h.h11, (k _ (by omega)).trans h.h13, (k _ (by omega)).trans h.h14, heap_setCell_same W (B + 7) 0 _ _ _ h.h15, (k _ (by omega)).trans h.h16⟩
theorem FB.setQ {B : Nat} {KV : Value} {rx : ByteArray} {rt rl : Int} {RV : Value} {t d : Int} {kv : Value} {qz : ByteArray} {qt e : Int} {ab : ByteArray} {W : World} (h : FB B KV rx rt rl RV t d kv qz qt e ab W) (z' : ByteArray) (t' : Int) : FB B KV rx rt rl RV t d kv z' t' e ab ((W.setCell ⟨B + 6, 0, none⟩ (.string z')).setCell ⟨B + 6, 1, none⟩ (.int .i64 t')) := by
  have k : ∀ j, j ≠ B + 6 → ((W.setCell ⟨B + 6, 0, none⟩ (.string z')).setCell ⟨B + 6, 1, none⟩ (.int .i64 t')).heap[j]? = W.heap[j]? := fun j hj => (heap_setCell_other _ ⟨B + 6, 1, none⟩ j _ hj).trans (heap_setCell_other W ⟨B + 6, 0, none⟩ j _ hj)
  exact ⟨(k _ (by omega)).trans h.h6, (k _ (by omega)).trans h.h7, (k _ (by omega)).trans h.h8, (k _ (by omega)).trans h.h9, (k _ (by omega)).trans h.h11, (k _ (by omega)).trans h.h13, set2Q _ _ h.h14, (k _ (by omega)).trans h.h15, (k _ (by omega)).trans h.h16⟩
theorem FB.setK {B : Nat} {KV : Value} {rx : ByteArray} {rt rl : Int} {RV : Value} {t d : Int} {kv : Value} {qz : ByteArray} {qt e : Int} {ab : ByteArray} {W : World} (h : FB B KV rx rt rl RV t d kv qz qt e ab W) (kv' : Value) : FB B KV rx rt rl RV t d kv' qz qt e ab (W.setCell ⟨B + 5, 0, none⟩ kv') := by
  have k : ∀ j, j ≠ B + 5 → (W.setCell ⟨B + 5, 0, none⟩ kv').heap[j]? = W.heap[j]? := fun j hj => heap_setCell_other W ⟨B + 5, 0, none⟩ j _ hj
  exact ⟨(k _ (by omega)).trans h.h6, (k _ (by omega)).trans h.h7, (k _ (by omega)).trans h.h8, (k _ (by omega)).trans h.h9, (k _ (by omega)).trans h.h11, heap_setCell_same W (B + 5) 0 _ _ _ h.h13, (k _ (by omega)).trans h.h14, (k _ (by omega)).trans h.h15, (k _ (by omega)).trans h.h16⟩
theorem FB.setA {B : Nat} {KV : Value} {rx : ByteArray} {rt rl : Int} {RV : Value} {t d : Int} {kv : Value} {qz : ByteArray} {qt e : Int} {ab : ByteArray} {W : World} (h : FB B KV rx rt rl RV t d kv qz qt e ab W) (ab' : ByteArray) : FB B KV rx rt rl RV t d kv qz qt e ab' (W.setCell ⟨B + 8, 0, none⟩ (.string ab')) := by
  have k : ∀ j, j ≠ B + 8 → (W.setCell ⟨B + 8, 0, none⟩ (.string ab')).heap[j]? = W.heap[j]? := fun j hj => heap_setCell_other W ⟨B + 8, 0, none⟩ j _ hj
  exact ⟨(k _ (by omega)).trans h.h6, (k _ (by omega)).trans h.h7, (k _ (by omega)).trans h.h8, (k _ (by omega)).trans h.h9, (k _ (by omega)).trans h.h11, (k _ (by omega)).trans h.h13, (k _ (by omega)).trans h.h14, (k _ (by omega)).trans h.h15, heap_setCell_same W (B + 8) 0 _ _ _ h.h16⟩

/-- What a round of follow leaves as it was. -/
structure BR (B : Nat) (W W' : World) : Prop where
  ko : KeepsOthers W W'
  bel : Below B W W'
  bx : W'.heap[B + 9]? = W.heap[B + 9]?
theorem BR.refl (B : Nat) (W : World) : BR B W W := ⟨KeepsOthers.refl W, Below.refl _ _, rfl⟩
theorem BR.trans {B : Nat} {X Y Z : World} (h : BR B X Y) (k : BR B Y Z) : BR B X Z := ⟨h.ko.trans k.ko, h.bel.trans k.bel, k.bx.trans h.bx⟩
theorem BR.of_below {B : Nat} {X Y : World} (h : Below X.heap.size X Y) (hB : B + 10 ≤ X.heap.size) : BR B X Y :=
  ⟨⟨h.size, fun k o hk _ => (h.block k (Array.getElem?_eq_some_iff.1 hk).1).trans hk⟩, h.mono (by omega), h.block _ (by omega)⟩
theorem BR.alloc {B : Nat} {X Y : World} (h : BR B X Y) (hB : B + 10 ≤ Y.heap.size) (o : Obj) : BR B X (Y.alloc o) :=
  h.trans (BR.of_below ((Below.refl _ Y).alloc (Nat.le_refl _) o) hB)
theorem BR.setCell {B : Nat} {X Y : World} (h : BR B X Y) {b j : Nat} (hb : B ≤ b) (hx : b ≠ B + 9) (v : Value) : BR B X (Y.setCell ⟨b, j, none⟩ v) :=
  h.trans ⟨KeepsOthers.setCell Y _ v, (Below.refl _ Y).setCell (p := ⟨b, j, none⟩) hb v, heap_setCell_other Y ⟨b, j, none⟩ _ _ (Ne.symm hx)⟩
theorem BR.drew {B : Nat} {X Y : World} (h : BR B X Y) : BR B X Y.drew := h.trans ⟨KeepsOthers.drew Y, below_drewN (Below.refl _ Y) 1, rfl⟩

/-- A slice of keys stays where other things than cells turn. -/
theorem cell_own {W W' : World} {row : Option Nat} {p : Addr} {u : Value} (h : W.cell? p = some u) (hg : W.grownBy W' row) (hr : ∀ r, row = some r → ∃ o : Obj, W.heap[r]? = some o ∧ o.isCells = false) : W'.cell? p = some u := by
  have hlt := World.block_lt_of_cell? W _ h
  rw [World.cell?_of_block (hg.block p.block hlt (fun e => ?_))]
  · exact h
  · obtain ⟨o, ho, hc⟩ := hr _ e.symm
    unfold World.cell? at h
    rw [ho] at h
    cases o <;> simp at h <;> simp [Obj.isCells] at hc
theorem sls_own {v : Value} {l : List Sp} {W W' : World} {row : Option Nat} (h : SlS v l W) (hg : W.grownBy W' row) (hr : ∀ r, row = some r → ∃ o : Obj, W.heap[r]? = some o ∧ o.isCells = false) : SlS v l W' := by
  rcases h with h | ⟨b, off, c, h1, h2, h3⟩
  · exact .inl h
  · exact .inr ⟨b, off, c, h1, Nat.lt_of_lt_of_le h2 hg.size, fun m u hm => cell_own (h3 m u hm) hg hr⟩
theorem SlS.set {v : Value} {l : List Sp} {W : World} (h : SlS v l W) {b j : Nat} {cs : Array Value} {t : TypeId} (hb : W.heap[b]? = some (Obj.cells cs t (0, 0))) (hs : cs.size = 1) (hl : 2 ≤ 2 * l.length ∨ l = []) (u : Value) (hne : ∀ b' off c, v = .slice (some ⟨b', off, none⟩) l.length c → b' ≠ b) : SlS v l (W.setCell ⟨b, j, none⟩ u) := by
  rcases h with h | ⟨b', off, c, h1, h2, h3⟩
  · exact .inl h
  · have hn := hne b' off c h1
    exact .inr ⟨b', off, c, h1, by simpa using h2, fun m x hm => by rw [World.cell?_of_block (heap_setCell_other W ⟨b, j, none⟩ b' u hn)]; exact h3 m x hm⟩
end Go.Proofs.YtkhckgknldiheaaDoor
