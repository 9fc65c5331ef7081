/- Slices of signatures, and the contracts of Signed of package trust and of its closure; no condition beyond those that each theorem names. -/
import Derived.Test.YtkhckgknldiheaaDoorG6
namespace Go.Proofs.YtkhckgknldiheaaDoor
set_option linter.unusedSimpArgs false
set_option linter.unusedVariables false
open Go.RowKit
open NmP SpP

def valsG (g : Sg) : List Value := [.string g.z, .int .i64 g.k, .int .i64 g.a, .int .i64 g.f, .int .i64 g.u, .int .u64 g.m]
def rowG (l : List Sg) : List Value := l.flatMap valsG
def RG (b off : Nat) (l : List Sg) (W : World) : Prop := ∀ (m : Nat) (u : Value), (rowG l)[m]? = some u → W.cell? ⟨b, off + m, none⟩ = some u
theorem rowG_cons (t : Sg) (l : List Sg) : rowG (t :: l) = valsG t ++ rowG l := rfl
theorem rowG_len (l : List Sg) : (rowG l).length = 6 * l.length := by
  induction l with
  | nil => rfl
  | cons s r ih => rw [rowG_cons, List.length_append, ih]; simp [valsG]; omega
theorem rowG_get : ∀ (l : List Sg) (i f : Nat) (t : Sg), l[i]? = some t → f < 6 → (rowG l)[i * 6 + f]? = (valsG t)[f]?
  | [], _, _, _, h, _ => by simp at h
  | a :: r, 0, f, t, h, hf => by
    simp at h; subst h
    rw [rowG_cons, List.getElem?_append_left (by simp [valsG]; omega), Nat.zero_mul, Nat.zero_add]
  | a :: r, i + 1, f, t, h, hf => by
    rw [rowG_cons, List.getElem?_append_right (by simp [valsG]; omega), show (i + 1) * 6 + f - (valsG a).length = i * 6 + f by simp [valsG]; omega]
    exact rowG_get r i f t (by simpa using h) hf
structure GAt (W : World) (b off : Nat) (t : Sg) : Prop where
  c0 : W.cell? ⟨b, off, none⟩ = some (.string t.z)
  c1 : W.cell? ⟨b, off + 1, none⟩ = some (.int .i64 t.k)
  c2 : W.cell? ⟨b, off + 2, none⟩ = some (.int .i64 t.a)
  c3 : W.cell? ⟨b, off + 3, none⟩ = some (.int .i64 t.f)
  c4 : W.cell? ⟨b, off + 4, none⟩ = some (.int .i64 t.u)
  c5 : W.cell? ⟨b, off + 5, none⟩ = some (.int .u64 t.m)
theorem RG.at_ {b off : Nat} {l : List Sg} {W : World} (h : RG b off l W) {i : Nat} {t : Sg} (hi : l[i]? = some t) : GAt W b (off + i * 6) t := by
  have k : ∀ (f : Nat) (u : Value), f < 6 → (valsG t)[f]? = some u → W.cell? ⟨b, off + i * 6 + f, none⟩ = some u := fun f u hf hu => by
    have := h (i * 6 + f) u (by rw [rowG_get l i f t hi hf]; exact hu)
    rw [← Nat.add_assoc] at this; exact this
  exact ⟨k 0 _ (by omega) rfl, k 1 _ (by omega) rfl, k 2 _ (by omega) rfl, k 3 _ (by omega) rfl, k 4 _ (by omega) rfl, k 5 _ (by omega) rfl⟩
theorem RG.keep {b off : Nat} {l : List Sg} {W W' : World} (h : RG b off l W) (hb : b < W.heap.size) (hB : Below W.heap.size W W') : RG b off l W' := fun m u hm =>
  (hB.cell (p := ⟨b, off + m, none⟩) hb).trans (h m u hm)
/-- A slice that holds signatures. -/
def SlG (v : Value) (l : List Sg) (W : World) : Prop := (l = [] ∧ ∃ p c, v = .slice p 0 c) ∨ ∃ b off c, v = .slice (some ⟨b, off, none⟩) l.length c ∧ b < W.heap.size ∧ RG b off l W
theorem SlG.keep {v : Value} {l : List Sg} {W W' : World} (h : SlG v l W) (hb : Below W.heap.size W W') : SlG v l W' := by
  rcases h with h | ⟨b, off, c, h1, h2, h3⟩
  · exact .inl h
  · exact .inr ⟨b, off, c, h1, Nat.lt_of_lt_of_le h2 hb.size, h3.keep h2 hb⟩
theorem SlG.form {v : Value} {l : List Sg} {W : World} (h : SlG v l W) : ∃ p c, v = .slice p l.length c := by
  rcases h with ⟨h, p, c, h2⟩ | ⟨b, off, c, h1, _⟩
  · exact ⟨p, c, by rw [h2, h]; rfl⟩
  · exact ⟨_, c, h1⟩
theorem SlG.at_ {p : Option Addr} {n c : Nat} {l : List Sg} {W : World} (h : SlG (.slice p n c) l W) (h1 : 0 < l.length) : ∃ b off, p = some ⟨b, off, none⟩ ∧ b < W.heap.size ∧ RG b off l W := by
  rcases h with ⟨h, _⟩ | ⟨b, off, c, h2, h3, h4⟩
  · rw [h] at h1; cases h1
  · cases h2; exact ⟨b, off, rfl, h3, h4⟩

/-- A signature is right for a zone, by one of the keys, at a time with a drift. -/
def okG (s : St) (zone : ByteArray) (keys : List Sp) (t d : Int) (g : Sg) : Bool :=
  decide (g.z = zone) && decide (g.f ≤ t - d) && decide (t + d ≤ g.u) && (keys.contains (g.k, g.a) && checkB s g g.k g.a)
/-- What the closure has captured. -/
structure Env (W : World) (B : Nat) (s : St) (sv : Value) (zone : ByteArray) (kv : Value) (keys : List Sp) (t d : Int) : Prop where
  x0 : W.cell? ⟨B, 0, none⟩ = some (.string s.x)
  x1 : W.cell? ⟨B, 1, none⟩ = some (.int .i64 s.typ)
  x2 : W.cell? ⟨B, 2, none⟩ = some (.int .i64 s.life)
  x3 : W.cell? ⟨B, 3, none⟩ = some s.v
  x4 : W.cell? ⟨B, 4, none⟩ = some sv
  z0 : W.cell? ⟨B + 1, 0, none⟩ = some (.string zone)
  k0 : W.cell? ⟨B + 2, 0, none⟩ = some kv
  t0 : W.cell? ⟨B + 3, 0, none⟩ = some (.int .i64 t)
  d0 : W.cell? ⟨B + 4, 0, none⟩ = some (.int .i64 d)
  hs : s.In W
  hr : RulesAt W
  hk : SlS kv keys W
theorem Env.lt {W : World} {B : Nat} {s : St} {sv : Value} {zone : ByteArray} {kv : Value} {keys : List Sp} {t d : Int} (h : Env W B s sv zone kv keys t d) : B + 4 < W.heap.size := World.block_lt_of_cell? W _ h.d0
theorem Env.keep {W W' : World} {B : Nat} {s : St} {sv : Value} {zone : ByteArray} {kv : Value} {keys : List Sp} {t d : Int} (h : Env W B s sv zone kv keys t d) (hb : Below W.heap.size W W') : Env W' B s sv zone kv keys t d := by
  have hl := h.lt
  exact ⟨(hb.cell (by simp only; omega)).trans h.x0, (hb.cell (by simp only; omega)).trans h.x1, (hb.cell (by simp only; omega)).trans h.x2, (hb.cell (by simp only; omega)).trans h.x3, (hb.cell (by simp only; omega)).trans h.x4, (hb.cell (by simp only; omega)).trans h.z0, (hb.cell (by simp only; omega)).trans h.k0, (hb.cell (by simp only; omega)).trans h.t0, (hb.cell (by simp only; omega)).trans h.d0, h.hs.keep hb, h.hr.keep hb, h.hk.keep hb⟩

set_option maxHeartbeats 4000000 in
set_option maxRecDepth 100000 in
theorem signed1_any (B : Nat) (s : St) (sv : Value) (zone : ByteArray) (kv : Value) (keys : List Sp) (t d : Int) (g : Sg) (w : World) (he : Env w B s sv zone kv keys t d) (ht : 0 ≤ t ∧ t ≤ 10000000) (hd : 0 ≤ d ∧ d ≤ 1000) (hz : g.z.size ≤ maxLen) (hkl : keys.length ≤ maxLen) :
    Calls Tryd.prog 46 #[.agg #[.string g.z, .int .i64 g.k, .int .i64 g.a, .int .i64 g.f, .int .i64 g.u, .int .u64 g.m], .pointer (some ⟨B + 1, 0, none⟩), .pointer (some ⟨B + 3, 0, none⟩), .pointer (some ⟨B + 4, 0, none⟩), .pointer (some ⟨B + 2, 0, none⟩), .pointer (some ⟨B, 0, none⟩)] w fun e w' => e = .returned (.bool (okG s zone keys t d g)) ∧ Below w.heap.size w w' := by
  have hb1 := ((Below.refl _ w).alloc (Nat.le_refl _) (.cells #[.string g.z, .int .i64 g.k, .int .i64 g.a, .int .i64 g.f, .int .i64 g.u, .int .u64 g.m] 49)).alloc (by simp) (.cells #[.int .i64 g.k, .int .i64 g.a] 44)
  have hg1 : ((w.alloc (.cells #[.string g.z, .int .i64 g.k, .int .i64 g.a, .int .i64 g.f, .int .i64 g.u, .int .u64 g.m] 49)).alloc (.cells #[.int .i64 g.k, .int .i64 g.a] 44)).heap[w.heap.size]? = some (Obj.cells #[.string g.z, .int .i64 g.k, .int .i64 g.a, .int .i64 g.f, .int .i64 g.u, .int .u64 g.m] 49 (0, 0)) := by
    rw [heap_alloc_old _ _ (by simp)]; exact heap_alloc_new w _
  have hk1 : ((w.alloc (.cells #[.string g.z, .int .i64 g.k, .int .i64 g.a, .int .i64 g.f, .int .i64 g.u, .int .u64 g.m] 49)).alloc (.cells #[.int .i64 g.k, .int .i64 g.a] 44)).heap[w.heap.size + 1]? = some (Obj.cells #[.int .i64 g.k, .int .i64 g.a] 44 (0, 0)) := by
    have := heap_alloc_new (w.alloc (.cells #[.string g.z, .int .i64 g.k, .int .i64 g.a, .int .i64 g.f, .int .i64 g.u, .int .u64 g.m] 49)) (.cells #[.int .i64 g.k, .int .i64 g.a] 44)
    simpa using this
  have HB00 := Lib.hid ((Below.refl _ w).alloc (Nat.le_refl _) (.cells #[.string g.z, .int .i64 g.k, .int .i64 g.a, .int .i64 g.f, .int .i64 g.u, .int .u64 g.m] 49))
  have HCT := Lib.hid (contains_any g.k g.a kv keys _ (he.keep hb1).hk hkl)
  have HCK := Lib.hid (fun W (h : Env W B s sv zone kv keys t d) => check_any s g g.k g.a W h.hs h.hr hz)
  have HE1 := Lib.hid (he.keep hb1)
  obtain ⟨p, c, hvv⟩ := he.hs.hA.form
  obtain ⟨pk, ck, hkv⟩ := he.hk.form
  have hlt := he.lt
  obtain ⟨gz, gk, ga, gf, gu, gm⟩ := g
  obtain ⟨sx, st, sl, sw, sd⟩ := s
  simp only at hvv
  subst hvv hkv
  unfold okG
  simp only at hb1 hg1 hk1 HE1 HCT HCK HB00 ⊢
  have HG1 := Lib.hid hg1
  have HK1 := Lib.hid hk1
  have HB1 := Lib.hid hb1
  obtain ⟨x0, x1, x2, x3, x4, z0, k0, t0, d0, _, _, _⟩ := he
  simp only at x0 x1 x2 x3
  obtain ⟨t1, t2⟩ := ht
  obtain ⟨d1, d2⟩ := hd
  have l0 : B < w.heap.size := by omega
  have l1 : B + 1 < w.heap.size := by omega
  have l2 : B + 2 < w.heap.size := by omega
  have l3 : B + 3 < w.heap.size := by omega
  clear hg1 hb1 hk1 hz hkl
  by_cases q1 : gz = zone
  case neg =>
    rw [decide_eq_false q1, Bool.false_and, Bool.false_and, Bool.false_and]
    have e1 : (!gz.toList == zone.toList) = true := by
      rw [Bool.not_eq_true', beq_eq_false_iff_ne]
      intro h
      apply q1
      apply ByteArray.ext
      apply Array.toList_inj.1
      rw [← tl, ← tl]; exact h
    clear q1
    go_enter Tryd.func46, Tryd.ntmps46
    go_wp2
    go_ret
    exact ⟨rfl, HB00.out⟩
  rw [decide_eq_true q1, Bool.true_and]
  have e1 : (!gz.toList == zone.toList) = false := by rw [q1]; simp
  clear q1
  by_cases q2 : gf ≤ t - d
  case neg =>
    rw [decide_eq_false q2, Bool.false_and, Bool.false_and]
    have e2 : decide (t - d < gf) = true := decide_eq_true (by omega)
    clear q2
    go_enter Tryd.func46, Tryd.ntmps46
    go_wp2
    go_ret
    exact ⟨rfl, HB00.out⟩
  rw [decide_eq_true q2, Bool.true_and]
  have e2 : decide (t - d < gf) = false := decide_eq_false (by omega)
  clear q2
  by_cases q3 : t + d ≤ gu
  case neg =>
    rw [decide_eq_false q3, Bool.false_and]
    have e3 : decide (gu < t + d) = true := decide_eq_true (by omega)
    clear q3
    go_enter Tryd.func46, Tryd.ntmps46
    go_wp2
    go_ret
    exact ⟨rfl, HB00.out⟩
  rw [decide_eq_true q3, Bool.true_and]
  have e3 : decide (gu < t + d) = false := decide_eq_false (by omega)
  clear q3
  generalize keys.contains (gk, ga) = ct at *
  generalize checkB _ _ _ _ = ck at *
  cases ct
  · rw [Bool.false_and]
    go_enter Tryd.func46, Tryd.ntmps46
    go_wp2_with (go_at_call 47; (with_reducible refine (HCT.out).mono ?_); rintro e w1 ⟨rfl, hb2⟩; have HB2 := Lib.hid (HB1.out.trans (hb2.mono HB1.out.size)); clear hb2)
    go_ret
    exact ⟨rfl, HB2.out⟩
  · rw [Bool.true_and]
    go_enter Tryd.func46, Tryd.ntmps46
    go_wp2_with (go_at_call 47; fail)
    (with_reducible refine (HCT.out).mono ?_)
    rintro e w1 ⟨rfl, hb2⟩
    have HB2 := Lib.hid (HB1.out.trans (hb2.mono HB1.out.size))
    have hg2 := (hb2.block w.heap.size (by simp; omega)).trans HG1.out
    have hk2 := (hb2.block (w.heap.size + 1) (by simp)).trans HK1.out
    have he2 := HE1.out.keep hb2
    have HCK2 := Lib.hid (HCK.out w1 he2)
    obtain ⟨y0, y1, y2, y3, _, _, _, _, _, _, _, _⟩ := he2
    simp only at y0 y1 y2 y3
    have u0 := cell_of_blk hg2 0 (.string gz) rfl
    have u1 := cell_of_blk hg2 1 (.int .i64 gk) rfl
    have u2 := cell_of_blk hg2 2 (.int .i64 ga) rfl
    have u3 := cell_of_blk hg2 3 (.int .i64 gf) rfl
    have u4 := cell_of_blk hg2 4 (.int .i64 gu) rfl
    have u5 := cell_of_blk hg2 5 (.int .u64 gm) rfl
    have v0 := cell_of_blk hk2 0 (.int .i64 gk) rfl
    have v1 := cell_of_blk hk2 1 (.int .i64 ga) rfl
    clear hb2 hg2 hk2 x0 x1 x2 x3 x4 z0 k0 t0 d0 HCT HE1
    go_wp2_with (go_at_call 48; (with_reducible refine (HCK2.out).mono ?_); rintro e w2 ⟨rfl, hb3⟩; have HB3 := Lib.hid (HB2.out.trans (hb3.mono HB2.out.size)); clear hb3)
    go_ret
    exact ⟨rfl, HB3.out⟩
end Go.Proofs.YtkhckgknldiheaaDoor
