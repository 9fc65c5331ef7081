/- TrustSigned of layer 10, walked; no condition beyond those that each theorem names. -/
import Derived.Test.YtkhckgknldiheaaDoorTI
import Derived.Test.YtkhckgknldiheaaDoorVR
import Derived.Laws.BitsAllLaws
import Derived.Deep.CutRange
namespace Go.Proofs.YtkhckgknldiheaaDoor
set_option linter.unusedSimpArgs false
set_option linter.unusedVariables false
open Go.RowKit
open NmP SpP

set_option maxHeartbeats 1000000 in
theorem when_any (t d : Int) (w : World) : Calls Tryd.prog 21 #[.int .i64 t, .int .i64 d] w fun e w' => e = .returned (.bool (timeB t d)) ∧ w = w' := by
  unfold timeB
  generalize hd1 : decide (0 ≤ t) = d1
  generalize hd2 : decide (t ≤ 10000000) = d2
  generalize hd3 : decide (0 ≤ d) = d3
  generalize hd4 : decide (d ≤ 1000) = d4
  cases d1 <;> cases d2 <;> cases d3 <;> cases d4
  all_goals
    go_enter Tryd.func21, Tryd.ntmps21
    go_wp2
    go_ret
    exact ⟨rfl, rfl⟩
theorem time_facts {t d : Int} (h : timeB t d = true) : 0 ≤ t ∧ t ≤ 10000000 ∧ 0 ≤ d ∧ d ≤ 1000 := by
  unfold timeB at h
  simp only [Bool.and_eq_true, decide_eq_true_eq] at h
  omega
theorem signed_one (s : St) (g : Sg) (zone : ByteArray) (keys : List Sp) (t d : Int) (ht : timeB t d = true) : signedB s [g] zone keys t d = okG s zone keys t d g := by
  unfold signedB
  rw [ht, Bool.true_and, List.any_cons, List.any_nil, Bool.or_false]
theorem check_self (s : St) (z : ByteArray) (n a f u : Int) (h : signB s z n a f u = true) : checkB s ⟨z, n, a, f, u, sigSum s z n a f u⟩ n a = true := by
  unfold checkB
  rw [h]
  simp
theorem ts_right (s : St) (z : ByteArray) (n a n2 a2 f u t d : Int) (ht : timeB t d = true) (h : signB s z n a f u = true) :
    signedB s [⟨z, n, a, f, u, sigSum s z n a f u⟩] z [(n2, a2), (n, a)] t d = (decide (f ≤ t - d) && decide (t + d ≤ u)) := by
  rw [signed_one _ _ _ _ _ _ ht]
  unfold okG
  simp only
  rw [check_self s z n a f u h]
  simp
theorem ts_sum (s : St) (z : ByteArray) (n a f u m t d : Int) (keys : List Sp) (hm : sigSum s z n a f u ≠ m) :
    signedB s [⟨z, n, a, f, u, m⟩] z keys t d = false := by
  unfold signedB
  rw [List.any_cons, List.any_nil, Bool.or_false]
  unfold okG checkB
  simp only
  rw [decide_eq_false hm]
  simp
theorem ts_key (s : St) (z : ByteArray) (n a f u m t d n2 a2 : Int) (hk : ¬ (n2 = n ∧ a2 = a)) :
    signedB s [⟨z, n, a, f, u, m⟩] z [(n2, a2)] t d = false := by
  unfold signedB
  rw [List.any_cons, List.any_nil, Bool.or_false]
  unfold okG
  simp only
  have : [(n2, a2)].contains (n, a) = false := by
    rw [Bool.eq_false_iff]
    intro h
    rw [List.contains_iff_mem, List.mem_singleton] at h
    cases h
    exact hk ⟨rfl, rfl⟩
  rw [this]
  simp
theorem ts_zone (s : St) (z : ByteArray) (n a f u m t d : Int) (y : ByteArray) (keys : List Sp) (hz : z ≠ y) :
    signedB s [⟨z, n, a, f, u, m⟩] y keys t d = false := by
  unfold signedB
  rw [List.any_cons, List.any_nil, Bool.or_false]
  unfold okG
  simp only
  rw [decide_eq_false hz]
  simp
theorem ts_none (s : St) (z : ByteArray) (n a f u m t d : Int) (y : ByteArray) :
    signedB s [⟨z, n, a, f, u, m⟩] y [] t d = false := by
  unfold signedB
  rw [List.any_cons, List.any_nil, Bool.or_false]
  unfold okG
  simp
theorem xor_ne {a b : Nat} (hb : b ≠ 0) : a ^^^ b ≠ a := fun h => hb (by
  have h2 : a ^^^ (a ^^^ b) = a ^^^ a := by rw [h]
  rwa [← Nat.xor_assoc, Nat.xor_self, Nat.zero_xor] at h2)
/-- A sum with one bit changed is another one. -/
theorem bit_ne (s : St) (z : ByteArray) (n a f u : Int) (k : Nat) (hk : k < 64) :
    ∃ m : Int, bits .xor .u64 (sigSum s z n a f u) ((2 ^ k : Nat) : Int) = m ∧ sigSum s z n a f u ≠ m := by
  refine ⟨_, rfl, ?_⟩
  unfold sigSum
  have h2 : 2 ^ k < 2 ^ 64 := Nat.pow_lt_pow_right (by decide) hk
  rw [bits_xor_u64_nat _ _ (sumN_lt _ _ _) (by omega)]
  intro e
  have h0 : 2 ^ k ≠ 0 := by have := Nat.two_pow_pos k; omega
  exact xor_ne h0 (Int.ofNat.inj e).symm
/-- A slice of keys that is new. -/
theorem slS_new (W : World) (l : List Sp) (cs : Array Value) (T : TypeId) (hc : cs.toList = rowS l) (n : Nat) (hn : n = l.length) : SlS (.slice (some ⟨W.heap.size, 0, none⟩) n n) l (W.alloc (.cells cs T)) := by
  subst hn
  refine .inr ⟨_, _, _, rfl, by simp, fun m u hm => ?_⟩
  have h := heap_alloc_new W (.cells cs T)
  refine cell_of_blk h (0 + m) u ?_
  rw [Nat.zero_add, ← Array.getElem?_toList, hc]
  exact hm
/-- A slice of signatures that is new. -/
theorem slG_new (W : World) (l : List Sg) (cs : Array Value) (T : TypeId) (hc : cs.toList = rowG l) (n : Nat) (hn : n = l.length) : SlG (.slice (some ⟨W.heap.size, 0, none⟩) n n) l (W.alloc (.cells cs T)) := by
  subst hn
  refine .inr ⟨_, _, _, rfl, by simp, fun m u hm => ?_⟩
  have h := heap_alloc_new W (.cells cs T)
  refine cell_of_blk h (0 + m) u ?_
  rw [Nat.zero_add, ← Array.getElem?_toList, hc]
  exact hm
/-- A slice of signatures that is a block. -/
theorem slG_blk {W : World} {q : Nat} {T : TypeId} (l : List Sg) (cs : Array Value) (h : W.heap[q]? = some (Obj.cells cs T (0, 0))) (hc : cs.toList = rowG l) (n : Nat) (hn : n = l.length) : SlG (.slice (some ⟨q, 0, none⟩) n n) l W := by
  subst hn
  refine .inr ⟨_, _, _, rfl, (Array.getElem?_eq_some_iff.1 h).1, fun m u hm => ?_⟩
  refine cell_of_blk h (0 + m) u ?_
  rw [Nat.zero_add, ← Array.getElem?_toList, hc]
  exact hm
/-- The boxes of TrustSigned. -/
structure TBx (w W : World) (s : St) (n a n2 a2 : Int) : Prop where
  bel : Below w.heap.size w W
  sx : W.heap[w.heap.size]? = some (Obj.cells #[.string s.x, .int .i64 s.typ, .int .i64 s.life, s.v] 25 (0, 0))
  ky : W.heap[w.heap.size + 1]? = some (Obj.cells #[.int .i64 n, .int .i64 a] 44 (0, 0))
  k2 : W.heap[w.heap.size + 2]? = some (Obj.cells #[.int .i64 n2, .int .i64 a2] 44 (0, 0))
theorem TBx.keep {w W W' : World} {s : St} {n a n2 a2 : Int} (h : TBx w W s n a n2 a2) (hb : Below W.heap.size W W') : TBx w W' s n a n2 a2 :=
  ⟨h.bel.trans (hb.mono h.bel.size), (hb.block _ (Array.getElem?_eq_some_iff.1 h.sx).1).trans h.sx, (hb.block _ (Array.getElem?_eq_some_iff.1 h.ky).1).trans h.ky, (hb.block _ (Array.getElem?_eq_some_iff.1 h.k2).1).trans h.k2⟩
theorem TBx.lt {w W : World} {s : St} {n a n2 a2 : Int} (h : TBx w W s n a n2 a2) : w.heap.size + 2 < W.heap.size := (Array.getElem?_eq_some_iff.1 h.k2).1
theorem tboxes (w : World) (s : St) (n a n2 a2 : Int) :
    TBx w (((w.alloc (.cells #[.string s.x, .int .i64 s.typ, .int .i64 s.life, s.v] 25)).alloc (.cells #[.int .i64 n, .int .i64 a] 44)).alloc (.cells #[.int .i64 n2, .int .i64 a2] 44)) s n a n2 a2 := by
  refine ⟨(((Below.refl _ w).alloc (Nat.le_refl _) _).alloc (by simp) _).alloc (by (try simp); (try omega)) _, ?_, ?_, ?_⟩
  · rw [heap_alloc_old _ _ (by (try simp); (try omega)), heap_alloc_old _ _ (by simp)]
    exact heap_alloc_new w _
  · rw [heap_alloc_old _ _ (by simp)]
    have := heap_alloc_new (w.alloc (.cells #[.string s.x, .int .i64 s.typ, .int .i64 s.life, s.v] 25)) (.cells #[.int .i64 n, .int .i64 a] 44)
    rw [show (w.alloc (.cells #[.string s.x, .int .i64 s.typ, .int .i64 s.life, s.v] 25)).heap.size = w.heap.size + 1 by simp] at this
    exact this
  · have := heap_alloc_new ((w.alloc (.cells #[.string s.x, .int .i64 s.typ, .int .i64 s.life, s.v] 25)).alloc (.cells #[.int .i64 n, .int .i64 a] 44)) (.cells #[.int .i64 n2, .int .i64 a2] 44)
    rw [show ((w.alloc (.cells #[.string s.x, .int .i64 s.typ, .int .i64 s.life, s.v] 25)).alloc (.cells #[.int .i64 n, .int .i64 a] 44)).heap.size = w.heap.size + 2 by simp] at this
    exact this
end Go.Proofs.YtkhckgknldiheaaDoor

namespace Go.Proofs.YtkhckgknldiheaaDoor
set_option linter.unusedSimpArgs false
set_option linter.unusedVariables false
open Go.RowKit
open NmP SpP

/-- A signed set in a box, with one signature. -/
structure SX (W : World) (xb sb : Nat) (x : ByteArray) (typ life : Int) (pv : Option Addr) (nv cv : Nat) (z : ByteArray) (n a f u m : Int) : Prop where
  hx : W.heap[xb]? = some (Obj.cells #[.string x, .int .i64 typ, .int .i64 life, .slice pv nv cv, .slice (some ⟨sb, 0, none⟩) 1 1] 37 (0, 0))
  hg : W.heap[sb]? = some (Obj.cells #[.string z, .int .i64 n, .int .i64 a, .int .i64 f, .int .i64 u, .int .u64 m] 49 (0, 0))
theorem SX.keep {W W' : World} {xb sb : Nat} {x : ByteArray} {typ life : Int} {pv : Option Addr} {nv cv : Nat} {z : ByteArray} {n a f u m : Int} (h : SX W xb sb x typ life pv nv cv z n a f u m) (hb : Below W.heap.size W W') : SX W' xb sb x typ life pv nv cv z n a f u m :=
  ⟨(hb.block _ (Array.getElem?_eq_some_iff.1 h.hx).1).trans h.hx, (hb.block _ (Array.getElem?_eq_some_iff.1 h.hg).1).trans h.hg⟩
theorem sx_new (W : World) (x : ByteArray) (typ life : Int) (pv : Option Addr) (nv cv : Nat) (z : ByteArray) (n a f u m : Int) :
    SX ((W.alloc (.cells #[.string z, .int .i64 n, .int .i64 a, .int .i64 f, .int .i64 u, .int .u64 m] 49)).alloc (.cells #[.string x, .int .i64 typ, .int .i64 life, .slice pv nv cv, .slice (some ⟨W.heap.size, 0, none⟩) 1 1] 37)) (W.heap.size + 1) W.heap.size x typ life pv nv cv z n a f u m := by
  have h1 : (W.alloc (.cells #[.string z, .int .i64 n, .int .i64 a, .int .i64 f, .int .i64 u, .int .u64 m] 49)).heap[W.heap.size]? = some (Obj.cells #[.string z, .int .i64 n, .int .i64 a, .int .i64 f, .int .i64 u, .int .u64 m] 49 (0, 0)) := heap_alloc_new W _
  refine ⟨?_, (heap_alloc_old _ _ (Array.getElem?_eq_some_iff.1 h1).1).trans h1⟩
  have := heap_alloc_new (W.alloc (.cells #[.string z, .int .i64 n, .int .i64 a, .int .i64 f, .int .i64 u, .int .u64 m] 49)) (.cells #[.string x, .int .i64 typ, .int .i64 life, .slice pv nv cv, .slice (some ⟨W.heap.size, 0, none⟩) 1 1] 37)
  rw [show (W.alloc (.cells #[.string z, .int .i64 n, .int .i64 a, .int .i64 f, .int .i64 u, .int .u64 m] 49)).heap.size = W.heap.size + 1 by simp] at this
  exact this
theorem SX.slg {W : World} {xb sb : Nat} {x : ByteArray} {typ life : Int} {pv : Option Addr} {nv cv : Nat} {z : ByteArray} {n a f u m : Int} (h : SX W xb sb x typ life pv nv cv z n a f u m) : SlG (.slice (some ⟨sb, 0, none⟩) 1 1) [⟨z, n, a, f, u, m⟩] W :=
  slG_blk [⟨z, n, a, f, u, m⟩] _ h.hg rfl 1 rfl

theorem TBx.set {w W : World} {s : St} {n a n2 a2 : Int} (h : TBx w W s n a n2 a2) {q : Nat} (hq : w.heap.size + 2 < q) (j : Nat) (v : Value) : TBx w (W.setCell ⟨q, j, none⟩ v) s n a n2 a2 := by
  have o : ∀ k, k < q → (W.setCell ⟨q, j, none⟩ v).heap[k]? = W.heap[k]? := fun k hk => heap_setCell_other W ⟨q, j, none⟩ k _ (fun e => by have e2 : k = q := e; omega)
  exact ⟨h.bel.trans ⟨rfl, rfl, rfl, by simp, fun k hk => o k (by omega)⟩, (o _ (by omega)).trans h.sx, (o _ (by omega)).trans h.ky, (o _ (by omega)).trans h.k2⟩
theorem SX.set {W : World} {xb sb : Nat} {x : ByteArray} {typ life : Int} {pv : Option Addr} {nv cv : Nat} {z : ByteArray} {n a f u m : Int} (h : SX W xb sb x typ life pv nv cv z n a f u m) {q : Nat} (h1 : sb < q) (h2 : xb < q) (j : Nat) (v : Value) : SX (W.setCell ⟨q, j, none⟩ v) xb sb x typ life pv nv cv z n a f u m := by
  have o : ∀ k, k < q → (W.setCell ⟨q, j, none⟩ v).heap[k]? = W.heap[k]? := fun k hk => heap_setCell_other W ⟨q, j, none⟩ k _ (fun e => by have e2 : k = q := e; omega)
  exact ⟨(o _ h2).trans h.hx, (o _ h1).trans h.hg⟩
theorem SX.sum {W : World} {q : Nat} {x : ByteArray} {typ life : Int} {pv : Option Addr} {nv cv : Nat} {z : ByteArray} {n a f u m : Int} (h : SX W (q + 1) q x typ life pv nv cv z n a f u m) (k : Int) : SX (W.setCell ⟨q, 5, none⟩ (.int .u64 k)) (q + 1) q x typ life pv nv cv z n a f u k := by
  refine ⟨(heap_setCell_other W ⟨q, 5, none⟩ (q + 1) _ (fun e => by have e2 : q + 1 = q := e; omega)).trans h.hx, ?_⟩
  have := heap_setCell_same W q 5 _ _ (.int .u64 k) h.hg
  simpa using this
theorem wrap_pow (k : Nat) (hk : k < 64) : IntKind.u64.wrap (2 ^ k) = ((2 ^ k : Nat) : Int) := by
  have h2 : 2 ^ k < 2 ^ 64 := Nat.pow_lt_pow_right (by decide) hk
  rw [IntKind.wrap_u64, show (2 : Int) ^ k = ((2 ^ k : Nat) : Int) by push_cast; rfl]
  exact Int.emod_eq_of_lt (Int.natCast_nonneg _) (Int.ofNat_lt.2 h2)

set_option maxHeartbeats 4000000 in
set_option maxRecDepth 100000 in
theorem tsigned_walk (s : St) (z : ByteArray) (n a n2 a2 f u t d b : Int) (w : World) (hs : s.In w) (hn : s.l.length ≤ maxLen) (hz : z.size ≤ maxLen) (hr : RulesAt w) (hb8 : 0 ≤ b ∧ b ≤ 255) :
    Calls Tryd.prog 4 #[.agg #[.string s.x, .int .i64 s.typ, .int .i64 s.life, s.v], .string z, .agg #[.int .i64 n, .int .i64 a], .int .i64 f, .int .i64 u, .int .i64 t, .int .i64 d, .int .u8 b, .agg #[.int .i64 n2, .int .i64 a2]] w fun e w' => e = .returned (.bool true) ∧ Below w.heap.size w w' := by
  obtain ⟨pv, cv, hv⟩ := hs.hA.form
  have AB0 := Lib.hid (tboxes w s n a n2 a2)
  have CH := Lib.hid (fun W (hb : Below w.heap.size w W) => head_any W (hr.keep hb))
  have CV := Lib.hid (fun W (hb : Below w.heap.size w W) => rvset_any s.x s.typ s.life s.v s.l W hs.hx hn hs.hs (hs.hA.keep hb))
  have CW := Lib.hid (fun W => when_any t d W)
  have CS := Lib.hid (fun W (hb : Below w.heap.size w W) => sign_any s z n a f u W (hs.keep hb) (hr.keep hb) hz)
  have CT := Lib.hid (fun W sv sigs zone kv keys (hb : Below w.heap.size w W) (hk : SlS kv keys W) (hg : SlG sv sigs W) (hgz : ∀ g ∈ sigs, g.z.size ≤ maxLen) (hkl : keys.length ≤ maxLen) (hgl : sigs.length ≤ maxLen) => signed_any s sv sigs zone kv keys t d W (hs.keep hb) (hr.keep hb) hk hg hgz hkl hgl)
  have HT1 := Lib.hid (fun ht h => ts_right s z n a n2 a2 f u t d ht h)
  have HT2 := Lib.hid (fun m keys hm => ts_sum s z n a f u m t d keys hm)
  have HT3 := Lib.hid (fun m hk => ts_key s z n a f u m t d n2 a2 hk)
  have HT4 := Lib.hid (fun m y keys hy => ts_zone s z n a f u m t d y keys hy)
  have HT5 := Lib.hid (fun m y => ts_none s z n a f u m t d y)
  have HBT := Lib.hid (fun k hk => bit_ne s z n a f u k hk)
  have HZ := Lib.hid hz
  obtain ⟨x, typ, life, v, l⟩ := s
  simp only at hv
  subst hv
  obtain ⟨nv, hnv⟩ : ∃ n, l.length = n := ⟨_, rfl⟩
  rw [hnv] at AB0 CV CS CT HT1 HT2 HT3 HT4 HT5 HBT hn ⊢
  have hlv : nv ≤ 9223372036854775807 := hn
  simp only at AB0 CV CS CT HT1 HT2 HT3 HT4 HT5 HBT ⊢
  unfold ToB at CV
  unfold signV at CS
  clear hs hz hr hn hnv
  by_cases c1 : 20 < nv
  · clear HT1 HT2 HT3 HT4 HT5 HBT CT CS
    as_aux_lemma =>
      go_enter Tryd.func4, Tryd.ntmps4
      go_wp2_with (first | (go_at_call 9; (with_reducible refine (CH.out _ AB0.out.bel).mono ?_); rintro e w1 ⟨rfl, hb⟩; have AB1 := Lib.hid (AB0.out.keep hb); clear hb; have c0 := cell_of_blk AB1.out.sx 0 (.string x) rfl; have c1 := cell_of_blk AB1.out.sx 1 (.int .i64 typ) rfl; have c2 := cell_of_blk AB1.out.sx 2 (.int .i64 life) rfl; have c3 := cell_of_blk AB1.out.sx 3 (.slice pv nv cv) rfl; have k0 := cell_of_blk AB1.out.ky 0 (.int .i64 n) rfl; have k1 := cell_of_blk AB1.out.ky 1 (.int .i64 a) rfl; have o0 := cell_of_blk AB1.out.k2 0 (.int .i64 n2) rfl; have o1 := cell_of_blk AB1.out.k2 1 (.int .i64 a2) rfl; have z3 := AB1.out.lt))
      go_ret
      exact ⟨rfl, AB1.out.bel⟩
  cases hv : setB x.toList typ life l
  · rw [hv] at CV
    clear hv HT1 HT2 HT3 HT4 HT5 HBT CT CS
    as_aux_lemma =>
      go_enter Tryd.func4, Tryd.ntmps4
      go_wp2_with (first | (go_at_call 9; (with_reducible refine (CH.out _ AB0.out.bel).mono ?_); rintro e w1 ⟨rfl, hb⟩; have AB1 := Lib.hid (AB0.out.keep hb); clear hb; have c0 := cell_of_blk AB1.out.sx 0 (.string x) rfl; have c1 := cell_of_blk AB1.out.sx 1 (.int .i64 typ) rfl; have c2 := cell_of_blk AB1.out.sx 2 (.int .i64 life) rfl; have c3 := cell_of_blk AB1.out.sx 3 (.slice pv nv cv) rfl; have k0 := cell_of_blk AB1.out.ky 0 (.int .i64 n) rfl; have k1 := cell_of_blk AB1.out.ky 1 (.int .i64 a) rfl; have o0 := cell_of_blk AB1.out.k2 0 (.int .i64 n2) rfl; have o1 := cell_of_blk AB1.out.k2 1 (.int .i64 a2) rfl; have z3 := AB1.out.lt) | (go_at_call 20; (with_reducible refine (CV.out _ AB1.out.bel).mono ?_); rintro e w2 ⟨rfl, hb⟩; have AB2 := Lib.hid (AB1.out.keep hb); clear hb; clear c0 c1 c2 c3 k0 k1 o0 o1 z3; have c0 := cell_of_blk AB2.out.sx 0 (.string x) rfl; have c1 := cell_of_blk AB2.out.sx 1 (.int .i64 typ) rfl; have c2 := cell_of_blk AB2.out.sx 2 (.int .i64 life) rfl; have c3 := cell_of_blk AB2.out.sx 3 (.slice pv nv cv) rfl; have k0 := cell_of_blk AB2.out.ky 0 (.int .i64 n) rfl; have k1 := cell_of_blk AB2.out.ky 1 (.int .i64 a) rfl; have o0 := cell_of_blk AB2.out.k2 0 (.int .i64 n2) rfl; have o1 := cell_of_blk AB2.out.k2 1 (.int .i64 a2) rfl; have z3 := AB2.out.lt))
      go_ret
      exact ⟨rfl, AB2.out.bel⟩
  rw [hv] at CV
  clear hv
  cases ht : timeB t d
  · rw [ht] at CW
    clear ht HT1 HT2 HT3 HT4 HT5 HBT CT CS
    as_aux_lemma =>
      go_enter Tryd.func4, Tryd.ntmps4
      go_wp2_with (first | (go_at_call 9; (with_reducible refine (CH.out _ AB0.out.bel).mono ?_); rintro e w1 ⟨rfl, hb⟩; have AB1 := Lib.hid (AB0.out.keep hb); clear hb; have c0 := cell_of_blk AB1.out.sx 0 (.string x) rfl; have c1 := cell_of_blk AB1.out.sx 1 (.int .i64 typ) rfl; have c2 := cell_of_blk AB1.out.sx 2 (.int .i64 life) rfl; have c3 := cell_of_blk AB1.out.sx 3 (.slice pv nv cv) rfl; have k0 := cell_of_blk AB1.out.ky 0 (.int .i64 n) rfl; have k1 := cell_of_blk AB1.out.ky 1 (.int .i64 a) rfl; have o0 := cell_of_blk AB1.out.k2 0 (.int .i64 n2) rfl; have o1 := cell_of_blk AB1.out.k2 1 (.int .i64 a2) rfl; have z3 := AB1.out.lt) | (go_at_call 20; (with_reducible refine (CV.out _ AB1.out.bel).mono ?_); rintro e w2 ⟨rfl, hb⟩; have AB2 := Lib.hid (AB1.out.keep hb); clear hb; clear c0 c1 c2 c3 k0 k1 o0 o1 z3; have c0 := cell_of_blk AB2.out.sx 0 (.string x) rfl; have c1 := cell_of_blk AB2.out.sx 1 (.int .i64 typ) rfl; have c2 := cell_of_blk AB2.out.sx 2 (.int .i64 life) rfl; have c3 := cell_of_blk AB2.out.sx 3 (.slice pv nv cv) rfl; have k0 := cell_of_blk AB2.out.ky 0 (.int .i64 n) rfl; have k1 := cell_of_blk AB2.out.ky 1 (.int .i64 a) rfl; have o0 := cell_of_blk AB2.out.k2 0 (.int .i64 n2) rfl; have o1 := cell_of_blk AB2.out.k2 1 (.int .i64 a2) rfl; have z3 := AB2.out.lt) | (go_at_call 21; (with_reducible refine (CW.out _).mono ?_); rintro e w' ⟨rfl, rfl⟩))
      go_ret
      exact ⟨rfl, AB2.out.bel⟩
  rw [ht] at CW
  cases hsb : signB ⟨x, typ, life, .slice pv nv cv, l⟩ z n a f u
  · rw [hsb, if_neg (by simp)] at CS
    clear ht hsb HT1 HT2 HT3 HT4 HT5 HBT CT
    as_aux_lemma =>
      go_enter Tryd.func4, Tryd.ntmps4
      go_wp2_with (first | (go_at_call 9; (with_reducible refine (CH.out _ AB0.out.bel).mono ?_); rintro e w1 ⟨rfl, hb⟩; have AB1 := Lib.hid (AB0.out.keep hb); clear hb; have c0 := cell_of_blk AB1.out.sx 0 (.string x) rfl; have c1 := cell_of_blk AB1.out.sx 1 (.int .i64 typ) rfl; have c2 := cell_of_blk AB1.out.sx 2 (.int .i64 life) rfl; have c3 := cell_of_blk AB1.out.sx 3 (.slice pv nv cv) rfl; have k0 := cell_of_blk AB1.out.ky 0 (.int .i64 n) rfl; have k1 := cell_of_blk AB1.out.ky 1 (.int .i64 a) rfl; have o0 := cell_of_blk AB1.out.k2 0 (.int .i64 n2) rfl; have o1 := cell_of_blk AB1.out.k2 1 (.int .i64 a2) rfl; have z3 := AB1.out.lt) | (go_at_call 20; (with_reducible refine (CV.out _ AB1.out.bel).mono ?_); rintro e w2 ⟨rfl, hb⟩; have AB2 := Lib.hid (AB1.out.keep hb); clear hb; clear c0 c1 c2 c3 k0 k1 o0 o1 z3; have c0 := cell_of_blk AB2.out.sx 0 (.string x) rfl; have c1 := cell_of_blk AB2.out.sx 1 (.int .i64 typ) rfl; have c2 := cell_of_blk AB2.out.sx 2 (.int .i64 life) rfl; have c3 := cell_of_blk AB2.out.sx 3 (.slice pv nv cv) rfl; have k0 := cell_of_blk AB2.out.ky 0 (.int .i64 n) rfl; have k1 := cell_of_blk AB2.out.ky 1 (.int .i64 a) rfl; have o0 := cell_of_blk AB2.out.k2 0 (.int .i64 n2) rfl; have o1 := cell_of_blk AB2.out.k2 1 (.int .i64 a2) rfl; have z3 := AB2.out.lt) | (go_at_call 21; (with_reducible refine (CW.out _).mono ?_); rintro e w' ⟨rfl, rfl⟩) | (go_at_call 22; (with_reducible refine (CS.out _ AB2.out.bel).mono ?_); rintro e w3 ⟨rfl, hb⟩; have AB3 := Lib.hid (AB2.out.keep hb); clear hb; clear c0 c1 c2 c3 k0 k1 o0 o1 z3; have c0 := cell_of_blk AB3.out.sx 0 (.string x) rfl; have c1 := cell_of_blk AB3.out.sx 1 (.int .i64 typ) rfl; have c2 := cell_of_blk AB3.out.sx 2 (.int .i64 life) rfl; have c3 := cell_of_blk AB3.out.sx 3 (.slice pv nv cv) rfl; have k0 := cell_of_blk AB3.out.ky 0 (.int .i64 n) rfl; have k1 := cell_of_blk AB3.out.ky 1 (.int .i64 a) rfl; have o0 := cell_of_blk AB3.out.k2 0 (.int .i64 n2) rfl; have o1 := cell_of_blk AB3.out.k2 1 (.int .i64 a2) rfl; have z3 := AB3.out.lt))
      go_ret
      exact ⟨rfl, AB3.out.bel.alloc AB3.out.bel.size _⟩
  rw [hsb, if_pos rfl] at CS
  obtain ⟨t1, t2, d1, d2⟩ := time_facts ht
  have R1 := Lib.hid (HT1.out ht hsb)
  clear hsb ht HT1
  obtain ⟨sm, hsm⟩ : ∃ sm, sigSum ⟨x, typ, life, .slice pv nv cv, l⟩ z n a f u = sm := ⟨_, rfl⟩
  rw [hsm] at CS R1 HT2 HBT
  clear hsm
  go_enter Tryd.func4, Tryd.ntmps4
  go_upto_region 7 with (first | (go_at_call 9; (with_reducible refine (CH.out _ AB0.out.bel).mono ?_); rintro e w1 ⟨rfl, hb⟩; have AB1 := Lib.hid (AB0.out.keep hb); clear hb; have c0 := cell_of_blk AB1.out.sx 0 (.string x) rfl; have c1 := cell_of_blk AB1.out.sx 1 (.int .i64 typ) rfl; have c2 := cell_of_blk AB1.out.sx 2 (.int .i64 life) rfl; have c3 := cell_of_blk AB1.out.sx 3 (.slice pv nv cv) rfl; have k0 := cell_of_blk AB1.out.ky 0 (.int .i64 n) rfl; have k1 := cell_of_blk AB1.out.ky 1 (.int .i64 a) rfl; have o0 := cell_of_blk AB1.out.k2 0 (.int .i64 n2) rfl; have o1 := cell_of_blk AB1.out.k2 1 (.int .i64 a2) rfl; have z3 := AB1.out.lt) | (go_at_call 20; (with_reducible refine (CV.out _ AB1.out.bel).mono ?_); rintro e w2 ⟨rfl, hb⟩; have AB2 := Lib.hid (AB1.out.keep hb); clear hb; clear c0 c1 c2 c3 k0 k1 o0 o1 z3; have c0 := cell_of_blk AB2.out.sx 0 (.string x) rfl; have c1 := cell_of_blk AB2.out.sx 1 (.int .i64 typ) rfl; have c2 := cell_of_blk AB2.out.sx 2 (.int .i64 life) rfl; have c3 := cell_of_blk AB2.out.sx 3 (.slice pv nv cv) rfl; have k0 := cell_of_blk AB2.out.ky 0 (.int .i64 n) rfl; have k1 := cell_of_blk AB2.out.ky 1 (.int .i64 a) rfl; have o0 := cell_of_blk AB2.out.k2 0 (.int .i64 n2) rfl; have o1 := cell_of_blk AB2.out.k2 1 (.int .i64 a2) rfl; have z3 := AB2.out.lt) | (go_at_call 21; (with_reducible refine (CW.out _).mono ?_); rintro e w' ⟨rfl, rfl⟩) | (go_at_call 22; (with_reducible refine (CS.out _ AB2.out.bel).mono ?_); rintro e w3 ⟨rfl, hb⟩; have AB3 := Lib.hid (AB2.out.keep hb); clear hb; clear c0 c1 c2 c3 k0 k1 o0 o1 z3; have c0 := cell_of_blk AB3.out.sx 0 (.string x) rfl; have c1 := cell_of_blk AB3.out.sx 1 (.int .i64 typ) rfl; have c2 := cell_of_blk AB3.out.sx 2 (.int .i64 life) rfl; have c3 := cell_of_blk AB3.out.sx 3 (.slice pv nv cv) rfl; have k0 := cell_of_blk AB3.out.ky 0 (.int .i64 n) rfl; have k1 := cell_of_blk AB3.out.ky 1 (.int .i64 a) rfl; have o0 := cell_of_blk AB3.out.k2 0 (.int .i64 n2) rfl; have o1 := cell_of_blk AB3.out.k2 1 (.int .i64 a2) rfl; have z3 := AB3.out.lt))
  have AB4 := Lib.hid (AB3.out.keep (bnewE w3 (.cells #[.string z, .int .i64 n, .int .i64 a, .int .i64 f, .int .i64 u, .int .u64 sm] 49)))
  have X4 : Hid ((w3.alloc (.cells #[.string z, .int .i64 n, .int .i64 a, .int .i64 f, .int .i64 u, .int .u64 sm] 49)).heap[w3.heap.size]? = some (Obj.cells #[.string z, .int .i64 n, .int .i64 a, .int .i64 f, .int .i64 u, .int .u64 sm] 49 (0, 0))) := Lib.hid (heap_alloc_new w3 _)
  obtain ⟨r, hrr⟩ : ∃ r, w3.heap.size = r := ⟨_, rfl⟩
  rw [hrr] at X4 ⊢
  clear c0 c1 c2 c3 k0 k1 o0 o1 z3
  generalize w3.alloc _ = W4 at *
  clear hrr CS CH CV CW AB0 AB1 AB2 AB3
  have c0 := cell_of_blk AB4.out.sx 0 (.string x) rfl; have c1 := cell_of_blk AB4.out.sx 1 (.int .i64 typ) rfl; have c2 := cell_of_blk AB4.out.sx 2 (.int .i64 life) rfl; have c3 := cell_of_blk AB4.out.sx 3 (.slice pv nv cv) rfl; have k0 := cell_of_blk AB4.out.ky 0 (.int .i64 n) rfl; have k1 := cell_of_blk AB4.out.ky 1 (.int .i64 a) rfl; have o0 := cell_of_blk AB4.out.k2 0 (.int .i64 n2) rfl; have o1 := cell_of_blk AB4.out.k2 1 (.int .i64 a2) rfl; have z3 := AB4.out.lt
  have g0 := cell_of_blk X4.out 0 (.string z) rfl
  have g1 := cell_of_blk X4.out 1 (.int .i64 n) rfl
  have g2 := cell_of_blk X4.out 2 (.int .i64 a) rfl
  have g3 := cell_of_blk X4.out 3 (.int .i64 f) rfl
  have g4 := cell_of_blk X4.out 4 (.int .i64 u) rfl
  have g5 := cell_of_blk X4.out 5 (.int .u64 sm) rfl
  go_upto_region 8 with fail
  have AB5 := Lib.hid ((AB4.out.keep (bnewE W4 (.cells #[.string z, .int .i64 n, .int .i64 a, .int .i64 f, .int .i64 u, .int .u64 sm] 49))).keep (bnewE (W4.alloc (.cells #[.string z, .int .i64 n, .int .i64 a, .int .i64 f, .int .i64 u, .int .u64 sm] 49)) (.cells #[.string x, .int .i64 typ, .int .i64 life, .slice pv nv cv, .slice (some ⟨W4.heap.size, 0, none⟩) 1 1] 37)))
  have X5 := Lib.hid ((heap_alloc_old (W4.alloc (.cells #[.string z, .int .i64 n, .int .i64 a, .int .i64 f, .int .i64 u, .int .u64 sm] 49)) (.cells #[.string x, .int .i64 typ, .int .i64 life, .slice pv nv cv, .slice (some ⟨W4.heap.size, 0, none⟩) 1 1] 37) (Nat.lt_of_lt_of_le (Array.getElem?_eq_some_iff.1 X4.out).1 (bnewE W4 _).size)).trans ((heap_alloc_old W4 (.cells #[.string z, .int .i64 n, .int .i64 a, .int .i64 f, .int .i64 u, .int .u64 sm] 49) (Array.getElem?_eq_some_iff.1 X4.out).1).trans X4.out))
  have S5 := Lib.hid (sx_new W4 x typ life pv nv cv z n a f u sm)
  clear g0 g1 g2 g3 g4 g5
  clear c0 c1 c2 c3 k0 k1 o0 o1 z3
  generalize (W4.alloc _).alloc _ = W5 at *
  obtain ⟨xb, hxb⟩ : ∃ q, W4.heap.size + 1 = q := ⟨_, rfl⟩
  obtain ⟨sb, hsb⟩ : ∃ q, W4.heap.size = q := ⟨_, rfl⟩
  rw [hxb] at S5 ⊢
  rw [hsb] at S5 ⊢
  clear hxb hsb X4 AB4
  have c0 := cell_of_blk AB5.out.sx 0 (.string x) rfl; have c1 := cell_of_blk AB5.out.sx 1 (.int .i64 typ) rfl; have c2 := cell_of_blk AB5.out.sx 2 (.int .i64 life) rfl; have c3 := cell_of_blk AB5.out.sx 3 (.slice pv nv cv) rfl; have k0 := cell_of_blk AB5.out.ky 0 (.int .i64 n) rfl; have k1 := cell_of_blk AB5.out.ky 1 (.int .i64 a) rfl; have o0 := cell_of_blk AB5.out.k2 0 (.int .i64 n2) rfl; have o1 := cell_of_blk AB5.out.k2 1 (.int .i64 a2) rfl; have z3 := AB5.out.lt
  have x0 := cell_of_blk S5.out.hx 0 (.string x) rfl
  have x1 := cell_of_blk S5.out.hx 1 (.int .i64 typ) rfl
  have x2 := cell_of_blk S5.out.hx 2 (.int .i64 life) rfl
  have x3 := cell_of_blk S5.out.hx 3 (.slice pv nv cv) rfl
  have x4 := cell_of_blk S5.out.hx 4 (.slice (some ⟨sb, 0, none⟩) 1 1) rfl
  have C1 : Hid (∀ W xb sb, Below w.heap.size w W → SX W xb sb x typ life pv nv cv z n a f u sm → Calls Tryd.prog 18 #[.agg #[.string x, .int .i64 typ, .int .i64 life, .slice pv nv cv, .slice (some ⟨sb, 0, none⟩) 1 1], .string z, .slice (some ⟨W.heap.size, 0, none⟩) 2 2, .int .i64 t, .int .i64 d] (W.alloc (.cells #[.int .i64 n2, .int .i64 a2, .int .i64 n, .int .i64 a] 44)) fun e w' => e = .returned (.bool (decide (f ≤ t - d) && decide (t + d ≤ u))) ∧ Below W.heap.size W w') := Lib.hid (fun W xb sb hb hS => by
    have hS2 := hS.keep (bnewE W (.cells #[.int .i64 n2, .int .i64 a2, .int .i64 n, .int .i64 a] 44))
    have q := CT.out (W.alloc (.cells #[.int .i64 n2, .int .i64 a2, .int .i64 n, .int .i64 a] 44)) (.slice (some ⟨sb, 0, none⟩) 1 1) [⟨z, n, a, f, u, sm⟩] z (.slice (some ⟨W.heap.size, 0, none⟩) 2 2) [(n2, a2), (n, a)] (hb.alloc hb.size _) (slS_new W [(n2, a2), (n, a)] _ _ rfl 2 rfl) hS2.slg (fun g hg => by rw [List.mem_singleton.1 hg]; exact HZ.out) (by simp [maxLen]) (by simp [maxLen])
    rw [R1.out] at q
    exact q.mono (fun e w' h => ⟨h.1, (bnewE W _).trans (h.2.mono (by simp))⟩))
  have C2 : Hid (∀ W xb sb m, sm ≠ m → Below w.heap.size w W → SX W xb sb x typ life pv nv cv z n a f u m → Calls Tryd.prog 18 #[.agg #[.string x, .int .i64 typ, .int .i64 life, .slice pv nv cv, .slice (some ⟨sb, 0, none⟩) 1 1], .string z, .slice (some ⟨W.heap.size, 0, none⟩) 1 1, .int .i64 t, .int .i64 d] (W.alloc (.cells #[.int .i64 n, .int .i64 a] 44)) fun e w' => e = .returned (.bool false) ∧ Below W.heap.size W w') := Lib.hid (fun W xb sb m hm hb hS => by
    have hS2 := hS.keep (bnewE W (.cells #[.int .i64 n, .int .i64 a] 44))
    have q := CT.out (W.alloc (.cells #[.int .i64 n, .int .i64 a] 44)) (.slice (some ⟨sb, 0, none⟩) 1 1) [⟨z, n, a, f, u, m⟩] z (.slice (some ⟨W.heap.size, 0, none⟩) 1 1) [(n, a)] (hb.alloc hb.size _) (slS_new W [(n, a)] _ _ rfl 1 rfl) hS2.slg (fun g hg => by rw [List.mem_singleton.1 hg]; exact HZ.out) (by simp [maxLen]) (by simp [maxLen])
    rw [HT2.out m _ hm] at q
    exact q.mono (fun e w' h => ⟨h.1, (bnewE W _).trans (h.2.mono (by simp))⟩))
  have C3 : Hid (¬ (n2 = n ∧ a2 = a) → ∀ W xb sb, Below w.heap.size w W → SX W xb sb x typ life pv nv cv z n a f u sm → Calls Tryd.prog 18 #[.agg #[.string x, .int .i64 typ, .int .i64 life, .slice pv nv cv, .slice (some ⟨sb, 0, none⟩) 1 1], .string z, .slice (some ⟨W.heap.size, 0, none⟩) 1 1, .int .i64 t, .int .i64 d] (W.alloc (.cells #[.int .i64 n2, .int .i64 a2] 44)) fun e w' => e = .returned (.bool false) ∧ Below W.heap.size W w') := Lib.hid (fun hk W xb sb hb hS => by
    have hS2 := hS.keep (bnewE W (.cells #[.int .i64 n2, .int .i64 a2] 44))
    have q := CT.out (W.alloc (.cells #[.int .i64 n2, .int .i64 a2] 44)) (.slice (some ⟨sb, 0, none⟩) 1 1) [⟨z, n, a, f, u, sm⟩] z (.slice (some ⟨W.heap.size, 0, none⟩) 1 1) [(n2, a2)] (hb.alloc hb.size _) (slS_new W [(n2, a2)] _ _ rfl 1 rfl) hS2.slg (fun g hg => by rw [List.mem_singleton.1 hg]; exact HZ.out) (by simp [maxLen]) (by simp [maxLen])
    rw [HT3.out sm hk] at q
    exact q.mono (fun e w' h => ⟨h.1, (bnewE W _).trans (h.2.mono (by simp))⟩))
  have C4 : Hid (z ≠ dotB → ∀ W xb sb, Below w.heap.size w W → SX W xb sb x typ life pv nv cv z n a f u sm → Calls Tryd.prog 18 #[.agg #[.string x, .int .i64 typ, .int .i64 life, .slice pv nv cv, .slice (some ⟨sb, 0, none⟩) 1 1], .string ⟨#[46]⟩, .slice (some ⟨W.heap.size, 0, none⟩) 1 1, .int .i64 t, .int .i64 d] (W.alloc (.cells #[.int .i64 n, .int .i64 a] 44)) fun e w' => e = .returned (.bool false) ∧ Below W.heap.size W w') := Lib.hid (fun hz W xb sb hb hS => by
    have hS2 := hS.keep (bnewE W (.cells #[.int .i64 n, .int .i64 a] 44))
    have q := CT.out (W.alloc (.cells #[.int .i64 n, .int .i64 a] 44)) (.slice (some ⟨sb, 0, none⟩) 1 1) [⟨z, n, a, f, u, sm⟩] dotB (.slice (some ⟨W.heap.size, 0, none⟩) 1 1) [(n, a)] (hb.alloc hb.size _) (slS_new W [(n, a)] _ _ rfl 1 rfl) hS2.slg (fun g hg => by rw [List.mem_singleton.1 hg]; exact HZ.out) (by simp [maxLen]) (by simp [maxLen])
    rw [HT4.out sm dotB _ hz] at q
    exact q.mono (fun e w' h => ⟨h.1, (bnewE W _).trans (h.2.mono (by simp))⟩))
  have C5 : Hid (∀ W xb sb, Below w.heap.size w W → SX W xb sb x typ life pv nv cv z n a f u sm → Calls Tryd.prog 18 #[.agg #[.string x, .int .i64 typ, .int .i64 life, .slice pv nv cv, .slice (some ⟨sb, 0, none⟩) 1 1], .string z, .slice none 0 0, .int .i64 t, .int .i64 d] W fun e w' => e = .returned (.bool false) ∧ Below W.heap.size W w') := Lib.hid (fun W xb sb hb hS => by
    have q := CT.out W (.slice (some ⟨sb, 0, none⟩) 1 1) [⟨z, n, a, f, u, sm⟩] z (.slice none 0 0) [] hb (.inl ⟨rfl, none, 0, rfl⟩) hS.slg (fun g hg => by rw [List.mem_singleton.1 hg]; exact HZ.out) (by simp [maxLen]) (by simp [maxLen])
    rw [HT5.out sm z] at q
    exact q)
  clear CT R1 HT2 HT3 HT4 HT5 HZ
  go_cut [23] from 58 to 69 (fun s23 wx => s23 = .bool (decide (f ≤ t - d) && decide (t + d ≤ u)) ∧ wx = W5)
  case first =>
    by_cases p1 : f ≤ t - d
    · go_wp2_with fail
      go_meet
      exact ⟨by rw [decide_eq_true p1, Bool.true_and], rfl⟩
    · go_wp2_with fail
      go_meet
      exact ⟨by rw [decide_eq_false (show ¬ f ≤ t - d by omega), Bool.false_and], rfl⟩
  case rest =>
    obtain ⟨rfl, rfl⟩ := hcut
    generalize (decide (f ≤ t - d) && decide (t + d ≤ u)) = bw at *
    go_upto_region 12 with (first | (go_at_call 18; (with_reducible refine (C1.out _ _ _ AB5.out.bel S5.out).mono ?_); rintro e w6 ⟨rfl, hb⟩; have AB6 := Lib.hid (AB5.out.keep hb); have S6 := Lib.hid (S5.out.keep hb); have X6 := Lib.hid ((hb.block r (Array.getElem?_eq_some_iff.1 X5.out).1).trans X5.out); clear hb x0 x1 x2 x3 x4; clear c0 c1 c2 c3 k0 k1 o0 o1 z3; have c0 := cell_of_blk AB6.out.sx 0 (.string x) rfl; have c1 := cell_of_blk AB6.out.sx 1 (.int .i64 typ) rfl; have c2 := cell_of_blk AB6.out.sx 2 (.int .i64 life) rfl; have c3 := cell_of_blk AB6.out.sx 3 (.slice pv nv cv) rfl; have k0 := cell_of_blk AB6.out.ky 0 (.int .i64 n) rfl; have k1 := cell_of_blk AB6.out.ky 1 (.int .i64 a) rfl; have o0 := cell_of_blk AB6.out.k2 0 (.int .i64 n2) rfl; have o1 := cell_of_blk AB6.out.k2 1 (.int .i64 a2) rfl; have z3 := AB6.out.lt; have g0 := cell_of_blk X6.out 0 (.string z) rfl; have g1 := cell_of_blk X6.out 1 (.int .i64 n) rfl; have g2 := cell_of_blk X6.out 2 (.int .i64 a) rfl; have g3 := cell_of_blk X6.out 3 (.int .i64 f) rfl; have g4 := cell_of_blk X6.out 4 (.int .i64 u) rfl; have g5 := cell_of_blk X6.out 5 (.int .u64 sm) rfl; have x0 := cell_of_blk S6.out.hx 0 (.string x) rfl; have x1 := cell_of_blk S6.out.hx 1 (.int .i64 typ) rfl; have x2 := cell_of_blk S6.out.hx 2 (.int .i64 life) rfl; have x3 := cell_of_blk S6.out.hx 3 (.slice pv nv cv) rfl; have x4 := cell_of_blk S6.out.hx 4 (.slice (some ⟨sb, 0, none⟩) 1 1) rfl))
    have T7 := Lib.hid (sx_new w6 x typ life pv nv cv z n a f u sm)
    have AB7 := Lib.hid ((AB6.out.keep (bnewE w6 (.cells #[.string z, .int .i64 n, .int .i64 a, .int .i64 f, .int .i64 u, .int .u64 sm] 49))).keep (bnewE (w6.alloc (.cells #[.string z, .int .i64 n, .int .i64 a, .int .i64 f, .int .i64 u, .int .u64 sm] 49)) (.cells #[.string x, .int .i64 typ, .int .i64 life, .slice pv nv cv, .slice (some ⟨w6.heap.size, 0, none⟩) 1 1] 37)))
    have S7 := Lib.hid ((S6.out.keep (bnewE w6 (.cells #[.string z, .int .i64 n, .int .i64 a, .int .i64 f, .int .i64 u, .int .u64 sm] 49))).keep (bnewE (w6.alloc (.cells #[.string z, .int .i64 n, .int .i64 a, .int .i64 f, .int .i64 u, .int .u64 sm] 49)) (.cells #[.string x, .int .i64 typ, .int .i64 life, .slice pv nv cv, .slice (some ⟨w6.heap.size, 0, none⟩) 1 1] 37)))
    have HN6 : Hid (sb < w6.heap.size ∧ xb < w6.heap.size ∧ w.heap.size + 2 < w6.heap.size) := Lib.hid ⟨(Array.getElem?_eq_some_iff.1 S6.out.hg).1, (Array.getElem?_eq_some_iff.1 S6.out.hx).1, AB6.out.lt⟩
    obtain ⟨q, hq⟩ : ∃ q, w6.heap.size = q := ⟨_, rfl⟩
    rw [hq] at T7 HN6 AB7 S7 ⊢
    generalize (w6.alloc _).alloc _ = W7 at *
    clear hq X6 g0 g1 g2 g3 g4 g5 x0 x1 x2 x3 x4 AB5 AB6 S5 S6 X5 C1
    clear c0 c1 c2 c3 k0 k1 o0 o1 z3
    have y4 := cell_of_blk T7.out.hx 4 (.slice (some ⟨q, 0, none⟩) 1 1) rfl
    have g5 := cell_of_blk T7.out.hg 5 (.int .u64 sm) rfl
    have gf := frozen_of_blk T7.out.hg 5
    obtain ⟨hn1, hn2, hn3⟩ := HN6.out
    go_upto_region 13 with fail
    obtain ⟨m, hm, hne⟩ := HBT.out (b % 64).toNat (by omega)
    rw [← wrap_pow (b % 64).toNat (by omega)] at hm
    rw [hm]
    have HNE := Lib.hid hne
    clear hm hne HBT
    have ABc := Lib.hid (AB7.out.set hn3 5 (.int .u64 m))
    have Sc := Lib.hid (S7.out.set hn1 hn2 5 (.int .u64 m))
    have Tc := Lib.hid (T7.out.sum m)
    clear AB7 S7 T7 y4 g5 gf
    generalize W7.setCell _ _ = W8 at *
    have c0 := cell_of_blk ABc.out.sx 0 (.string x) rfl; have c1 := cell_of_blk ABc.out.sx 1 (.int .i64 typ) rfl; have c2 := cell_of_blk ABc.out.sx 2 (.int .i64 life) rfl; have c3 := cell_of_blk ABc.out.sx 3 (.slice pv nv cv) rfl; have k0 := cell_of_blk ABc.out.ky 0 (.int .i64 n) rfl; have k1 := cell_of_blk ABc.out.ky 1 (.int .i64 a) rfl; have o0 := cell_of_blk ABc.out.k2 0 (.int .i64 n2) rfl; have o1 := cell_of_blk ABc.out.k2 1 (.int .i64 a2) rfl; have z3 := ABc.out.lt
    have x0 := cell_of_blk Sc.out.hx 0 (.string x) rfl; have x1 := cell_of_blk Sc.out.hx 1 (.int .i64 typ) rfl; have x2 := cell_of_blk Sc.out.hx 2 (.int .i64 life) rfl; have x3 := cell_of_blk Sc.out.hx 3 (.slice pv nv cv) rfl; have x4 := cell_of_blk Sc.out.hx 4 (.slice (some ⟨sb, 0, none⟩) 1 1) rfl
    have y0 := cell_of_blk Tc.out.hx 0 (.string x) rfl; have y1 := cell_of_blk Tc.out.hx 1 (.int .i64 typ) rfl; have y2 := cell_of_blk Tc.out.hx 2 (.int .i64 life) rfl; have y3 := cell_of_blk Tc.out.hx 3 (.slice pv nv cv) rfl; have y4 := cell_of_blk Tc.out.hx 4 (.slice (some ⟨q, 0, none⟩) 1 1) rfl
    by_cases q1 : n2 = n
    · have e2 : (n2 == n) = true := beq_iff_eq.2 q1
      by_cases q2 : a2 = a
      · have e3 : (a2 == a) = true := beq_iff_eq.2 q2
        clear q1 q2 C3
        by_cases hz : z = dotB
        · have e1 : (z.toList == [46]) = true := by rw [hz, dot_list]; rfl
          clear hz C4
          as_aux_lemma =>
            go_wp2_with (first | (go_at_call 18; (with_reducible refine (C2.out _ _ _ m HNE.out ABc.out.bel Tc.out).mono ?_); rintro e w9 ⟨rfl, hb⟩; clear y0 y1 y2 y3 y4 Tc C2; replace ABc := Lib.hid (ABc.out.keep hb); replace Sc := Lib.hid (Sc.out.keep hb); clear hb x0 x1 x2 x3 x4; clear c0 c1 c2 c3 k0 k1 o0 o1 z3; have c0 := cell_of_blk ABc.out.sx 0 (.string x) rfl; have c1 := cell_of_blk ABc.out.sx 1 (.int .i64 typ) rfl; have c2 := cell_of_blk ABc.out.sx 2 (.int .i64 life) rfl; have c3 := cell_of_blk ABc.out.sx 3 (.slice pv nv cv) rfl; have k0 := cell_of_blk ABc.out.ky 0 (.int .i64 n) rfl; have k1 := cell_of_blk ABc.out.ky 1 (.int .i64 a) rfl; have o0 := cell_of_blk ABc.out.k2 0 (.int .i64 n2) rfl; have o1 := cell_of_blk ABc.out.k2 1 (.int .i64 a2) rfl; have z3 := ABc.out.lt; have x0 := cell_of_blk Sc.out.hx 0 (.string x) rfl; have x1 := cell_of_blk Sc.out.hx 1 (.int .i64 typ) rfl; have x2 := cell_of_blk Sc.out.hx 2 (.int .i64 life) rfl; have x3 := cell_of_blk Sc.out.hx 3 (.slice pv nv cv) rfl; have x4 := cell_of_blk Sc.out.hx 4 (.slice (some ⟨sb, 0, none⟩) 1 1) rfl) | (go_at_call 18; (with_reducible refine (C5.out _ _ _ ABc.out.bel Sc.out).mono ?_); rintro e w12 ⟨rfl, hb⟩; clear C5; replace ABc := Lib.hid (ABc.out.keep hb); replace Sc := Lib.hid (Sc.out.keep hb); clear hb x0 x1 x2 x3 x4; clear c0 c1 c2 c3 k0 k1 o0 o1 z3; have c0 := cell_of_blk ABc.out.sx 0 (.string x) rfl; have c1 := cell_of_blk ABc.out.sx 1 (.int .i64 typ) rfl; have c2 := cell_of_blk ABc.out.sx 2 (.int .i64 life) rfl; have c3 := cell_of_blk ABc.out.sx 3 (.slice pv nv cv) rfl; have k0 := cell_of_blk ABc.out.ky 0 (.int .i64 n) rfl; have k1 := cell_of_blk ABc.out.ky 1 (.int .i64 a) rfl; have o0 := cell_of_blk ABc.out.k2 0 (.int .i64 n2) rfl; have o1 := cell_of_blk ABc.out.k2 1 (.int .i64 a2) rfl; have z3 := ABc.out.lt; have x0 := cell_of_blk Sc.out.hx 0 (.string x) rfl; have x1 := cell_of_blk Sc.out.hx 1 (.int .i64 typ) rfl; have x2 := cell_of_blk Sc.out.hx 2 (.int .i64 life) rfl; have x3 := cell_of_blk Sc.out.hx 3 (.slice pv nv cv) rfl; have x4 := cell_of_blk Sc.out.hx 4 (.slice (some ⟨sb, 0, none⟩) 1 1) rfl))
            go_ret
            exact ⟨rfl, ABc.out.bel⟩
        · have HD := Lib.hid hz
          have e1 : (z.toList == [46]) = false := by
            rw [beq_eq_false_iff_ne, ← dot_list]
            exact fun h => hz (ba_eqT h)
          clear hz
          as_aux_lemma =>
            go_wp2_with (first | (go_at_call 18; (with_reducible refine (C2.out _ _ _ m HNE.out ABc.out.bel Tc.out).mono ?_); rintro e w9 ⟨rfl, hb⟩; clear y0 y1 y2 y3 y4 Tc C2; replace ABc := Lib.hid (ABc.out.keep hb); replace Sc := Lib.hid (Sc.out.keep hb); clear hb x0 x1 x2 x3 x4; clear c0 c1 c2 c3 k0 k1 o0 o1 z3; have c0 := cell_of_blk ABc.out.sx 0 (.string x) rfl; have c1 := cell_of_blk ABc.out.sx 1 (.int .i64 typ) rfl; have c2 := cell_of_blk ABc.out.sx 2 (.int .i64 life) rfl; have c3 := cell_of_blk ABc.out.sx 3 (.slice pv nv cv) rfl; have k0 := cell_of_blk ABc.out.ky 0 (.int .i64 n) rfl; have k1 := cell_of_blk ABc.out.ky 1 (.int .i64 a) rfl; have o0 := cell_of_blk ABc.out.k2 0 (.int .i64 n2) rfl; have o1 := cell_of_blk ABc.out.k2 1 (.int .i64 a2) rfl; have z3 := ABc.out.lt; have x0 := cell_of_blk Sc.out.hx 0 (.string x) rfl; have x1 := cell_of_blk Sc.out.hx 1 (.int .i64 typ) rfl; have x2 := cell_of_blk Sc.out.hx 2 (.int .i64 life) rfl; have x3 := cell_of_blk Sc.out.hx 3 (.slice pv nv cv) rfl; have x4 := cell_of_blk Sc.out.hx 4 (.slice (some ⟨sb, 0, none⟩) 1 1) rfl) | (go_at_call 18; (with_reducible refine (C4.out HD.out _ _ _ ABc.out.bel Sc.out).mono ?_); rintro e w11 ⟨rfl, hb⟩; clear C4; replace ABc := Lib.hid (ABc.out.keep hb); replace Sc := Lib.hid (Sc.out.keep hb); clear hb x0 x1 x2 x3 x4; clear c0 c1 c2 c3 k0 k1 o0 o1 z3; have c0 := cell_of_blk ABc.out.sx 0 (.string x) rfl; have c1 := cell_of_blk ABc.out.sx 1 (.int .i64 typ) rfl; have c2 := cell_of_blk ABc.out.sx 2 (.int .i64 life) rfl; have c3 := cell_of_blk ABc.out.sx 3 (.slice pv nv cv) rfl; have k0 := cell_of_blk ABc.out.ky 0 (.int .i64 n) rfl; have k1 := cell_of_blk ABc.out.ky 1 (.int .i64 a) rfl; have o0 := cell_of_blk ABc.out.k2 0 (.int .i64 n2) rfl; have o1 := cell_of_blk ABc.out.k2 1 (.int .i64 a2) rfl; have z3 := ABc.out.lt; have x0 := cell_of_blk Sc.out.hx 0 (.string x) rfl; have x1 := cell_of_blk Sc.out.hx 1 (.int .i64 typ) rfl; have x2 := cell_of_blk Sc.out.hx 2 (.int .i64 life) rfl; have x3 := cell_of_blk Sc.out.hx 3 (.slice pv nv cv) rfl; have x4 := cell_of_blk Sc.out.hx 4 (.slice (some ⟨sb, 0, none⟩) 1 1) rfl) | (go_at_call 18; (with_reducible refine (C5.out _ _ _ ABc.out.bel Sc.out).mono ?_); rintro e w12 ⟨rfl, hb⟩; clear C5; replace ABc := Lib.hid (ABc.out.keep hb); replace Sc := Lib.hid (Sc.out.keep hb); clear hb x0 x1 x2 x3 x4; clear c0 c1 c2 c3 k0 k1 o0 o1 z3; have c0 := cell_of_blk ABc.out.sx 0 (.string x) rfl; have c1 := cell_of_blk ABc.out.sx 1 (.int .i64 typ) rfl; have c2 := cell_of_blk ABc.out.sx 2 (.int .i64 life) rfl; have c3 := cell_of_blk ABc.out.sx 3 (.slice pv nv cv) rfl; have k0 := cell_of_blk ABc.out.ky 0 (.int .i64 n) rfl; have k1 := cell_of_blk ABc.out.ky 1 (.int .i64 a) rfl; have o0 := cell_of_blk ABc.out.k2 0 (.int .i64 n2) rfl; have o1 := cell_of_blk ABc.out.k2 1 (.int .i64 a2) rfl; have z3 := ABc.out.lt; have x0 := cell_of_blk Sc.out.hx 0 (.string x) rfl; have x1 := cell_of_blk Sc.out.hx 1 (.int .i64 typ) rfl; have x2 := cell_of_blk Sc.out.hx 2 (.int .i64 life) rfl; have x3 := cell_of_blk Sc.out.hx 3 (.slice pv nv cv) rfl; have x4 := cell_of_blk Sc.out.hx 4 (.slice (some ⟨sb, 0, none⟩) 1 1) rfl))
            go_ret
            exact ⟨rfl, ABc.out.bel⟩
      · have e3 : (a2 == a) = false := beq_eq_false_iff_ne.2 q2
        have HK : Hid (¬ (n2 = n ∧ a2 = a)) := Lib.hid (fun h => q2 h.2)
        clear q1 q2
        by_cases hz : z = dotB
        · have e1 : (z.toList == [46]) = true := by rw [hz, dot_list]; rfl
          clear hz C4
          as_aux_lemma =>
            go_wp2_with (first | (go_at_call 18; (with_reducible refine (C2.out _ _ _ m HNE.out ABc.out.bel Tc.out).mono ?_); rintro e w9 ⟨rfl, hb⟩; clear y0 y1 y2 y3 y4 Tc C2; replace ABc := Lib.hid (ABc.out.keep hb); replace Sc := Lib.hid (Sc.out.keep hb); clear hb x0 x1 x2 x3 x4; clear c0 c1 c2 c3 k0 k1 o0 o1 z3; have c0 := cell_of_blk ABc.out.sx 0 (.string x) rfl; have c1 := cell_of_blk ABc.out.sx 1 (.int .i64 typ) rfl; have c2 := cell_of_blk ABc.out.sx 2 (.int .i64 life) rfl; have c3 := cell_of_blk ABc.out.sx 3 (.slice pv nv cv) rfl; have k0 := cell_of_blk ABc.out.ky 0 (.int .i64 n) rfl; have k1 := cell_of_blk ABc.out.ky 1 (.int .i64 a) rfl; have o0 := cell_of_blk ABc.out.k2 0 (.int .i64 n2) rfl; have o1 := cell_of_blk ABc.out.k2 1 (.int .i64 a2) rfl; have z3 := ABc.out.lt; have x0 := cell_of_blk Sc.out.hx 0 (.string x) rfl; have x1 := cell_of_blk Sc.out.hx 1 (.int .i64 typ) rfl; have x2 := cell_of_blk Sc.out.hx 2 (.int .i64 life) rfl; have x3 := cell_of_blk Sc.out.hx 3 (.slice pv nv cv) rfl; have x4 := cell_of_blk Sc.out.hx 4 (.slice (some ⟨sb, 0, none⟩) 1 1) rfl) | (go_at_call 18; (with_reducible refine (C3.out HK.out _ _ _ ABc.out.bel Sc.out).mono ?_); rintro e w10 ⟨rfl, hb⟩; clear C3; replace ABc := Lib.hid (ABc.out.keep hb); replace Sc := Lib.hid (Sc.out.keep hb); clear hb x0 x1 x2 x3 x4; clear c0 c1 c2 c3 k0 k1 o0 o1 z3; have c0 := cell_of_blk ABc.out.sx 0 (.string x) rfl; have c1 := cell_of_blk ABc.out.sx 1 (.int .i64 typ) rfl; have c2 := cell_of_blk ABc.out.sx 2 (.int .i64 life) rfl; have c3 := cell_of_blk ABc.out.sx 3 (.slice pv nv cv) rfl; have k0 := cell_of_blk ABc.out.ky 0 (.int .i64 n) rfl; have k1 := cell_of_blk ABc.out.ky 1 (.int .i64 a) rfl; have o0 := cell_of_blk ABc.out.k2 0 (.int .i64 n2) rfl; have o1 := cell_of_blk ABc.out.k2 1 (.int .i64 a2) rfl; have z3 := ABc.out.lt; have x0 := cell_of_blk Sc.out.hx 0 (.string x) rfl; have x1 := cell_of_blk Sc.out.hx 1 (.int .i64 typ) rfl; have x2 := cell_of_blk Sc.out.hx 2 (.int .i64 life) rfl; have x3 := cell_of_blk Sc.out.hx 3 (.slice pv nv cv) rfl; have x4 := cell_of_blk Sc.out.hx 4 (.slice (some ⟨sb, 0, none⟩) 1 1) rfl) | (go_at_call 18; (with_reducible refine (C5.out _ _ _ ABc.out.bel Sc.out).mono ?_); rintro e w12 ⟨rfl, hb⟩; clear C5; replace ABc := Lib.hid (ABc.out.keep hb); replace Sc := Lib.hid (Sc.out.keep hb); clear hb x0 x1 x2 x3 x4; clear c0 c1 c2 c3 k0 k1 o0 o1 z3; have c0 := cell_of_blk ABc.out.sx 0 (.string x) rfl; have c1 := cell_of_blk ABc.out.sx 1 (.int .i64 typ) rfl; have c2 := cell_of_blk ABc.out.sx 2 (.int .i64 life) rfl; have c3 := cell_of_blk ABc.out.sx 3 (.slice pv nv cv) rfl; have k0 := cell_of_blk ABc.out.ky 0 (.int .i64 n) rfl; have k1 := cell_of_blk ABc.out.ky 1 (.int .i64 a) rfl; have o0 := cell_of_blk ABc.out.k2 0 (.int .i64 n2) rfl; have o1 := cell_of_blk ABc.out.k2 1 (.int .i64 a2) rfl; have z3 := ABc.out.lt; have x0 := cell_of_blk Sc.out.hx 0 (.string x) rfl; have x1 := cell_of_blk Sc.out.hx 1 (.int .i64 typ) rfl; have x2 := cell_of_blk Sc.out.hx 2 (.int .i64 life) rfl; have x3 := cell_of_blk Sc.out.hx 3 (.slice pv nv cv) rfl; have x4 := cell_of_blk Sc.out.hx 4 (.slice (some ⟨sb, 0, none⟩) 1 1) rfl))
            go_ret
            exact ⟨rfl, ABc.out.bel⟩
        · have HD := Lib.hid hz
          have e1 : (z.toList == [46]) = false := by
            rw [beq_eq_false_iff_ne, ← dot_list]
            exact fun h => hz (ba_eqT h)
          clear hz
          as_aux_lemma =>
            go_wp2_with (first | (go_at_call 18; (with_reducible refine (C2.out _ _ _ m HNE.out ABc.out.bel Tc.out).mono ?_); rintro e w9 ⟨rfl, hb⟩; clear y0 y1 y2 y3 y4 Tc C2; replace ABc := Lib.hid (ABc.out.keep hb); replace Sc := Lib.hid (Sc.out.keep hb); clear hb x0 x1 x2 x3 x4; clear c0 c1 c2 c3 k0 k1 o0 o1 z3; have c0 := cell_of_blk ABc.out.sx 0 (.string x) rfl; have c1 := cell_of_blk ABc.out.sx 1 (.int .i64 typ) rfl; have c2 := cell_of_blk ABc.out.sx 2 (.int .i64 life) rfl; have c3 := cell_of_blk ABc.out.sx 3 (.slice pv nv cv) rfl; have k0 := cell_of_blk ABc.out.ky 0 (.int .i64 n) rfl; have k1 := cell_of_blk ABc.out.ky 1 (.int .i64 a) rfl; have o0 := cell_of_blk ABc.out.k2 0 (.int .i64 n2) rfl; have o1 := cell_of_blk ABc.out.k2 1 (.int .i64 a2) rfl; have z3 := ABc.out.lt; have x0 := cell_of_blk Sc.out.hx 0 (.string x) rfl; have x1 := cell_of_blk Sc.out.hx 1 (.int .i64 typ) rfl; have x2 := cell_of_blk Sc.out.hx 2 (.int .i64 life) rfl; have x3 := cell_of_blk Sc.out.hx 3 (.slice pv nv cv) rfl; have x4 := cell_of_blk Sc.out.hx 4 (.slice (some ⟨sb, 0, none⟩) 1 1) rfl) | (go_at_call 18; (with_reducible refine (C3.out HK.out _ _ _ ABc.out.bel Sc.out).mono ?_); rintro e w10 ⟨rfl, hb⟩; clear C3; replace ABc := Lib.hid (ABc.out.keep hb); replace Sc := Lib.hid (Sc.out.keep hb); clear hb x0 x1 x2 x3 x4; clear c0 c1 c2 c3 k0 k1 o0 o1 z3; have c0 := cell_of_blk ABc.out.sx 0 (.string x) rfl; have c1 := cell_of_blk ABc.out.sx 1 (.int .i64 typ) rfl; have c2 := cell_of_blk ABc.out.sx 2 (.int .i64 life) rfl; have c3 := cell_of_blk ABc.out.sx 3 (.slice pv nv cv) rfl; have k0 := cell_of_blk ABc.out.ky 0 (.int .i64 n) rfl; have k1 := cell_of_blk ABc.out.ky 1 (.int .i64 a) rfl; have o0 := cell_of_blk ABc.out.k2 0 (.int .i64 n2) rfl; have o1 := cell_of_blk ABc.out.k2 1 (.int .i64 a2) rfl; have z3 := ABc.out.lt; have x0 := cell_of_blk Sc.out.hx 0 (.string x) rfl; have x1 := cell_of_blk Sc.out.hx 1 (.int .i64 typ) rfl; have x2 := cell_of_blk Sc.out.hx 2 (.int .i64 life) rfl; have x3 := cell_of_blk Sc.out.hx 3 (.slice pv nv cv) rfl; have x4 := cell_of_blk Sc.out.hx 4 (.slice (some ⟨sb, 0, none⟩) 1 1) rfl) | (go_at_call 18; (with_reducible refine (C4.out HD.out _ _ _ ABc.out.bel Sc.out).mono ?_); rintro e w11 ⟨rfl, hb⟩; clear C4; replace ABc := Lib.hid (ABc.out.keep hb); replace Sc := Lib.hid (Sc.out.keep hb); clear hb x0 x1 x2 x3 x4; clear c0 c1 c2 c3 k0 k1 o0 o1 z3; have c0 := cell_of_blk ABc.out.sx 0 (.string x) rfl; have c1 := cell_of_blk ABc.out.sx 1 (.int .i64 typ) rfl; have c2 := cell_of_blk ABc.out.sx 2 (.int .i64 life) rfl; have c3 := cell_of_blk ABc.out.sx 3 (.slice pv nv cv) rfl; have k0 := cell_of_blk ABc.out.ky 0 (.int .i64 n) rfl; have k1 := cell_of_blk ABc.out.ky 1 (.int .i64 a) rfl; have o0 := cell_of_blk ABc.out.k2 0 (.int .i64 n2) rfl; have o1 := cell_of_blk ABc.out.k2 1 (.int .i64 a2) rfl; have z3 := ABc.out.lt; have x0 := cell_of_blk Sc.out.hx 0 (.string x) rfl; have x1 := cell_of_blk Sc.out.hx 1 (.int .i64 typ) rfl; have x2 := cell_of_blk Sc.out.hx 2 (.int .i64 life) rfl; have x3 := cell_of_blk Sc.out.hx 3 (.slice pv nv cv) rfl; have x4 := cell_of_blk Sc.out.hx 4 (.slice (some ⟨sb, 0, none⟩) 1 1) rfl) | (go_at_call 18; (with_reducible refine (C5.out _ _ _ ABc.out.bel Sc.out).mono ?_); rintro e w12 ⟨rfl, hb⟩; clear C5; replace ABc := Lib.hid (ABc.out.keep hb); replace Sc := Lib.hid (Sc.out.keep hb); clear hb x0 x1 x2 x3 x4; clear c0 c1 c2 c3 k0 k1 o0 o1 z3; have c0 := cell_of_blk ABc.out.sx 0 (.string x) rfl; have c1 := cell_of_blk ABc.out.sx 1 (.int .i64 typ) rfl; have c2 := cell_of_blk ABc.out.sx 2 (.int .i64 life) rfl; have c3 := cell_of_blk ABc.out.sx 3 (.slice pv nv cv) rfl; have k0 := cell_of_blk ABc.out.ky 0 (.int .i64 n) rfl; have k1 := cell_of_blk ABc.out.ky 1 (.int .i64 a) rfl; have o0 := cell_of_blk ABc.out.k2 0 (.int .i64 n2) rfl; have o1 := cell_of_blk ABc.out.k2 1 (.int .i64 a2) rfl; have z3 := ABc.out.lt; have x0 := cell_of_blk Sc.out.hx 0 (.string x) rfl; have x1 := cell_of_blk Sc.out.hx 1 (.int .i64 typ) rfl; have x2 := cell_of_blk Sc.out.hx 2 (.int .i64 life) rfl; have x3 := cell_of_blk Sc.out.hx 3 (.slice pv nv cv) rfl; have x4 := cell_of_blk Sc.out.hx 4 (.slice (some ⟨sb, 0, none⟩) 1 1) rfl))
            go_ret
            exact ⟨rfl, ABc.out.bel⟩
    · have e2 : (n2 == n) = false := beq_eq_false_iff_ne.2 q1
      have HK : Hid (¬ (n2 = n ∧ a2 = a)) := Lib.hid (fun h => q1 h.1)
      clear q1
      by_cases hz : z = dotB
      · have e1 : (z.toList == [46]) = true := by rw [hz, dot_list]; rfl
        clear hz C4
        as_aux_lemma =>
          go_wp2_with (first | (go_at_call 18; (with_reducible refine (C2.out _ _ _ m HNE.out ABc.out.bel Tc.out).mono ?_); rintro e w9 ⟨rfl, hb⟩; clear y0 y1 y2 y3 y4 Tc C2; replace ABc := Lib.hid (ABc.out.keep hb); replace Sc := Lib.hid (Sc.out.keep hb); clear hb x0 x1 x2 x3 x4; clear c0 c1 c2 c3 k0 k1 o0 o1 z3; have c0 := cell_of_blk ABc.out.sx 0 (.string x) rfl; have c1 := cell_of_blk ABc.out.sx 1 (.int .i64 typ) rfl; have c2 := cell_of_blk ABc.out.sx 2 (.int .i64 life) rfl; have c3 := cell_of_blk ABc.out.sx 3 (.slice pv nv cv) rfl; have k0 := cell_of_blk ABc.out.ky 0 (.int .i64 n) rfl; have k1 := cell_of_blk ABc.out.ky 1 (.int .i64 a) rfl; have o0 := cell_of_blk ABc.out.k2 0 (.int .i64 n2) rfl; have o1 := cell_of_blk ABc.out.k2 1 (.int .i64 a2) rfl; have z3 := ABc.out.lt; have x0 := cell_of_blk Sc.out.hx 0 (.string x) rfl; have x1 := cell_of_blk Sc.out.hx 1 (.int .i64 typ) rfl; have x2 := cell_of_blk Sc.out.hx 2 (.int .i64 life) rfl; have x3 := cell_of_blk Sc.out.hx 3 (.slice pv nv cv) rfl; have x4 := cell_of_blk Sc.out.hx 4 (.slice (some ⟨sb, 0, none⟩) 1 1) rfl) | (go_at_call 18; (with_reducible refine (C3.out HK.out _ _ _ ABc.out.bel Sc.out).mono ?_); rintro e w10 ⟨rfl, hb⟩; clear C3; replace ABc := Lib.hid (ABc.out.keep hb); replace Sc := Lib.hid (Sc.out.keep hb); clear hb x0 x1 x2 x3 x4; clear c0 c1 c2 c3 k0 k1 o0 o1 z3; have c0 := cell_of_blk ABc.out.sx 0 (.string x) rfl; have c1 := cell_of_blk ABc.out.sx 1 (.int .i64 typ) rfl; have c2 := cell_of_blk ABc.out.sx 2 (.int .i64 life) rfl; have c3 := cell_of_blk ABc.out.sx 3 (.slice pv nv cv) rfl; have k0 := cell_of_blk ABc.out.ky 0 (.int .i64 n) rfl; have k1 := cell_of_blk ABc.out.ky 1 (.int .i64 a) rfl; have o0 := cell_of_blk ABc.out.k2 0 (.int .i64 n2) rfl; have o1 := cell_of_blk ABc.out.k2 1 (.int .i64 a2) rfl; have z3 := ABc.out.lt; have x0 := cell_of_blk Sc.out.hx 0 (.string x) rfl; have x1 := cell_of_blk Sc.out.hx 1 (.int .i64 typ) rfl; have x2 := cell_of_blk Sc.out.hx 2 (.int .i64 life) rfl; have x3 := cell_of_blk Sc.out.hx 3 (.slice pv nv cv) rfl; have x4 := cell_of_blk Sc.out.hx 4 (.slice (some ⟨sb, 0, none⟩) 1 1) rfl) | (go_at_call 18; (with_reducible refine (C5.out _ _ _ ABc.out.bel Sc.out).mono ?_); rintro e w12 ⟨rfl, hb⟩; clear C5; replace ABc := Lib.hid (ABc.out.keep hb); replace Sc := Lib.hid (Sc.out.keep hb); clear hb x0 x1 x2 x3 x4; clear c0 c1 c2 c3 k0 k1 o0 o1 z3; have c0 := cell_of_blk ABc.out.sx 0 (.string x) rfl; have c1 := cell_of_blk ABc.out.sx 1 (.int .i64 typ) rfl; have c2 := cell_of_blk ABc.out.sx 2 (.int .i64 life) rfl; have c3 := cell_of_blk ABc.out.sx 3 (.slice pv nv cv) rfl; have k0 := cell_of_blk ABc.out.ky 0 (.int .i64 n) rfl; have k1 := cell_of_blk ABc.out.ky 1 (.int .i64 a) rfl; have o0 := cell_of_blk ABc.out.k2 0 (.int .i64 n2) rfl; have o1 := cell_of_blk ABc.out.k2 1 (.int .i64 a2) rfl; have z3 := ABc.out.lt; have x0 := cell_of_blk Sc.out.hx 0 (.string x) rfl; have x1 := cell_of_blk Sc.out.hx 1 (.int .i64 typ) rfl; have x2 := cell_of_blk Sc.out.hx 2 (.int .i64 life) rfl; have x3 := cell_of_blk Sc.out.hx 3 (.slice pv nv cv) rfl; have x4 := cell_of_blk Sc.out.hx 4 (.slice (some ⟨sb, 0, none⟩) 1 1) rfl))
          go_ret
          exact ⟨rfl, ABc.out.bel⟩
      · have HD := Lib.hid hz
        have e1 : (z.toList == [46]) = false := by
          rw [beq_eq_false_iff_ne, ← dot_list]
          exact fun h => hz (ba_eqT h)
        clear hz
        as_aux_lemma =>
          go_wp2_with (first | (go_at_call 18; (with_reducible refine (C2.out _ _ _ m HNE.out ABc.out.bel Tc.out).mono ?_); rintro e w9 ⟨rfl, hb⟩; clear y0 y1 y2 y3 y4 Tc C2; replace ABc := Lib.hid (ABc.out.keep hb); replace Sc := Lib.hid (Sc.out.keep hb); clear hb x0 x1 x2 x3 x4; clear c0 c1 c2 c3 k0 k1 o0 o1 z3; have c0 := cell_of_blk ABc.out.sx 0 (.string x) rfl; have c1 := cell_of_blk ABc.out.sx 1 (.int .i64 typ) rfl; have c2 := cell_of_blk ABc.out.sx 2 (.int .i64 life) rfl; have c3 := cell_of_blk ABc.out.sx 3 (.slice pv nv cv) rfl; have k0 := cell_of_blk ABc.out.ky 0 (.int .i64 n) rfl; have k1 := cell_of_blk ABc.out.ky 1 (.int .i64 a) rfl; have o0 := cell_of_blk ABc.out.k2 0 (.int .i64 n2) rfl; have o1 := cell_of_blk ABc.out.k2 1 (.int .i64 a2) rfl; have z3 := ABc.out.lt; have x0 := cell_of_blk Sc.out.hx 0 (.string x) rfl; have x1 := cell_of_blk Sc.out.hx 1 (.int .i64 typ) rfl; have x2 := cell_of_blk Sc.out.hx 2 (.int .i64 life) rfl; have x3 := cell_of_blk Sc.out.hx 3 (.slice pv nv cv) rfl; have x4 := cell_of_blk Sc.out.hx 4 (.slice (some ⟨sb, 0, none⟩) 1 1) rfl) | (go_at_call 18; (with_reducible refine (C3.out HK.out _ _ _ ABc.out.bel Sc.out).mono ?_); rintro e w10 ⟨rfl, hb⟩; clear C3; replace ABc := Lib.hid (ABc.out.keep hb); replace Sc := Lib.hid (Sc.out.keep hb); clear hb x0 x1 x2 x3 x4; clear c0 c1 c2 c3 k0 k1 o0 o1 z3; have c0 := cell_of_blk ABc.out.sx 0 (.string x) rfl; have c1 := cell_of_blk ABc.out.sx 1 (.int .i64 typ) rfl; have c2 := cell_of_blk ABc.out.sx 2 (.int .i64 life) rfl; have c3 := cell_of_blk ABc.out.sx 3 (.slice pv nv cv) rfl; have k0 := cell_of_blk ABc.out.ky 0 (.int .i64 n) rfl; have k1 := cell_of_blk ABc.out.ky 1 (.int .i64 a) rfl; have o0 := cell_of_blk ABc.out.k2 0 (.int .i64 n2) rfl; have o1 := cell_of_blk ABc.out.k2 1 (.int .i64 a2) rfl; have z3 := ABc.out.lt; have x0 := cell_of_blk Sc.out.hx 0 (.string x) rfl; have x1 := cell_of_blk Sc.out.hx 1 (.int .i64 typ) rfl; have x2 := cell_of_blk Sc.out.hx 2 (.int .i64 life) rfl; have x3 := cell_of_blk Sc.out.hx 3 (.slice pv nv cv) rfl; have x4 := cell_of_blk Sc.out.hx 4 (.slice (some ⟨sb, 0, none⟩) 1 1) rfl) | (go_at_call 18; (with_reducible refine (C4.out HD.out _ _ _ ABc.out.bel Sc.out).mono ?_); rintro e w11 ⟨rfl, hb⟩; clear C4; replace ABc := Lib.hid (ABc.out.keep hb); replace Sc := Lib.hid (Sc.out.keep hb); clear hb x0 x1 x2 x3 x4; clear c0 c1 c2 c3 k0 k1 o0 o1 z3; have c0 := cell_of_blk ABc.out.sx 0 (.string x) rfl; have c1 := cell_of_blk ABc.out.sx 1 (.int .i64 typ) rfl; have c2 := cell_of_blk ABc.out.sx 2 (.int .i64 life) rfl; have c3 := cell_of_blk ABc.out.sx 3 (.slice pv nv cv) rfl; have k0 := cell_of_blk ABc.out.ky 0 (.int .i64 n) rfl; have k1 := cell_of_blk ABc.out.ky 1 (.int .i64 a) rfl; have o0 := cell_of_blk ABc.out.k2 0 (.int .i64 n2) rfl; have o1 := cell_of_blk ABc.out.k2 1 (.int .i64 a2) rfl; have z3 := ABc.out.lt; have x0 := cell_of_blk Sc.out.hx 0 (.string x) rfl; have x1 := cell_of_blk Sc.out.hx 1 (.int .i64 typ) rfl; have x2 := cell_of_blk Sc.out.hx 2 (.int .i64 life) rfl; have x3 := cell_of_blk Sc.out.hx 3 (.slice pv nv cv) rfl; have x4 := cell_of_blk Sc.out.hx 4 (.slice (some ⟨sb, 0, none⟩) 1 1) rfl) | (go_at_call 18; (with_reducible refine (C5.out _ _ _ ABc.out.bel Sc.out).mono ?_); rintro e w12 ⟨rfl, hb⟩; clear C5; replace ABc := Lib.hid (ABc.out.keep hb); replace Sc := Lib.hid (Sc.out.keep hb); clear hb x0 x1 x2 x3 x4; clear c0 c1 c2 c3 k0 k1 o0 o1 z3; have c0 := cell_of_blk ABc.out.sx 0 (.string x) rfl; have c1 := cell_of_blk ABc.out.sx 1 (.int .i64 typ) rfl; have c2 := cell_of_blk ABc.out.sx 2 (.int .i64 life) rfl; have c3 := cell_of_blk ABc.out.sx 3 (.slice pv nv cv) rfl; have k0 := cell_of_blk ABc.out.ky 0 (.int .i64 n) rfl; have k1 := cell_of_blk ABc.out.ky 1 (.int .i64 a) rfl; have o0 := cell_of_blk ABc.out.k2 0 (.int .i64 n2) rfl; have o1 := cell_of_blk ABc.out.k2 1 (.int .i64 a2) rfl; have z3 := ABc.out.lt; have x0 := cell_of_blk Sc.out.hx 0 (.string x) rfl; have x1 := cell_of_blk Sc.out.hx 1 (.int .i64 typ) rfl; have x2 := cell_of_blk Sc.out.hx 2 (.int .i64 life) rfl; have x3 := cell_of_blk Sc.out.hx 3 (.slice pv nv cv) rfl; have x4 := cell_of_blk Sc.out.hx 4 (.slice (some ⟨sb, 0, none⟩) 1 1) rfl))
          go_ret
          exact ⟨rfl, ABc.out.bel⟩
end Go.Proofs.YtkhckgknldiheaaDoor
