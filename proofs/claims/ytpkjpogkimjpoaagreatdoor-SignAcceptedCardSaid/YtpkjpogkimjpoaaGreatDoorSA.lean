/- SignAccepted of layer 8, walked; no condition beyond those that each theorem names. -/
import Derived.Test.YtpkjpogkimjpoaaGreatDoorD2
import Derived.Test.YtpkjpogkimjpoaaGreatDoorD3
namespace Go.Proofs.YtpkjpogkimjpoaaGreatDoor
set_option linter.unusedSimpArgs false
set_option linter.unusedVariables false
open Go.RowKit
open NmP

/-- The boxes of SignAccepted. -/
structure ABx (w W : World) (s : St) (n a n2 a2 : Int) (g : Sg) : Prop where
  bel : Below w.heap.size w W
  sx : W.heap[w.heap.size]? = some (Obj.cells #[.string s.x, .int .i64 s.typ, .int .i64 s.life, s.v] 24 (0, 0))
  ky : W.heap[w.heap.size + 1]? = some (Obj.cells #[.int .i64 n, .int .i64 a] 26 (0, 0))
  k2 : W.heap[w.heap.size + 2]? = some (Obj.cells #[.int .i64 n2, .int .i64 a2] 26 (0, 0))
  sg : W.heap[w.heap.size + 3]? = some (Obj.cells #[.string g.z, .int .i64 g.k, .int .i64 g.a, .int .i64 g.f, .int .i64 g.u, .int .u64 g.m] 29 (0, 0))
theorem ABx.keep {w W W' : World} {s : St} {n a n2 a2 : Int} {g : Sg} (h : ABx w W s n a n2 a2 g) (hb : Below W.heap.size W W') : ABx w W' s n a n2 a2 g :=
  ⟨h.bel.trans (hb.mono h.bel.size), (hb.block _ (Array.getElem?_eq_some_iff.1 h.sx).1).trans h.sx, (hb.block _ (Array.getElem?_eq_some_iff.1 h.ky).1).trans h.ky, (hb.block _ (Array.getElem?_eq_some_iff.1 h.k2).1).trans h.k2, (hb.block _ (Array.getElem?_eq_some_iff.1 h.sg).1).trans h.sg⟩
/-- What is accepted is what signing leads to. -/
theorem check_same (s : St) (g : Sg) (n a sm : Int) (hg : g.m = sm) :
    checkB s g n a = (signB s g.z n a g.f g.u && (decide (n = g.k) && decide (a = g.a) && decide (sigSum s g.z n a g.f g.u = sm))) := by
  unfold checkB
  rw [hg]
theorem check_self (s : St) (z : ByteArray) (n a f u : Int) (h : signB s z n a f u = true) : checkB s ⟨z, n, a, f, u, sigSum s z n a f u⟩ n a = true := by
  unfold checkB
  rw [h]
  simp
theorem check_other (s : St) (z : ByteArray) (n a f u n2 a2 sm : Int) (h : ¬ (n2 = n ∧ a2 = a)) : checkB s ⟨z, n, a, f, u, sm⟩ n2 a2 = false := by
  unfold checkB
  rw [Bool.eq_false_iff]
  intro q
  simp only [Bool.and_eq_true, decide_eq_true_eq] at q
  exact h ⟨q.2.1.1, q.2.1.2⟩

theorem boxes (w : World) (s : St) (n a n2 a2 : Int) (g : Sg) :
    ABx w ((((w.alloc (.cells #[.string s.x, .int .i64 s.typ, .int .i64 s.life, s.v] 24)).alloc (.cells #[.int .i64 n, .int .i64 a] 26)).alloc (.cells #[.int .i64 n2, .int .i64 a2] 26)).alloc (.cells #[.string g.z, .int .i64 g.k, .int .i64 g.a, .int .i64 g.f, .int .i64 g.u, .int .u64 g.m] 29)) s n a n2 a2 g := by
  refine ⟨((((Below.refl _ w).alloc (Nat.le_refl _) _).alloc (by simp) _).alloc (by (try simp); (try omega)) _).alloc (by (try simp); (try omega)) _, ?_, ?_, ?_, ?_⟩
  · rw [heap_alloc_old _ _ (by (try simp); (try omega)), heap_alloc_old _ _ (by (try simp); (try omega)), heap_alloc_old _ _ (by simp)]
    exact heap_alloc_new w _
  · rw [heap_alloc_old _ _ (by (try simp); (try omega)), heap_alloc_old _ _ (by simp)]
    have := heap_alloc_new (w.alloc (.cells #[.string s.x, .int .i64 s.typ, .int .i64 s.life, s.v] 24)) (.cells #[.int .i64 n, .int .i64 a] 26)
    rw [show (w.alloc (.cells #[.string s.x, .int .i64 s.typ, .int .i64 s.life, s.v] 24)).heap.size = w.heap.size + 1 by simp] at this
    exact this
  · rw [heap_alloc_old _ _ (by simp)]
    have := heap_alloc_new ((w.alloc (.cells #[.string s.x, .int .i64 s.typ, .int .i64 s.life, s.v] 24)).alloc (.cells #[.int .i64 n, .int .i64 a] 26)) (.cells #[.int .i64 n2, .int .i64 a2] 26)
    rw [show ((w.alloc (.cells #[.string s.x, .int .i64 s.typ, .int .i64 s.life, s.v] 24)).alloc (.cells #[.int .i64 n, .int .i64 a] 26)).heap.size = w.heap.size + 2 by simp] at this
    exact this
  · have := heap_alloc_new (((w.alloc (.cells #[.string s.x, .int .i64 s.typ, .int .i64 s.life, s.v] 24)).alloc (.cells #[.int .i64 n, .int .i64 a] 26)).alloc (.cells #[.int .i64 n2, .int .i64 a2] 26)) (.cells #[.string g.z, .int .i64 g.k, .int .i64 g.a, .int .i64 g.f, .int .i64 g.u, .int .u64 g.m] 29)
    rw [show (((w.alloc (.cells #[.string s.x, .int .i64 s.typ, .int .i64 s.life, s.v] 24)).alloc (.cells #[.int .i64 n, .int .i64 a] 26)).alloc (.cells #[.int .i64 n2, .int .i64 a2] 26)).heap.size = w.heap.size + 3 by simp] at this
    exact this

/-- The sum is put into the change. -/
theorem ABx.put {w W : World} {s : St} {n a n2 a2 : Int} {g : Sg} (sm : Int) (h : ABx w W s n a n2 a2 g) : ABx w (W.setCell ⟨w.heap.size + 3, 5, none⟩ (.int .u64 sm)) s n a n2 a2 ⟨g.z, g.k, g.a, g.f, g.u, sm⟩ := by
  have o : ∀ k, k < w.heap.size + 3 → (W.setCell ⟨w.heap.size + 3, 5, none⟩ (.int .u64 sm)).heap[k]? = W.heap[k]? := fun k hk => heap_setCell_other W ⟨w.heap.size + 3, 5, none⟩ k _ (fun e => by have e2 : k = w.heap.size + 3 := e; omega)
  refine ⟨h.bel.trans ⟨rfl, rfl, rfl, by simp, fun k hk => o k (by omega)⟩, (o _ (by omega)).trans h.sx, (o _ (by omega)).trans h.ky, (o _ (by omega)).trans h.k2, ?_⟩
  have := heap_setCell_same W (w.heap.size + 3) 5 _ _ (.int .u64 sm) h.sg
  simpa using this

set_option maxHeartbeats 4000000 in
set_option maxRecDepth 100000 in
/-- A set that cannot be signed: nothing is asked. -/
theorem walk_not (s : St) (z : ByteArray) (n a n2 a2 f u : Int) (g : Sg) (w : World) (hs : s.In w) (hr : RulesAt w) (hn : s.l.length ≤ maxLen) (hz : z.size ≤ maxLen) (hu : usableB s z n a f u = false) :
    Calls Tryz.prog 3 #[.agg #[.string s.x, .int .i64 s.typ, .int .i64 s.life, s.v], .string z, .agg #[.int .i64 n, .int .i64 a], .agg #[.int .i64 n2, .int .i64 a2], .int .i64 f, .int .i64 u, .agg #[.string g.z, .int .i64 g.k, .int .i64 g.a, .int .i64 g.f, .int .i64 g.u, .int .u64 g.m]] w (ToB true w) := by
  have AB0 := Lib.hid (boxes w s n a n2 a2 g)
  have CH := Lib.hid (fun W (h : RulesAt W) => head_any W h)
  have CU := Lib.hid (fun W (h : s.In W) => usable_any s z n a f u W h hn hz)
  rw [hu] at CU
  have HS := Lib.hid hs
  have HR := Lib.hid hr
  clear hs hr hu
  go_enter Tryz.func3, Tryz.ntmps3
  go_wp2_with (first | (go_at_call 5; (with_reducible refine (CH.out _ (HR.out.keep AB0.out.bel)).mono ?_); rintro e w1 ⟨rfl, hb⟩; have AB1 := Lib.hid (AB0.out.keep hb); clear hb; have c0 := cell_of_blk AB1.out.sx 0 (.string s.x) rfl; have c1 := cell_of_blk AB1.out.sx 1 (.int .i64 s.typ) rfl; have c2 := cell_of_blk AB1.out.sx 2 (.int .i64 s.life) rfl; have c3 := cell_of_blk AB1.out.sx 3 s.v rfl; have d0 := cell_of_blk AB1.out.ky 0 (.int .i64 n) rfl; have d1 := cell_of_blk AB1.out.ky 1 (.int .i64 a) rfl) | (go_at_call 6; (with_reducible refine (CU.out _ (HS.out.keep AB1.out.bel)).mono ?_); rintro e w2 ⟨rfl, hb⟩; have AB2 := Lib.hid (AB1.out.keep hb); clear hb; have c0 := cell_of_blk AB2.out.sx 0 (.string s.x) rfl; have c1 := cell_of_blk AB2.out.sx 1 (.int .i64 s.typ) rfl; have c2 := cell_of_blk AB2.out.sx 2 (.int .i64 s.life) rfl; have c3 := cell_of_blk AB2.out.sx 3 s.v rfl; have d0 := cell_of_blk AB2.out.ky 0 (.int .i64 n) rfl; have d1 := cell_of_blk AB2.out.ky 1 (.int .i64 a) rfl))
  go_ret
  exact ⟨rfl, AB2.out.bel⟩

set_option maxHeartbeats 4000000 in
set_option maxRecDepth 100000 in
theorem walk_same (s : St) (z : ByteArray) (n a n2 a2 f u : Int) (g : Sg) (w : World) (hs : s.In w) (hr : RulesAt w) (hn : s.l.length ≤ maxLen) (hz : z.size ≤ maxLen) (hgz : g.z.size ≤ maxLen) (hu : usableB s z n a f u = true) (hk : n2 = n ∧ a2 = a) :
    Calls Tryz.prog 3 #[.agg #[.string s.x, .int .i64 s.typ, .int .i64 s.life, s.v], .string z, .agg #[.int .i64 n, .int .i64 a], .agg #[.int .i64 n2, .int .i64 a2], .int .i64 f, .int .i64 u, .agg #[.string g.z, .int .i64 g.k, .int .i64 g.a, .int .i64 g.f, .int .i64 g.u, .int .u64 g.m]] w (ToB true w) := by
  obtain ⟨h1, h2⟩ := hk
  have h1' := h1.symm
  have h2' := h2.symm
  subst h1' h2'
  clear h1 h2
  have AB0 := Lib.hid (boxes w s n a n a g)
  have CH := Lib.hid (fun W (h : RulesAt W) => head_any W h)
  have CU := Lib.hid (fun W (h : s.In W) => usable_any s z n a f u W h hn hz)
  have hsb := usable_sign hu
  rw [hu] at CU
  have C1 : Hid (∀ W, s.In W → RulesAt W → Calls Tryz.prog 7 #[.agg #[.string s.x, .int .i64 s.typ, .int .i64 s.life, s.v], .string z, .agg #[.int .i64 n, .int .i64 a], .int .i64 f, .int .i64 u] W fun e w' => e = .returned (.tuple #[.agg #[.string z, .int .i64 n, .int .i64 a, .int .i64 f, .int .i64 u, .int .u64 (sigSum s z n a f u)], .int .i64 0]) ∧ Below W.heap.size W w') := Lib.hid (fun W h1 h2 => by
    have q := sign_any s z n a f u W h1 h2 hz
    unfold signV at q
    rwa [if_pos hsb] at q)
  have C2 := Lib.hid (fun W (h1 : s.In W) (h2 : RulesAt W) => check_any s ⟨z, n, a, f, u, sigSum s z n a f u⟩ n a W h1 h2 hz)
  rw [check_self s z n a f u hsb] at C2
  have C4 := Lib.hid (fun W (h1 : s.In W) (h2 : RulesAt W) => sign_any s g.z n a g.f g.u W h1 h2 hgz)
  have C5 := Lib.hid (fun W (h1 : s.In W) (h2 : RulesAt W) => check_any s ⟨g.z, g.k, g.a, g.f, g.u, sigSum s z n a f u⟩ n a W h1 h2 hgz)
  unfold signV at C4
  unfold checkB at C5
  simp only at C5
  generalize sigSum s z n a f u = sm at *
  generalize sigSum s g.z n a g.f g.u = s2 at *
  generalize signB s g.z n a g.f g.u = sb at *
  simp only at C2
  have HS := Lib.hid hs
  have HR := Lib.hid hr
  clear hs hr hu hsb
  go_enter Tryz.func3, Tryz.ntmps3
  go_upto_region 5 with (first | (go_at_call 5; (with_reducible refine (CH.out _ (HR.out.keep AB0.out.bel)).mono ?_); rintro e w1 ⟨rfl, hb⟩; have AB1 := Lib.hid (AB0.out.keep hb); clear hb; have c0 := cell_of_blk AB1.out.sx 0 (.string s.x) rfl; have c1 := cell_of_blk AB1.out.sx 1 (.int .i64 s.typ) rfl; have c2 := cell_of_blk AB1.out.sx 2 (.int .i64 s.life) rfl; have c3 := cell_of_blk AB1.out.sx 3 s.v rfl; have d0 := cell_of_blk AB1.out.ky 0 (.int .i64 n) rfl; have d1 := cell_of_blk AB1.out.ky 1 (.int .i64 a) rfl; have e0 := cell_of_blk AB1.out.k2 0 (.int .i64 n) rfl; have e1 := cell_of_blk AB1.out.k2 1 (.int .i64 a) rfl; have g0 := cell_of_blk AB1.out.sg 0 (.string g.z) rfl; have g1 := cell_of_blk AB1.out.sg 1 (.int .i64 g.k) rfl; have g2 := cell_of_blk AB1.out.sg 2 (.int .i64 g.a) rfl; have g3 := cell_of_blk AB1.out.sg 3 (.int .i64 g.f) rfl; have g4 := cell_of_blk AB1.out.sg 4 (.int .i64 g.u) rfl; have g5 := cell_of_blk AB1.out.sg 5 (.int .u64 g.m) rfl; have gf := frozen_of_blk AB1.out.sg 5) | (go_at_call 6; (with_reducible refine (CU.out _ (HS.out.keep AB1.out.bel)).mono ?_); rintro e w2 ⟨rfl, hb⟩; have AB2 := Lib.hid (AB1.out.keep hb); clear hb; have c0 := cell_of_blk AB2.out.sx 0 (.string s.x) rfl; have c1 := cell_of_blk AB2.out.sx 1 (.int .i64 s.typ) rfl; have c2 := cell_of_blk AB2.out.sx 2 (.int .i64 s.life) rfl; have c3 := cell_of_blk AB2.out.sx 3 s.v rfl; have d0 := cell_of_blk AB2.out.ky 0 (.int .i64 n) rfl; have d1 := cell_of_blk AB2.out.ky 1 (.int .i64 a) rfl; have e0 := cell_of_blk AB2.out.k2 0 (.int .i64 n) rfl; have e1 := cell_of_blk AB2.out.k2 1 (.int .i64 a) rfl; have g0 := cell_of_blk AB2.out.sg 0 (.string g.z) rfl; have g1 := cell_of_blk AB2.out.sg 1 (.int .i64 g.k) rfl; have g2 := cell_of_blk AB2.out.sg 2 (.int .i64 g.a) rfl; have g3 := cell_of_blk AB2.out.sg 3 (.int .i64 g.f) rfl; have g4 := cell_of_blk AB2.out.sg 4 (.int .i64 g.u) rfl; have g5 := cell_of_blk AB2.out.sg 5 (.int .u64 g.m) rfl; have gf := frozen_of_blk AB2.out.sg 5) | (go_at_call 7; (with_reducible refine (C1.out _ (HS.out.keep AB2.out.bel) (HR.out.keep AB2.out.bel)).mono ?_); rintro e w3 ⟨rfl, hb⟩; have AB3 := Lib.hid (AB2.out.keep hb); clear hb; have c0 := cell_of_blk AB3.out.sx 0 (.string s.x) rfl; have c1 := cell_of_blk AB3.out.sx 1 (.int .i64 s.typ) rfl; have c2 := cell_of_blk AB3.out.sx 2 (.int .i64 s.life) rfl; have c3 := cell_of_blk AB3.out.sx 3 s.v rfl; have d0 := cell_of_blk AB3.out.ky 0 (.int .i64 n) rfl; have d1 := cell_of_blk AB3.out.ky 1 (.int .i64 a) rfl; have e0 := cell_of_blk AB3.out.k2 0 (.int .i64 n) rfl; have e1 := cell_of_blk AB3.out.k2 1 (.int .i64 a) rfl; have g0 := cell_of_blk AB3.out.sg 0 (.string g.z) rfl; have g1 := cell_of_blk AB3.out.sg 1 (.int .i64 g.k) rfl; have g2 := cell_of_blk AB3.out.sg 2 (.int .i64 g.a) rfl; have g3 := cell_of_blk AB3.out.sg 3 (.int .i64 g.f) rfl; have g4 := cell_of_blk AB3.out.sg 4 (.int .i64 g.u) rfl; have g5 := cell_of_blk AB3.out.sg 5 (.int .u64 g.m) rfl; have gf := frozen_of_blk AB3.out.sg 5))
  have AB4 := Lib.hid (AB3.out.keep ((Below.refl _ w3).alloc (Nat.le_refl _) (.cells #[.string z, .int .i64 n, .int .i64 a, .int .i64 f, .int .i64 u, .int .u64 sm] 29)))
  have X4 : Hid ((w3.alloc (.cells #[.string z, .int .i64 n, .int .i64 a, .int .i64 f, .int .i64 u, .int .u64 sm] 29)).heap[w3.heap.size]? = some (Obj.cells #[.string z, .int .i64 n, .int .i64 a, .int .i64 f, .int .i64 u, .int .u64 sm] 29 (0, 0))) := Lib.hid (heap_alloc_new w3 _)
  obtain ⟨r, hrr⟩ : ∃ r, w3.heap.size = r := ⟨_, rfl⟩
  have HQ : Hid (w.heap.size + 3 < r) := Lib.hid (by rw [← hrr]; exact (Array.getElem?_eq_some_iff.1 AB3.out.sg).1)
  rw [hrr] at X4 ⊢
  clear c0 c1 c2 c3 d0 d1 e0 e1 g0 g1 g2 g3 g4 g5 gf
  generalize w3.alloc _ = W4 at *
  clear hrr
  have c0 := cell_of_blk AB4.out.sx 0 (.string s.x) rfl
  have c1 := cell_of_blk AB4.out.sx 1 (.int .i64 s.typ) rfl
  have c2 := cell_of_blk AB4.out.sx 2 (.int .i64 s.life) rfl
  have c3 := cell_of_blk AB4.out.sx 3 s.v rfl
  have d0 := cell_of_blk AB4.out.ky 0 (.int .i64 n) rfl
  have d1 := cell_of_blk AB4.out.ky 1 (.int .i64 a) rfl
  have e0 := cell_of_blk AB4.out.k2 0 (.int .i64 n) rfl
  have e1 := cell_of_blk AB4.out.k2 1 (.int .i64 a) rfl
  have g0 := cell_of_blk AB4.out.sg 0 (.string g.z) rfl
  have g1 := cell_of_blk AB4.out.sg 1 (.int .i64 g.k) rfl
  have g2 := cell_of_blk AB4.out.sg 2 (.int .i64 g.a) rfl
  have g3 := cell_of_blk AB4.out.sg 3 (.int .i64 g.f) rfl
  have g4 := cell_of_blk AB4.out.sg 4 (.int .i64 g.u) rfl
  have g5 := cell_of_blk AB4.out.sg 5 (.int .u64 g.m) rfl
  have gf := frozen_of_blk AB4.out.sg 5
  have x0 := cell_of_blk X4.out 0 (.string z) rfl
  have x1 := cell_of_blk X4.out 1 (.int .i64 n) rfl
  have x2 := cell_of_blk X4.out 2 (.int .i64 a) rfl
  have x3 := cell_of_blk X4.out 3 (.int .i64 f) rfl
  have x4 := cell_of_blk X4.out 4 (.int .i64 u) rfl
  have x5 := cell_of_blk X4.out 5 (.int .u64 sm) rfl
  go_upto_region 7 with (first | (go_at_call 8; (with_reducible refine (C2.out _ (HS.out.keep AB4.out.bel) (HR.out.keep AB4.out.bel)).mono ?_); rintro e w5 ⟨rfl, hb⟩; have AB5 := Lib.hid (AB4.out.keep hb); have X5 := Lib.hid ((hb.block r (Array.getElem?_eq_some_iff.1 X4.out).1).trans X4.out); clear hb C2; have c0 := cell_of_blk AB5.out.sx 0 (.string s.x) rfl; have c1 := cell_of_blk AB5.out.sx 1 (.int .i64 s.typ) rfl; have c2 := cell_of_blk AB5.out.sx 2 (.int .i64 s.life) rfl; have c3 := cell_of_blk AB5.out.sx 3 s.v rfl; have d0 := cell_of_blk AB5.out.ky 0 (.int .i64 n) rfl; have d1 := cell_of_blk AB5.out.ky 1 (.int .i64 a) rfl; have e0 := cell_of_blk AB5.out.k2 0 (.int .i64 n) rfl; have e1 := cell_of_blk AB5.out.k2 1 (.int .i64 a) rfl; have g0 := cell_of_blk AB5.out.sg 0 (.string g.z) rfl; have g1 := cell_of_blk AB5.out.sg 1 (.int .i64 g.k) rfl; have g2 := cell_of_blk AB5.out.sg 2 (.int .i64 g.a) rfl; have g3 := cell_of_blk AB5.out.sg 3 (.int .i64 g.f) rfl; have g4 := cell_of_blk AB5.out.sg 4 (.int .i64 g.u) rfl; have g5 := cell_of_blk AB5.out.sg 5 (.int .u64 g.m) rfl; have gf := frozen_of_blk AB5.out.sg 5; have x0 := cell_of_blk X5.out 0 (.string z) rfl; have x1 := cell_of_blk X5.out 1 (.int .i64 n) rfl; have x2 := cell_of_blk X5.out 2 (.int .i64 a) rfl; have x3 := cell_of_blk X5.out 3 (.int .i64 f) rfl; have x4 := cell_of_blk X5.out 4 (.int .i64 u) rfl; have x5 := cell_of_blk X5.out 5 (.int .u64 sm) rfl))
  as_aux_lemma =>
    have AB6 := Lib.hid (AB5.out.put sm)
    have c0' := cell_of_blk AB6.out.sx 0 (.string s.x) rfl
    have c1' := cell_of_blk AB6.out.sx 1 (.int .i64 s.typ) rfl
    have c2' := cell_of_blk AB6.out.sx 2 (.int .i64 s.life) rfl
    have c3' := cell_of_blk AB6.out.sx 3 s.v rfl
    have d0' := cell_of_blk AB6.out.ky 0 (.int .i64 n) rfl
    have d1' := cell_of_blk AB6.out.ky 1 (.int .i64 a) rfl
    have g0' := cell_of_blk AB6.out.sg 0 (.string g.z) rfl
    have g1' := cell_of_blk AB6.out.sg 1 (.int .i64 g.k) rfl
    have g2' := cell_of_blk AB6.out.sg 2 (.int .i64 g.a) rfl
    have g3' := cell_of_blk AB6.out.sg 3 (.int .i64 g.f) rfl
    have g4' := cell_of_blk AB6.out.sg 4 (.int .i64 g.u) rfl
    have g5' := cell_of_blk AB6.out.sg 5 (.int .u64 sm) rfl
    cases sb
    · rw [if_neg (by simp)] at C4
      rw [Bool.false_and] at C5
      as_aux_lemma =>
        go_wp2_with (first | (go_at_call 7; (with_reducible refine (C4.out _ (HS.out.keep AB6.out.bel) (HR.out.keep AB6.out.bel)).mono ?_); rintro e w7 ⟨rfl, hb⟩; have AB7 := Lib.hid (AB6.out.keep hb); clear hb; have c0 := cell_of_blk AB7.out.sx 0 (.string s.x) rfl; have c1 := cell_of_blk AB7.out.sx 1 (.int .i64 s.typ) rfl; have c2 := cell_of_blk AB7.out.sx 2 (.int .i64 s.life) rfl; have c3 := cell_of_blk AB7.out.sx 3 s.v rfl; have d0 := cell_of_blk AB7.out.ky 0 (.int .i64 n) rfl; have d1 := cell_of_blk AB7.out.ky 1 (.int .i64 a) rfl; have g0 := cell_of_blk AB7.out.sg 0 (.string g.z) rfl; have g1 := cell_of_blk AB7.out.sg 1 (.int .i64 g.k) rfl; have g2 := cell_of_blk AB7.out.sg 2 (.int .i64 g.a) rfl; have g3 := cell_of_blk AB7.out.sg 3 (.int .i64 g.f) rfl; have g4 := cell_of_blk AB7.out.sg 4 (.int .i64 g.u) rfl; have g5 := cell_of_blk AB7.out.sg 5 (.int .u64 sm) rfl; have zz := (Array.getElem?_eq_some_iff.1 AB7.out.sg).1; have zz0 := (Array.getElem?_eq_some_iff.1 AB7.out.sx).1; have zz1 := (Array.getElem?_eq_some_iff.1 AB7.out.ky).1) | (go_at_call 8; (with_reducible refine (C5.out _ (HS.out.keep (AB7.out.bel.alloc AB7.out.bel.size _)) (HR.out.keep (AB7.out.bel.alloc AB7.out.bel.size _))).mono ?_); rintro e w8 ⟨rfl, hb⟩; have AB8 := Lib.hid ((AB7.out.keep ((Below.refl _ w7).alloc (Nat.le_refl _) _)).keep hb); clear hb; have c0 := cell_of_blk AB8.out.sx 0 (.string s.x) rfl; have c1 := cell_of_blk AB8.out.sx 1 (.int .i64 s.typ) rfl; have c2 := cell_of_blk AB8.out.sx 2 (.int .i64 s.life) rfl; have c3 := cell_of_blk AB8.out.sx 3 s.v rfl; have d0 := cell_of_blk AB8.out.ky 0 (.int .i64 n) rfl; have d1 := cell_of_blk AB8.out.ky 1 (.int .i64 a) rfl; have g0 := cell_of_blk AB8.out.sg 0 (.string g.z) rfl; have g1 := cell_of_blk AB8.out.sg 1 (.int .i64 g.k) rfl; have g2 := cell_of_blk AB8.out.sg 2 (.int .i64 g.a) rfl; have g3 := cell_of_blk AB8.out.sg 3 (.int .i64 g.f) rfl; have g4 := cell_of_blk AB8.out.sg 4 (.int .i64 g.u) rfl; have g5 := cell_of_blk AB8.out.sg 5 (.int .u64 sm) rfl; have zz := (Array.getElem?_eq_some_iff.1 AB8.out.sg).1))
        go_ret
        exact ⟨rfl, AB8.out.bel⟩
    · rw [if_pos rfl] at C4
      rw [Bool.true_and] at C5
      by_cases q1 : n = g.k
      case neg =>
        rw [decide_eq_false q1, Bool.false_and, Bool.false_and] at C5
        have q1' : (n == g.k) = false := beq_eq_false_iff_ne.2 q1
        as_aux_lemma =>
          go_wp2_with (first | (go_at_call 7; (with_reducible refine (C4.out _ (HS.out.keep AB6.out.bel) (HR.out.keep AB6.out.bel)).mono ?_); rintro e w7 ⟨rfl, hb⟩; have AB7 := Lib.hid (AB6.out.keep hb); clear hb; have c0 := cell_of_blk AB7.out.sx 0 (.string s.x) rfl; have c1 := cell_of_blk AB7.out.sx 1 (.int .i64 s.typ) rfl; have c2 := cell_of_blk AB7.out.sx 2 (.int .i64 s.life) rfl; have c3 := cell_of_blk AB7.out.sx 3 s.v rfl; have d0 := cell_of_blk AB7.out.ky 0 (.int .i64 n) rfl; have d1 := cell_of_blk AB7.out.ky 1 (.int .i64 a) rfl; have g0 := cell_of_blk AB7.out.sg 0 (.string g.z) rfl; have g1 := cell_of_blk AB7.out.sg 1 (.int .i64 g.k) rfl; have g2 := cell_of_blk AB7.out.sg 2 (.int .i64 g.a) rfl; have g3 := cell_of_blk AB7.out.sg 3 (.int .i64 g.f) rfl; have g4 := cell_of_blk AB7.out.sg 4 (.int .i64 g.u) rfl; have g5 := cell_of_blk AB7.out.sg 5 (.int .u64 sm) rfl; have zz := (Array.getElem?_eq_some_iff.1 AB7.out.sg).1; have zz0 := (Array.getElem?_eq_some_iff.1 AB7.out.sx).1; have zz1 := (Array.getElem?_eq_some_iff.1 AB7.out.ky).1) | (go_at_call 8; (with_reducible refine (C5.out _ (HS.out.keep (AB7.out.bel.alloc AB7.out.bel.size _)) (HR.out.keep (AB7.out.bel.alloc AB7.out.bel.size _))).mono ?_); rintro e w8 ⟨rfl, hb⟩; have hy := (hb.block w7.heap.size (by simp)).trans (heap_alloc_new w7 (.cells #[.string g.z, .int .i64 n, .int .i64 a, .int .i64 g.f, .int .i64 g.u, .int .u64 s2] 29)); have y0 := cell_of_blk hy 0 (.string g.z) rfl; have y1 := cell_of_blk hy 1 (.int .i64 n) rfl; have y2 := cell_of_blk hy 2 (.int .i64 a) rfl; have y3 := cell_of_blk hy 3 (.int .i64 g.f) rfl; have y4 := cell_of_blk hy 4 (.int .i64 g.u) rfl; have y5 := cell_of_blk hy 5 (.int .u64 s2) rfl; clear hy; have AB8 := Lib.hid ((AB7.out.keep ((Below.refl _ w7).alloc (Nat.le_refl _) _)).keep hb); clear hb; have c0 := cell_of_blk AB8.out.sx 0 (.string s.x) rfl; have c1 := cell_of_blk AB8.out.sx 1 (.int .i64 s.typ) rfl; have c2 := cell_of_blk AB8.out.sx 2 (.int .i64 s.life) rfl; have c3 := cell_of_blk AB8.out.sx 3 s.v rfl; have d0 := cell_of_blk AB8.out.ky 0 (.int .i64 n) rfl; have d1 := cell_of_blk AB8.out.ky 1 (.int .i64 a) rfl; have g0 := cell_of_blk AB8.out.sg 0 (.string g.z) rfl; have g1 := cell_of_blk AB8.out.sg 1 (.int .i64 g.k) rfl; have g2 := cell_of_blk AB8.out.sg 2 (.int .i64 g.a) rfl; have g3 := cell_of_blk AB8.out.sg 3 (.int .i64 g.f) rfl; have g4 := cell_of_blk AB8.out.sg 4 (.int .i64 g.u) rfl; have g5 := cell_of_blk AB8.out.sg 5 (.int .u64 sm) rfl; have zz := (Array.getElem?_eq_some_iff.1 AB8.out.sg).1))
          go_ret
          exact ⟨rfl, AB8.out.bel⟩
      by_cases q2 : a = g.a
      case neg =>
        rw [decide_eq_true q1, decide_eq_false q2, Bool.and_false, Bool.false_and] at C5
        have q2' : (a == g.a) = false := beq_eq_false_iff_ne.2 q2
        have Q1 := Lib.hid q1
        clear q1
        as_aux_lemma =>
          go_wp2_with (first | (go_at_call 7; (with_reducible refine (C4.out _ (HS.out.keep AB6.out.bel) (HR.out.keep AB6.out.bel)).mono ?_); rintro e w7 ⟨rfl, hb⟩; have AB7 := Lib.hid (AB6.out.keep hb); clear hb; have c0 := cell_of_blk AB7.out.sx 0 (.string s.x) rfl; have c1 := cell_of_blk AB7.out.sx 1 (.int .i64 s.typ) rfl; have c2 := cell_of_blk AB7.out.sx 2 (.int .i64 s.life) rfl; have c3 := cell_of_blk AB7.out.sx 3 s.v rfl; have d0 := cell_of_blk AB7.out.ky 0 (.int .i64 n) rfl; have d1 := cell_of_blk AB7.out.ky 1 (.int .i64 a) rfl; have g0 := cell_of_blk AB7.out.sg 0 (.string g.z) rfl; have g1 := cell_of_blk AB7.out.sg 1 (.int .i64 g.k) rfl; have g2 := cell_of_blk AB7.out.sg 2 (.int .i64 g.a) rfl; have g3 := cell_of_blk AB7.out.sg 3 (.int .i64 g.f) rfl; have g4 := cell_of_blk AB7.out.sg 4 (.int .i64 g.u) rfl; have g5 := cell_of_blk AB7.out.sg 5 (.int .u64 sm) rfl; have zz := (Array.getElem?_eq_some_iff.1 AB7.out.sg).1; have zz0 := (Array.getElem?_eq_some_iff.1 AB7.out.sx).1; have zz1 := (Array.getElem?_eq_some_iff.1 AB7.out.ky).1) | (go_at_call 8; (with_reducible refine (C5.out _ (HS.out.keep (AB7.out.bel.alloc AB7.out.bel.size _)) (HR.out.keep (AB7.out.bel.alloc AB7.out.bel.size _))).mono ?_); rintro e w8 ⟨rfl, hb⟩; have hy := (hb.block w7.heap.size (by simp)).trans (heap_alloc_new w7 (.cells #[.string g.z, .int .i64 n, .int .i64 a, .int .i64 g.f, .int .i64 g.u, .int .u64 s2] 29)); have y0 := cell_of_blk hy 0 (.string g.z) rfl; have y1 := cell_of_blk hy 1 (.int .i64 n) rfl; have y2 := cell_of_blk hy 2 (.int .i64 a) rfl; have y3 := cell_of_blk hy 3 (.int .i64 g.f) rfl; have y4 := cell_of_blk hy 4 (.int .i64 g.u) rfl; have y5 := cell_of_blk hy 5 (.int .u64 s2) rfl; clear hy; have AB8 := Lib.hid ((AB7.out.keep ((Below.refl _ w7).alloc (Nat.le_refl _) _)).keep hb); clear hb; have c0 := cell_of_blk AB8.out.sx 0 (.string s.x) rfl; have c1 := cell_of_blk AB8.out.sx 1 (.int .i64 s.typ) rfl; have c2 := cell_of_blk AB8.out.sx 2 (.int .i64 s.life) rfl; have c3 := cell_of_blk AB8.out.sx 3 s.v rfl; have d0 := cell_of_blk AB8.out.ky 0 (.int .i64 n) rfl; have d1 := cell_of_blk AB8.out.ky 1 (.int .i64 a) rfl; have g0 := cell_of_blk AB8.out.sg 0 (.string g.z) rfl; have g1 := cell_of_blk AB8.out.sg 1 (.int .i64 g.k) rfl; have g2 := cell_of_blk AB8.out.sg 2 (.int .i64 g.a) rfl; have g3 := cell_of_blk AB8.out.sg 3 (.int .i64 g.f) rfl; have g4 := cell_of_blk AB8.out.sg 4 (.int .i64 g.u) rfl; have g5 := cell_of_blk AB8.out.sg 5 (.int .u64 sm) rfl; have zz := (Array.getElem?_eq_some_iff.1 AB8.out.sg).1))
          all_goals go_ret
          all_goals exact ⟨rfl, AB8.out.bel⟩
      by_cases q3 : s2 = sm
      case neg =>
        rw [decide_eq_true q1, decide_eq_true q2, decide_eq_false q3, Bool.and_false] at C5
        have q3' : (s2 == sm) = false := beq_eq_false_iff_ne.2 q3
        have Q1 := Lib.hid q1
        have Q2 := Lib.hid q2
        clear q1 q2
        as_aux_lemma =>
          go_wp2_with (first | (go_at_call 7; (with_reducible refine (C4.out _ (HS.out.keep AB6.out.bel) (HR.out.keep AB6.out.bel)).mono ?_); rintro e w7 ⟨rfl, hb⟩; have AB7 := Lib.hid (AB6.out.keep hb); clear hb; have c0 := cell_of_blk AB7.out.sx 0 (.string s.x) rfl; have c1 := cell_of_blk AB7.out.sx 1 (.int .i64 s.typ) rfl; have c2 := cell_of_blk AB7.out.sx 2 (.int .i64 s.life) rfl; have c3 := cell_of_blk AB7.out.sx 3 s.v rfl; have d0 := cell_of_blk AB7.out.ky 0 (.int .i64 n) rfl; have d1 := cell_of_blk AB7.out.ky 1 (.int .i64 a) rfl; have g0 := cell_of_blk AB7.out.sg 0 (.string g.z) rfl; have g1 := cell_of_blk AB7.out.sg 1 (.int .i64 g.k) rfl; have g2 := cell_of_blk AB7.out.sg 2 (.int .i64 g.a) rfl; have g3 := cell_of_blk AB7.out.sg 3 (.int .i64 g.f) rfl; have g4 := cell_of_blk AB7.out.sg 4 (.int .i64 g.u) rfl; have g5 := cell_of_blk AB7.out.sg 5 (.int .u64 sm) rfl; have zz := (Array.getElem?_eq_some_iff.1 AB7.out.sg).1; have zz0 := (Array.getElem?_eq_some_iff.1 AB7.out.sx).1; have zz1 := (Array.getElem?_eq_some_iff.1 AB7.out.ky).1) | (go_at_call 8; (with_reducible refine (C5.out _ (HS.out.keep (AB7.out.bel.alloc AB7.out.bel.size _)) (HR.out.keep (AB7.out.bel.alloc AB7.out.bel.size _))).mono ?_); rintro e w8 ⟨rfl, hb⟩; have hy := (hb.block w7.heap.size (by simp)).trans (heap_alloc_new w7 (.cells #[.string g.z, .int .i64 n, .int .i64 a, .int .i64 g.f, .int .i64 g.u, .int .u64 s2] 29)); have y0 := cell_of_blk hy 0 (.string g.z) rfl; have y1 := cell_of_blk hy 1 (.int .i64 n) rfl; have y2 := cell_of_blk hy 2 (.int .i64 a) rfl; have y3 := cell_of_blk hy 3 (.int .i64 g.f) rfl; have y4 := cell_of_blk hy 4 (.int .i64 g.u) rfl; have y5 := cell_of_blk hy 5 (.int .u64 s2) rfl; clear hy; have AB8 := Lib.hid ((AB7.out.keep ((Below.refl _ w7).alloc (Nat.le_refl _) _)).keep hb); clear hb; have c0 := cell_of_blk AB8.out.sx 0 (.string s.x) rfl; have c1 := cell_of_blk AB8.out.sx 1 (.int .i64 s.typ) rfl; have c2 := cell_of_blk AB8.out.sx 2 (.int .i64 s.life) rfl; have c3 := cell_of_blk AB8.out.sx 3 s.v rfl; have d0 := cell_of_blk AB8.out.ky 0 (.int .i64 n) rfl; have d1 := cell_of_blk AB8.out.ky 1 (.int .i64 a) rfl; have g0 := cell_of_blk AB8.out.sg 0 (.string g.z) rfl; have g1 := cell_of_blk AB8.out.sg 1 (.int .i64 g.k) rfl; have g2 := cell_of_blk AB8.out.sg 2 (.int .i64 g.a) rfl; have g3 := cell_of_blk AB8.out.sg 3 (.int .i64 g.f) rfl; have g4 := cell_of_blk AB8.out.sg 4 (.int .i64 g.u) rfl; have g5 := cell_of_blk AB8.out.sg 5 (.int .u64 sm) rfl; have zz := (Array.getElem?_eq_some_iff.1 AB8.out.sg).1))
          all_goals go_ret
          all_goals exact ⟨rfl, AB8.out.bel⟩
      rw [decide_eq_true q1, decide_eq_true q2, decide_eq_true q3] at C5
      simp only [Bool.and_true] at C5
      have q1' : (n == g.k) = true := beq_iff_eq.2 q1
      have q2' : (a == g.a) = true := beq_iff_eq.2 q2
      have q3' : (s2 == sm) = true := beq_iff_eq.2 q3
      clear q1 q2 q3
      as_aux_lemma =>
        go_wp2_with (first | (go_at_call 7; (with_reducible refine (C4.out _ (HS.out.keep AB6.out.bel) (HR.out.keep AB6.out.bel)).mono ?_); rintro e w7 ⟨rfl, hb⟩; have AB7 := Lib.hid (AB6.out.keep hb); clear hb; have c0 := cell_of_blk AB7.out.sx 0 (.string s.x) rfl; have c1 := cell_of_blk AB7.out.sx 1 (.int .i64 s.typ) rfl; have c2 := cell_of_blk AB7.out.sx 2 (.int .i64 s.life) rfl; have c3 := cell_of_blk AB7.out.sx 3 s.v rfl; have d0 := cell_of_blk AB7.out.ky 0 (.int .i64 n) rfl; have d1 := cell_of_blk AB7.out.ky 1 (.int .i64 a) rfl; have g0 := cell_of_blk AB7.out.sg 0 (.string g.z) rfl; have g1 := cell_of_blk AB7.out.sg 1 (.int .i64 g.k) rfl; have g2 := cell_of_blk AB7.out.sg 2 (.int .i64 g.a) rfl; have g3 := cell_of_blk AB7.out.sg 3 (.int .i64 g.f) rfl; have g4 := cell_of_blk AB7.out.sg 4 (.int .i64 g.u) rfl; have g5 := cell_of_blk AB7.out.sg 5 (.int .u64 sm) rfl; have zz := (Array.getElem?_eq_some_iff.1 AB7.out.sg).1; have zz0 := (Array.getElem?_eq_some_iff.1 AB7.out.sx).1; have zz1 := (Array.getElem?_eq_some_iff.1 AB7.out.ky).1) | (go_at_call 8; (with_reducible refine (C5.out _ (HS.out.keep (AB7.out.bel.alloc AB7.out.bel.size _)) (HR.out.keep (AB7.out.bel.alloc AB7.out.bel.size _))).mono ?_); rintro e w8 ⟨rfl, hb⟩; have hy := (hb.block w7.heap.size (by simp)).trans (heap_alloc_new w7 (.cells #[.string g.z, .int .i64 n, .int .i64 a, .int .i64 g.f, .int .i64 g.u, .int .u64 s2] 29)); have y0 := cell_of_blk hy 0 (.string g.z) rfl; have y1 := cell_of_blk hy 1 (.int .i64 n) rfl; have y2 := cell_of_blk hy 2 (.int .i64 a) rfl; have y3 := cell_of_blk hy 3 (.int .i64 g.f) rfl; have y4 := cell_of_blk hy 4 (.int .i64 g.u) rfl; have y5 := cell_of_blk hy 5 (.int .u64 s2) rfl; clear hy; have AB8 := Lib.hid ((AB7.out.keep ((Below.refl _ w7).alloc (Nat.le_refl _) _)).keep hb); clear hb; have c0 := cell_of_blk AB8.out.sx 0 (.string s.x) rfl; have c1 := cell_of_blk AB8.out.sx 1 (.int .i64 s.typ) rfl; have c2 := cell_of_blk AB8.out.sx 2 (.int .i64 s.life) rfl; have c3 := cell_of_blk AB8.out.sx 3 s.v rfl; have d0 := cell_of_blk AB8.out.ky 0 (.int .i64 n) rfl; have d1 := cell_of_blk AB8.out.ky 1 (.int .i64 a) rfl; have g0 := cell_of_blk AB8.out.sg 0 (.string g.z) rfl; have g1 := cell_of_blk AB8.out.sg 1 (.int .i64 g.k) rfl; have g2 := cell_of_blk AB8.out.sg 2 (.int .i64 g.a) rfl; have g3 := cell_of_blk AB8.out.sg 3 (.int .i64 g.f) rfl; have g4 := cell_of_blk AB8.out.sg 4 (.int .i64 g.u) rfl; have g5 := cell_of_blk AB8.out.sg 5 (.int .u64 sm) rfl; have zz := (Array.getElem?_eq_some_iff.1 AB8.out.sg).1))
        go_ret
        exact ⟨rfl, AB8.out.bel⟩

set_option maxHeartbeats 4000000 in
set_option maxRecDepth 100000 in
theorem walk_other (s : St) (z : ByteArray) (n a n2 a2 f u : Int) (g : Sg) (w : World) (hs : s.In w) (hr : RulesAt w) (hn : s.l.length ≤ maxLen) (hz : z.size ≤ maxLen) (hgz : g.z.size ≤ maxLen) (hu : usableB s z n a f u = true) (hk : ¬ (n2 = n ∧ a2 = a)) :
    Calls Tryz.prog 3 #[.agg #[.string s.x, .int .i64 s.typ, .int .i64 s.life, s.v], .string z, .agg #[.int .i64 n, .int .i64 a], .agg #[.int .i64 n2, .int .i64 a2], .int .i64 f, .int .i64 u, .agg #[.string g.z, .int .i64 g.k, .int .i64 g.a, .int .i64 g.f, .int .i64 g.u, .int .u64 g.m]] w (ToB true w) := by
  have AB0 := Lib.hid (boxes w s n a n2 a2 g)
  have CH := Lib.hid (fun W (h : RulesAt W) => head_any W h)
  have CU := Lib.hid (fun W (h : s.In W) => usable_any s z n a f u W h hn hz)
  have hsb := usable_sign hu
  rw [hu] at CU
  have C1 : Hid (∀ W, s.In W → RulesAt W → Calls Tryz.prog 7 #[.agg #[.string s.x, .int .i64 s.typ, .int .i64 s.life, s.v], .string z, .agg #[.int .i64 n, .int .i64 a], .int .i64 f, .int .i64 u] W fun e w' => e = .returned (.tuple #[.agg #[.string z, .int .i64 n, .int .i64 a, .int .i64 f, .int .i64 u, .int .u64 (sigSum s z n a f u)], .int .i64 0]) ∧ Below W.heap.size W w') := Lib.hid (fun W h1 h2 => by
    have q := sign_any s z n a f u W h1 h2 hz
    unfold signV at q
    rwa [if_pos hsb] at q)
  have C2 := Lib.hid (fun W (h1 : s.In W) (h2 : RulesAt W) => check_any s ⟨z, n, a, f, u, sigSum s z n a f u⟩ n a W h1 h2 hz)
  rw [check_self s z n a f u hsb] at C2
  have C3 := Lib.hid (fun W (h1 : s.In W) (h2 : RulesAt W) => check_any s ⟨z, n, a, f, u, sigSum s z n a f u⟩ n2 a2 W h1 h2 hz)
  have C4 := Lib.hid (fun W (h1 : s.In W) (h2 : RulesAt W) => sign_any s g.z n a g.f g.u W h1 h2 hgz)
  have C5 := Lib.hid (fun W (h1 : s.In W) (h2 : RulesAt W) => check_any s ⟨g.z, g.k, g.a, g.f, g.u, sigSum s z n a f u⟩ n a W h1 h2 hgz)
  unfold signV at C4
  unfold checkB at C5
  simp only at C5
  generalize sigSum s z n a f u = sm at *
  generalize sigSum s g.z n a g.f g.u = s2 at *
  generalize signB s g.z n a g.f g.u = sb at *
  simp only at C2 C3
  have HS := Lib.hid hs
  have HR := Lib.hid hr
  clear hs hr hu hsb
  rw [check_other s z n a f u n2 a2 sm hk] at C3
  have hk2 : ¬ n2 = n ∨ (n2 = n ∧ ¬ a2 = a) := by
    by_cases h : n2 = n
    · exact .inr ⟨h, fun q => hk ⟨h, q⟩⟩
    · exact .inl h
  clear hk
  go_enter Tryz.func3, Tryz.ntmps3
  go_upto_region 5 with (first | (go_at_call 5; (with_reducible refine (CH.out _ (HR.out.keep AB0.out.bel)).mono ?_); rintro e w1 ⟨rfl, hb⟩; have AB1 := Lib.hid (AB0.out.keep hb); clear hb; have c0 := cell_of_blk AB1.out.sx 0 (.string s.x) rfl; have c1 := cell_of_blk AB1.out.sx 1 (.int .i64 s.typ) rfl; have c2 := cell_of_blk AB1.out.sx 2 (.int .i64 s.life) rfl; have c3 := cell_of_blk AB1.out.sx 3 s.v rfl; have d0 := cell_of_blk AB1.out.ky 0 (.int .i64 n) rfl; have d1 := cell_of_blk AB1.out.ky 1 (.int .i64 a) rfl; have e0 := cell_of_blk AB1.out.k2 0 (.int .i64 n2) rfl; have e1 := cell_of_blk AB1.out.k2 1 (.int .i64 a2) rfl; have g0 := cell_of_blk AB1.out.sg 0 (.string g.z) rfl; have g1 := cell_of_blk AB1.out.sg 1 (.int .i64 g.k) rfl; have g2 := cell_of_blk AB1.out.sg 2 (.int .i64 g.a) rfl; have g3 := cell_of_blk AB1.out.sg 3 (.int .i64 g.f) rfl; have g4 := cell_of_blk AB1.out.sg 4 (.int .i64 g.u) rfl; have g5 := cell_of_blk AB1.out.sg 5 (.int .u64 g.m) rfl; have gf := frozen_of_blk AB1.out.sg 5) | (go_at_call 6; (with_reducible refine (CU.out _ (HS.out.keep AB1.out.bel)).mono ?_); rintro e w2 ⟨rfl, hb⟩; have AB2 := Lib.hid (AB1.out.keep hb); clear hb; have c0 := cell_of_blk AB2.out.sx 0 (.string s.x) rfl; have c1 := cell_of_blk AB2.out.sx 1 (.int .i64 s.typ) rfl; have c2 := cell_of_blk AB2.out.sx 2 (.int .i64 s.life) rfl; have c3 := cell_of_blk AB2.out.sx 3 s.v rfl; have d0 := cell_of_blk AB2.out.ky 0 (.int .i64 n) rfl; have d1 := cell_of_blk AB2.out.ky 1 (.int .i64 a) rfl; have e0 := cell_of_blk AB2.out.k2 0 (.int .i64 n2) rfl; have e1 := cell_of_blk AB2.out.k2 1 (.int .i64 a2) rfl; have g0 := cell_of_blk AB2.out.sg 0 (.string g.z) rfl; have g1 := cell_of_blk AB2.out.sg 1 (.int .i64 g.k) rfl; have g2 := cell_of_blk AB2.out.sg 2 (.int .i64 g.a) rfl; have g3 := cell_of_blk AB2.out.sg 3 (.int .i64 g.f) rfl; have g4 := cell_of_blk AB2.out.sg 4 (.int .i64 g.u) rfl; have g5 := cell_of_blk AB2.out.sg 5 (.int .u64 g.m) rfl; have gf := frozen_of_blk AB2.out.sg 5) | (go_at_call 7; (with_reducible refine (C1.out _ (HS.out.keep AB2.out.bel) (HR.out.keep AB2.out.bel)).mono ?_); rintro e w3 ⟨rfl, hb⟩; have AB3 := Lib.hid (AB2.out.keep hb); clear hb; have c0 := cell_of_blk AB3.out.sx 0 (.string s.x) rfl; have c1 := cell_of_blk AB3.out.sx 1 (.int .i64 s.typ) rfl; have c2 := cell_of_blk AB3.out.sx 2 (.int .i64 s.life) rfl; have c3 := cell_of_blk AB3.out.sx 3 s.v rfl; have d0 := cell_of_blk AB3.out.ky 0 (.int .i64 n) rfl; have d1 := cell_of_blk AB3.out.ky 1 (.int .i64 a) rfl; have e0 := cell_of_blk AB3.out.k2 0 (.int .i64 n2) rfl; have e1 := cell_of_blk AB3.out.k2 1 (.int .i64 a2) rfl; have g0 := cell_of_blk AB3.out.sg 0 (.string g.z) rfl; have g1 := cell_of_blk AB3.out.sg 1 (.int .i64 g.k) rfl; have g2 := cell_of_blk AB3.out.sg 2 (.int .i64 g.a) rfl; have g3 := cell_of_blk AB3.out.sg 3 (.int .i64 g.f) rfl; have g4 := cell_of_blk AB3.out.sg 4 (.int .i64 g.u) rfl; have g5 := cell_of_blk AB3.out.sg 5 (.int .u64 g.m) rfl; have gf := frozen_of_blk AB3.out.sg 5))
  have AB4 := Lib.hid (AB3.out.keep ((Below.refl _ w3).alloc (Nat.le_refl _) (.cells #[.string z, .int .i64 n, .int .i64 a, .int .i64 f, .int .i64 u, .int .u64 sm] 29)))
  have X4 : Hid ((w3.alloc (.cells #[.string z, .int .i64 n, .int .i64 a, .int .i64 f, .int .i64 u, .int .u64 sm] 29)).heap[w3.heap.size]? = some (Obj.cells #[.string z, .int .i64 n, .int .i64 a, .int .i64 f, .int .i64 u, .int .u64 sm] 29 (0, 0))) := Lib.hid (heap_alloc_new w3 _)
  obtain ⟨r, hrr⟩ : ∃ r, w3.heap.size = r := ⟨_, rfl⟩
  have HQ : Hid (w.heap.size + 3 < r) := Lib.hid (by rw [← hrr]; exact (Array.getElem?_eq_some_iff.1 AB3.out.sg).1)
  rw [hrr] at X4 ⊢
  clear c0 c1 c2 c3 d0 d1 e0 e1 g0 g1 g2 g3 g4 g5 gf
  generalize w3.alloc _ = W4 at *
  clear hrr
  have c0 := cell_of_blk AB4.out.sx 0 (.string s.x) rfl
  have c1 := cell_of_blk AB4.out.sx 1 (.int .i64 s.typ) rfl
  have c2 := cell_of_blk AB4.out.sx 2 (.int .i64 s.life) rfl
  have c3 := cell_of_blk AB4.out.sx 3 s.v rfl
  have d0 := cell_of_blk AB4.out.ky 0 (.int .i64 n) rfl
  have d1 := cell_of_blk AB4.out.ky 1 (.int .i64 a) rfl
  have e0 := cell_of_blk AB4.out.k2 0 (.int .i64 n2) rfl
  have e1 := cell_of_blk AB4.out.k2 1 (.int .i64 a2) rfl
  have g0 := cell_of_blk AB4.out.sg 0 (.string g.z) rfl
  have g1 := cell_of_blk AB4.out.sg 1 (.int .i64 g.k) rfl
  have g2 := cell_of_blk AB4.out.sg 2 (.int .i64 g.a) rfl
  have g3 := cell_of_blk AB4.out.sg 3 (.int .i64 g.f) rfl
  have g4 := cell_of_blk AB4.out.sg 4 (.int .i64 g.u) rfl
  have g5 := cell_of_blk AB4.out.sg 5 (.int .u64 g.m) rfl
  have gf := frozen_of_blk AB4.out.sg 5
  have x0 := cell_of_blk X4.out 0 (.string z) rfl
  have x1 := cell_of_blk X4.out 1 (.int .i64 n) rfl
  have x2 := cell_of_blk X4.out 2 (.int .i64 a) rfl
  have x3 := cell_of_blk X4.out 3 (.int .i64 f) rfl
  have x4 := cell_of_blk X4.out 4 (.int .i64 u) rfl
  have x5 := cell_of_blk X4.out 5 (.int .u64 sm) rfl
  rcases hk2 with hk | ⟨hk0, hk⟩
  · have hk' : (n2 == n) = false := beq_eq_false_iff_ne.2 hk
    go_upto_region 7 with (first | (go_at_call 8; (with_reducible refine (C2.out _ (HS.out.keep AB4.out.bel) (HR.out.keep AB4.out.bel)).mono ?_); rintro e w5 ⟨rfl, hb⟩; have AB5 := Lib.hid (AB4.out.keep hb); have X5 := Lib.hid ((hb.block r (Array.getElem?_eq_some_iff.1 X4.out).1).trans X4.out); clear hb C2; have c0 := cell_of_blk AB5.out.sx 0 (.string s.x) rfl; have c1 := cell_of_blk AB5.out.sx 1 (.int .i64 s.typ) rfl; have c2 := cell_of_blk AB5.out.sx 2 (.int .i64 s.life) rfl; have c3 := cell_of_blk AB5.out.sx 3 s.v rfl; have d0 := cell_of_blk AB5.out.ky 0 (.int .i64 n) rfl; have d1 := cell_of_blk AB5.out.ky 1 (.int .i64 a) rfl; have e0 := cell_of_blk AB5.out.k2 0 (.int .i64 n2) rfl; have e1 := cell_of_blk AB5.out.k2 1 (.int .i64 a2) rfl; have g0 := cell_of_blk AB5.out.sg 0 (.string g.z) rfl; have g1 := cell_of_blk AB5.out.sg 1 (.int .i64 g.k) rfl; have g2 := cell_of_blk AB5.out.sg 2 (.int .i64 g.a) rfl; have g3 := cell_of_blk AB5.out.sg 3 (.int .i64 g.f) rfl; have g4 := cell_of_blk AB5.out.sg 4 (.int .i64 g.u) rfl; have g5 := cell_of_blk AB5.out.sg 5 (.int .u64 g.m) rfl; have gf := frozen_of_blk AB5.out.sg 5; have x0 := cell_of_blk X5.out 0 (.string z) rfl; have x1 := cell_of_blk X5.out 1 (.int .i64 n) rfl; have x2 := cell_of_blk X5.out 2 (.int .i64 a) rfl; have x3 := cell_of_blk X5.out 3 (.int .i64 f) rfl; have x4 := cell_of_blk X5.out 4 (.int .i64 u) rfl; have x5 := cell_of_blk X5.out 5 (.int .u64 sm) rfl) | (go_at_call 8; (with_reducible refine (C3.out _ (HS.out.keep AB5.out.bel) (HR.out.keep AB5.out.bel)).mono ?_); rintro e w6 ⟨rfl, hb⟩; replace X5 := Lib.hid ((hb.block r (Array.getElem?_eq_some_iff.1 X5.out).1).trans X5.out); replace AB5 := Lib.hid (AB5.out.keep hb); clear hb; have c0 := cell_of_blk AB5.out.sx 0 (.string s.x) rfl; have c1 := cell_of_blk AB5.out.sx 1 (.int .i64 s.typ) rfl; have c2 := cell_of_blk AB5.out.sx 2 (.int .i64 s.life) rfl; have c3 := cell_of_blk AB5.out.sx 3 s.v rfl; have d0 := cell_of_blk AB5.out.ky 0 (.int .i64 n) rfl; have d1 := cell_of_blk AB5.out.ky 1 (.int .i64 a) rfl; have e0 := cell_of_blk AB5.out.k2 0 (.int .i64 n2) rfl; have e1 := cell_of_blk AB5.out.k2 1 (.int .i64 a2) rfl; have g0 := cell_of_blk AB5.out.sg 0 (.string g.z) rfl; have g1 := cell_of_blk AB5.out.sg 1 (.int .i64 g.k) rfl; have g2 := cell_of_blk AB5.out.sg 2 (.int .i64 g.a) rfl; have g3 := cell_of_blk AB5.out.sg 3 (.int .i64 g.f) rfl; have g4 := cell_of_blk AB5.out.sg 4 (.int .i64 g.u) rfl; have g5 := cell_of_blk AB5.out.sg 5 (.int .u64 g.m) rfl; have gf := frozen_of_blk AB5.out.sg 5; have x0 := cell_of_blk X5.out 0 (.string z) rfl; have x1 := cell_of_blk X5.out 1 (.int .i64 n) rfl; have x2 := cell_of_blk X5.out 2 (.int .i64 a) rfl; have x3 := cell_of_blk X5.out 3 (.int .i64 f) rfl; have x4 := cell_of_blk X5.out 4 (.int .i64 u) rfl; have x5 := cell_of_blk X5.out 5 (.int .u64 sm) rfl))
    as_aux_lemma =>
      have AB6 := Lib.hid (AB5.out.put sm)
      have c0' := cell_of_blk AB6.out.sx 0 (.string s.x) rfl
      have c1' := cell_of_blk AB6.out.sx 1 (.int .i64 s.typ) rfl
      have c2' := cell_of_blk AB6.out.sx 2 (.int .i64 s.life) rfl
      have c3' := cell_of_blk AB6.out.sx 3 s.v rfl
      have d0' := cell_of_blk AB6.out.ky 0 (.int .i64 n) rfl
      have d1' := cell_of_blk AB6.out.ky 1 (.int .i64 a) rfl
      have g0' := cell_of_blk AB6.out.sg 0 (.string g.z) rfl
      have g1' := cell_of_blk AB6.out.sg 1 (.int .i64 g.k) rfl
      have g2' := cell_of_blk AB6.out.sg 2 (.int .i64 g.a) rfl
      have g3' := cell_of_blk AB6.out.sg 3 (.int .i64 g.f) rfl
      have g4' := cell_of_blk AB6.out.sg 4 (.int .i64 g.u) rfl
      have g5' := cell_of_blk AB6.out.sg 5 (.int .u64 sm) rfl
      cases sb
      · rw [if_neg (by simp)] at C4
        rw [Bool.false_and] at C5
        as_aux_lemma =>
          go_wp2_with (first | (go_at_call 7; (with_reducible refine (C4.out _ (HS.out.keep AB6.out.bel) (HR.out.keep AB6.out.bel)).mono ?_); rintro e w7 ⟨rfl, hb⟩; have AB7 := Lib.hid (AB6.out.keep hb); clear hb; have c0 := cell_of_blk AB7.out.sx 0 (.string s.x) rfl; have c1 := cell_of_blk AB7.out.sx 1 (.int .i64 s.typ) rfl; have c2 := cell_of_blk AB7.out.sx 2 (.int .i64 s.life) rfl; have c3 := cell_of_blk AB7.out.sx 3 s.v rfl; have d0 := cell_of_blk AB7.out.ky 0 (.int .i64 n) rfl; have d1 := cell_of_blk AB7.out.ky 1 (.int .i64 a) rfl; have g0 := cell_of_blk AB7.out.sg 0 (.string g.z) rfl; have g1 := cell_of_blk AB7.out.sg 1 (.int .i64 g.k) rfl; have g2 := cell_of_blk AB7.out.sg 2 (.int .i64 g.a) rfl; have g3 := cell_of_blk AB7.out.sg 3 (.int .i64 g.f) rfl; have g4 := cell_of_blk AB7.out.sg 4 (.int .i64 g.u) rfl; have g5 := cell_of_blk AB7.out.sg 5 (.int .u64 sm) rfl; have zz := (Array.getElem?_eq_some_iff.1 AB7.out.sg).1; have zz0 := (Array.getElem?_eq_some_iff.1 AB7.out.sx).1; have zz1 := (Array.getElem?_eq_some_iff.1 AB7.out.ky).1) | (go_at_call 8; (with_reducible refine (C5.out _ (HS.out.keep (AB7.out.bel.alloc AB7.out.bel.size _)) (HR.out.keep (AB7.out.bel.alloc AB7.out.bel.size _))).mono ?_); rintro e w8 ⟨rfl, hb⟩; have AB8 := Lib.hid ((AB7.out.keep ((Below.refl _ w7).alloc (Nat.le_refl _) _)).keep hb); clear hb; have c0 := cell_of_blk AB8.out.sx 0 (.string s.x) rfl; have c1 := cell_of_blk AB8.out.sx 1 (.int .i64 s.typ) rfl; have c2 := cell_of_blk AB8.out.sx 2 (.int .i64 s.life) rfl; have c3 := cell_of_blk AB8.out.sx 3 s.v rfl; have d0 := cell_of_blk AB8.out.ky 0 (.int .i64 n) rfl; have d1 := cell_of_blk AB8.out.ky 1 (.int .i64 a) rfl; have g0 := cell_of_blk AB8.out.sg 0 (.string g.z) rfl; have g1 := cell_of_blk AB8.out.sg 1 (.int .i64 g.k) rfl; have g2 := cell_of_blk AB8.out.sg 2 (.int .i64 g.a) rfl; have g3 := cell_of_blk AB8.out.sg 3 (.int .i64 g.f) rfl; have g4 := cell_of_blk AB8.out.sg 4 (.int .i64 g.u) rfl; have g5 := cell_of_blk AB8.out.sg 5 (.int .u64 sm) rfl; have zz := (Array.getElem?_eq_some_iff.1 AB8.out.sg).1))
          go_ret
          exact ⟨rfl, AB8.out.bel⟩
      · rw [if_pos rfl] at C4
        rw [Bool.true_and] at C5
        by_cases q1 : n = g.k
        case neg =>
          rw [decide_eq_false q1, Bool.false_and, Bool.false_and] at C5
          have q1' : (n == g.k) = false := beq_eq_false_iff_ne.2 q1
          as_aux_lemma =>
            go_wp2_with (first | (go_at_call 7; (with_reducible refine (C4.out _ (HS.out.keep AB6.out.bel) (HR.out.keep AB6.out.bel)).mono ?_); rintro e w7 ⟨rfl, hb⟩; have AB7 := Lib.hid (AB6.out.keep hb); clear hb; have c0 := cell_of_blk AB7.out.sx 0 (.string s.x) rfl; have c1 := cell_of_blk AB7.out.sx 1 (.int .i64 s.typ) rfl; have c2 := cell_of_blk AB7.out.sx 2 (.int .i64 s.life) rfl; have c3 := cell_of_blk AB7.out.sx 3 s.v rfl; have d0 := cell_of_blk AB7.out.ky 0 (.int .i64 n) rfl; have d1 := cell_of_blk AB7.out.ky 1 (.int .i64 a) rfl; have g0 := cell_of_blk AB7.out.sg 0 (.string g.z) rfl; have g1 := cell_of_blk AB7.out.sg 1 (.int .i64 g.k) rfl; have g2 := cell_of_blk AB7.out.sg 2 (.int .i64 g.a) rfl; have g3 := cell_of_blk AB7.out.sg 3 (.int .i64 g.f) rfl; have g4 := cell_of_blk AB7.out.sg 4 (.int .i64 g.u) rfl; have g5 := cell_of_blk AB7.out.sg 5 (.int .u64 sm) rfl; have zz := (Array.getElem?_eq_some_iff.1 AB7.out.sg).1; have zz0 := (Array.getElem?_eq_some_iff.1 AB7.out.sx).1; have zz1 := (Array.getElem?_eq_some_iff.1 AB7.out.ky).1) | (go_at_call 8; (with_reducible refine (C5.out _ (HS.out.keep (AB7.out.bel.alloc AB7.out.bel.size _)) (HR.out.keep (AB7.out.bel.alloc AB7.out.bel.size _))).mono ?_); rintro e w8 ⟨rfl, hb⟩; have hy := (hb.block w7.heap.size (by simp)).trans (heap_alloc_new w7 (.cells #[.string g.z, .int .i64 n, .int .i64 a, .int .i64 g.f, .int .i64 g.u, .int .u64 s2] 29)); have y0 := cell_of_blk hy 0 (.string g.z) rfl; have y1 := cell_of_blk hy 1 (.int .i64 n) rfl; have y2 := cell_of_blk hy 2 (.int .i64 a) rfl; have y3 := cell_of_blk hy 3 (.int .i64 g.f) rfl; have y4 := cell_of_blk hy 4 (.int .i64 g.u) rfl; have y5 := cell_of_blk hy 5 (.int .u64 s2) rfl; clear hy; have AB8 := Lib.hid ((AB7.out.keep ((Below.refl _ w7).alloc (Nat.le_refl _) _)).keep hb); clear hb; have c0 := cell_of_blk AB8.out.sx 0 (.string s.x) rfl; have c1 := cell_of_blk AB8.out.sx 1 (.int .i64 s.typ) rfl; have c2 := cell_of_blk AB8.out.sx 2 (.int .i64 s.life) rfl; have c3 := cell_of_blk AB8.out.sx 3 s.v rfl; have d0 := cell_of_blk AB8.out.ky 0 (.int .i64 n) rfl; have d1 := cell_of_blk AB8.out.ky 1 (.int .i64 a) rfl; have g0 := cell_of_blk AB8.out.sg 0 (.string g.z) rfl; have g1 := cell_of_blk AB8.out.sg 1 (.int .i64 g.k) rfl; have g2 := cell_of_blk AB8.out.sg 2 (.int .i64 g.a) rfl; have g3 := cell_of_blk AB8.out.sg 3 (.int .i64 g.f) rfl; have g4 := cell_of_blk AB8.out.sg 4 (.int .i64 g.u) rfl; have g5 := cell_of_blk AB8.out.sg 5 (.int .u64 sm) rfl; have zz := (Array.getElem?_eq_some_iff.1 AB8.out.sg).1))
            go_ret
            exact ⟨rfl, AB8.out.bel⟩
        by_cases q2 : a = g.a
        case neg =>
          rw [decide_eq_true q1, decide_eq_false q2, Bool.and_false, Bool.false_and] at C5
          have q2' : (a == g.a) = false := beq_eq_false_iff_ne.2 q2
          have Q1 := Lib.hid q1
          clear q1
          as_aux_lemma =>
            go_wp2_with (first | (go_at_call 7; (with_reducible refine (C4.out _ (HS.out.keep AB6.out.bel) (HR.out.keep AB6.out.bel)).mono ?_); rintro e w7 ⟨rfl, hb⟩; have AB7 := Lib.hid (AB6.out.keep hb); clear hb; have c0 := cell_of_blk AB7.out.sx 0 (.string s.x) rfl; have c1 := cell_of_blk AB7.out.sx 1 (.int .i64 s.typ) rfl; have c2 := cell_of_blk AB7.out.sx 2 (.int .i64 s.life) rfl; have c3 := cell_of_blk AB7.out.sx 3 s.v rfl; have d0 := cell_of_blk AB7.out.ky 0 (.int .i64 n) rfl; have d1 := cell_of_blk AB7.out.ky 1 (.int .i64 a) rfl; have g0 := cell_of_blk AB7.out.sg 0 (.string g.z) rfl; have g1 := cell_of_blk AB7.out.sg 1 (.int .i64 g.k) rfl; have g2 := cell_of_blk AB7.out.sg 2 (.int .i64 g.a) rfl; have g3 := cell_of_blk AB7.out.sg 3 (.int .i64 g.f) rfl; have g4 := cell_of_blk AB7.out.sg 4 (.int .i64 g.u) rfl; have g5 := cell_of_blk AB7.out.sg 5 (.int .u64 sm) rfl; have zz := (Array.getElem?_eq_some_iff.1 AB7.out.sg).1; have zz0 := (Array.getElem?_eq_some_iff.1 AB7.out.sx).1; have zz1 := (Array.getElem?_eq_some_iff.1 AB7.out.ky).1) | (go_at_call 8; (with_reducible refine (C5.out _ (HS.out.keep (AB7.out.bel.alloc AB7.out.bel.size _)) (HR.out.keep (AB7.out.bel.alloc AB7.out.bel.size _))).mono ?_); rintro e w8 ⟨rfl, hb⟩; have hy := (hb.block w7.heap.size (by simp)).trans (heap_alloc_new w7 (.cells #[.string g.z, .int .i64 n, .int .i64 a, .int .i64 g.f, .int .i64 g.u, .int .u64 s2] 29)); have y0 := cell_of_blk hy 0 (.string g.z) rfl; have y1 := cell_of_blk hy 1 (.int .i64 n) rfl; have y2 := cell_of_blk hy 2 (.int .i64 a) rfl; have y3 := cell_of_blk hy 3 (.int .i64 g.f) rfl; have y4 := cell_of_blk hy 4 (.int .i64 g.u) rfl; have y5 := cell_of_blk hy 5 (.int .u64 s2) rfl; clear hy; have AB8 := Lib.hid ((AB7.out.keep ((Below.refl _ w7).alloc (Nat.le_refl _) _)).keep hb); clear hb; have c0 := cell_of_blk AB8.out.sx 0 (.string s.x) rfl; have c1 := cell_of_blk AB8.out.sx 1 (.int .i64 s.typ) rfl; have c2 := cell_of_blk AB8.out.sx 2 (.int .i64 s.life) rfl; have c3 := cell_of_blk AB8.out.sx 3 s.v rfl; have d0 := cell_of_blk AB8.out.ky 0 (.int .i64 n) rfl; have d1 := cell_of_blk AB8.out.ky 1 (.int .i64 a) rfl; have g0 := cell_of_blk AB8.out.sg 0 (.string g.z) rfl; have g1 := cell_of_blk AB8.out.sg 1 (.int .i64 g.k) rfl; have g2 := cell_of_blk AB8.out.sg 2 (.int .i64 g.a) rfl; have g3 := cell_of_blk AB8.out.sg 3 (.int .i64 g.f) rfl; have g4 := cell_of_blk AB8.out.sg 4 (.int .i64 g.u) rfl; have g5 := cell_of_blk AB8.out.sg 5 (.int .u64 sm) rfl; have zz := (Array.getElem?_eq_some_iff.1 AB8.out.sg).1))
            all_goals go_ret
            all_goals exact ⟨rfl, AB8.out.bel⟩
        by_cases q3 : s2 = sm
        case neg =>
          rw [decide_eq_true q1, decide_eq_true q2, decide_eq_false q3, Bool.and_false] at C5
          have q3' : (s2 == sm) = false := beq_eq_false_iff_ne.2 q3
          have Q1 := Lib.hid q1
          have Q2 := Lib.hid q2
          clear q1 q2
          as_aux_lemma =>
            go_wp2_with (first | (go_at_call 7; (with_reducible refine (C4.out _ (HS.out.keep AB6.out.bel) (HR.out.keep AB6.out.bel)).mono ?_); rintro e w7 ⟨rfl, hb⟩; have AB7 := Lib.hid (AB6.out.keep hb); clear hb; have c0 := cell_of_blk AB7.out.sx 0 (.string s.x) rfl; have c1 := cell_of_blk AB7.out.sx 1 (.int .i64 s.typ) rfl; have c2 := cell_of_blk AB7.out.sx 2 (.int .i64 s.life) rfl; have c3 := cell_of_blk AB7.out.sx 3 s.v rfl; have d0 := cell_of_blk AB7.out.ky 0 (.int .i64 n) rfl; have d1 := cell_of_blk AB7.out.ky 1 (.int .i64 a) rfl; have g0 := cell_of_blk AB7.out.sg 0 (.string g.z) rfl; have g1 := cell_of_blk AB7.out.sg 1 (.int .i64 g.k) rfl; have g2 := cell_of_blk AB7.out.sg 2 (.int .i64 g.a) rfl; have g3 := cell_of_blk AB7.out.sg 3 (.int .i64 g.f) rfl; have g4 := cell_of_blk AB7.out.sg 4 (.int .i64 g.u) rfl; have g5 := cell_of_blk AB7.out.sg 5 (.int .u64 sm) rfl; have zz := (Array.getElem?_eq_some_iff.1 AB7.out.sg).1; have zz0 := (Array.getElem?_eq_some_iff.1 AB7.out.sx).1; have zz1 := (Array.getElem?_eq_some_iff.1 AB7.out.ky).1) | (go_at_call 8; (with_reducible refine (C5.out _ (HS.out.keep (AB7.out.bel.alloc AB7.out.bel.size _)) (HR.out.keep (AB7.out.bel.alloc AB7.out.bel.size _))).mono ?_); rintro e w8 ⟨rfl, hb⟩; have hy := (hb.block w7.heap.size (by simp)).trans (heap_alloc_new w7 (.cells #[.string g.z, .int .i64 n, .int .i64 a, .int .i64 g.f, .int .i64 g.u, .int .u64 s2] 29)); have y0 := cell_of_blk hy 0 (.string g.z) rfl; have y1 := cell_of_blk hy 1 (.int .i64 n) rfl; have y2 := cell_of_blk hy 2 (.int .i64 a) rfl; have y3 := cell_of_blk hy 3 (.int .i64 g.f) rfl; have y4 := cell_of_blk hy 4 (.int .i64 g.u) rfl; have y5 := cell_of_blk hy 5 (.int .u64 s2) rfl; clear hy; have AB8 := Lib.hid ((AB7.out.keep ((Below.refl _ w7).alloc (Nat.le_refl _) _)).keep hb); clear hb; have c0 := cell_of_blk AB8.out.sx 0 (.string s.x) rfl; have c1 := cell_of_blk AB8.out.sx 1 (.int .i64 s.typ) rfl; have c2 := cell_of_blk AB8.out.sx 2 (.int .i64 s.life) rfl; have c3 := cell_of_blk AB8.out.sx 3 s.v rfl; have d0 := cell_of_blk AB8.out.ky 0 (.int .i64 n) rfl; have d1 := cell_of_blk AB8.out.ky 1 (.int .i64 a) rfl; have g0 := cell_of_blk AB8.out.sg 0 (.string g.z) rfl; have g1 := cell_of_blk AB8.out.sg 1 (.int .i64 g.k) rfl; have g2 := cell_of_blk AB8.out.sg 2 (.int .i64 g.a) rfl; have g3 := cell_of_blk AB8.out.sg 3 (.int .i64 g.f) rfl; have g4 := cell_of_blk AB8.out.sg 4 (.int .i64 g.u) rfl; have g5 := cell_of_blk AB8.out.sg 5 (.int .u64 sm) rfl; have zz := (Array.getElem?_eq_some_iff.1 AB8.out.sg).1))
            all_goals go_ret
            all_goals exact ⟨rfl, AB8.out.bel⟩
        rw [decide_eq_true q1, decide_eq_true q2, decide_eq_true q3] at C5
        simp only [Bool.and_true] at C5
        have q1' : (n == g.k) = true := beq_iff_eq.2 q1
        have q2' : (a == g.a) = true := beq_iff_eq.2 q2
        have q3' : (s2 == sm) = true := beq_iff_eq.2 q3
        clear q1 q2 q3
        as_aux_lemma =>
          go_wp2_with (first | (go_at_call 7; (with_reducible refine (C4.out _ (HS.out.keep AB6.out.bel) (HR.out.keep AB6.out.bel)).mono ?_); rintro e w7 ⟨rfl, hb⟩; have AB7 := Lib.hid (AB6.out.keep hb); clear hb; have c0 := cell_of_blk AB7.out.sx 0 (.string s.x) rfl; have c1 := cell_of_blk AB7.out.sx 1 (.int .i64 s.typ) rfl; have c2 := cell_of_blk AB7.out.sx 2 (.int .i64 s.life) rfl; have c3 := cell_of_blk AB7.out.sx 3 s.v rfl; have d0 := cell_of_blk AB7.out.ky 0 (.int .i64 n) rfl; have d1 := cell_of_blk AB7.out.ky 1 (.int .i64 a) rfl; have g0 := cell_of_blk AB7.out.sg 0 (.string g.z) rfl; have g1 := cell_of_blk AB7.out.sg 1 (.int .i64 g.k) rfl; have g2 := cell_of_blk AB7.out.sg 2 (.int .i64 g.a) rfl; have g3 := cell_of_blk AB7.out.sg 3 (.int .i64 g.f) rfl; have g4 := cell_of_blk AB7.out.sg 4 (.int .i64 g.u) rfl; have g5 := cell_of_blk AB7.out.sg 5 (.int .u64 sm) rfl; have zz := (Array.getElem?_eq_some_iff.1 AB7.out.sg).1; have zz0 := (Array.getElem?_eq_some_iff.1 AB7.out.sx).1; have zz1 := (Array.getElem?_eq_some_iff.1 AB7.out.ky).1) | (go_at_call 8; (with_reducible refine (C5.out _ (HS.out.keep (AB7.out.bel.alloc AB7.out.bel.size _)) (HR.out.keep (AB7.out.bel.alloc AB7.out.bel.size _))).mono ?_); rintro e w8 ⟨rfl, hb⟩; have hy := (hb.block w7.heap.size (by simp)).trans (heap_alloc_new w7 (.cells #[.string g.z, .int .i64 n, .int .i64 a, .int .i64 g.f, .int .i64 g.u, .int .u64 s2] 29)); have y0 := cell_of_blk hy 0 (.string g.z) rfl; have y1 := cell_of_blk hy 1 (.int .i64 n) rfl; have y2 := cell_of_blk hy 2 (.int .i64 a) rfl; have y3 := cell_of_blk hy 3 (.int .i64 g.f) rfl; have y4 := cell_of_blk hy 4 (.int .i64 g.u) rfl; have y5 := cell_of_blk hy 5 (.int .u64 s2) rfl; clear hy; have AB8 := Lib.hid ((AB7.out.keep ((Below.refl _ w7).alloc (Nat.le_refl _) _)).keep hb); clear hb; have c0 := cell_of_blk AB8.out.sx 0 (.string s.x) rfl; have c1 := cell_of_blk AB8.out.sx 1 (.int .i64 s.typ) rfl; have c2 := cell_of_blk AB8.out.sx 2 (.int .i64 s.life) rfl; have c3 := cell_of_blk AB8.out.sx 3 s.v rfl; have d0 := cell_of_blk AB8.out.ky 0 (.int .i64 n) rfl; have d1 := cell_of_blk AB8.out.ky 1 (.int .i64 a) rfl; have g0 := cell_of_blk AB8.out.sg 0 (.string g.z) rfl; have g1 := cell_of_blk AB8.out.sg 1 (.int .i64 g.k) rfl; have g2 := cell_of_blk AB8.out.sg 2 (.int .i64 g.a) rfl; have g3 := cell_of_blk AB8.out.sg 3 (.int .i64 g.f) rfl; have g4 := cell_of_blk AB8.out.sg 4 (.int .i64 g.u) rfl; have g5 := cell_of_blk AB8.out.sg 5 (.int .u64 sm) rfl; have zz := (Array.getElem?_eq_some_iff.1 AB8.out.sg).1))
          go_ret
          exact ⟨rfl, AB8.out.bel⟩
  · have hk' : (a2 == a) = false := beq_eq_false_iff_ne.2 hk
    have hk0' : (n2 == n) = true := beq_iff_eq.2 hk0
    clear hk0
    go_upto_region 7 with (first | (go_at_call 8; (with_reducible refine (C2.out _ (HS.out.keep AB4.out.bel) (HR.out.keep AB4.out.bel)).mono ?_); rintro e w5 ⟨rfl, hb⟩; have AB5 := Lib.hid (AB4.out.keep hb); have X5 := Lib.hid ((hb.block r (Array.getElem?_eq_some_iff.1 X4.out).1).trans X4.out); clear hb C2; have c0 := cell_of_blk AB5.out.sx 0 (.string s.x) rfl; have c1 := cell_of_blk AB5.out.sx 1 (.int .i64 s.typ) rfl; have c2 := cell_of_blk AB5.out.sx 2 (.int .i64 s.life) rfl; have c3 := cell_of_blk AB5.out.sx 3 s.v rfl; have d0 := cell_of_blk AB5.out.ky 0 (.int .i64 n) rfl; have d1 := cell_of_blk AB5.out.ky 1 (.int .i64 a) rfl; have e0 := cell_of_blk AB5.out.k2 0 (.int .i64 n2) rfl; have e1 := cell_of_blk AB5.out.k2 1 (.int .i64 a2) rfl; have g0 := cell_of_blk AB5.out.sg 0 (.string g.z) rfl; have g1 := cell_of_blk AB5.out.sg 1 (.int .i64 g.k) rfl; have g2 := cell_of_blk AB5.out.sg 2 (.int .i64 g.a) rfl; have g3 := cell_of_blk AB5.out.sg 3 (.int .i64 g.f) rfl; have g4 := cell_of_blk AB5.out.sg 4 (.int .i64 g.u) rfl; have g5 := cell_of_blk AB5.out.sg 5 (.int .u64 g.m) rfl; have gf := frozen_of_blk AB5.out.sg 5; have x0 := cell_of_blk X5.out 0 (.string z) rfl; have x1 := cell_of_blk X5.out 1 (.int .i64 n) rfl; have x2 := cell_of_blk X5.out 2 (.int .i64 a) rfl; have x3 := cell_of_blk X5.out 3 (.int .i64 f) rfl; have x4 := cell_of_blk X5.out 4 (.int .i64 u) rfl; have x5 := cell_of_blk X5.out 5 (.int .u64 sm) rfl) | (go_at_call 8; (with_reducible refine (C3.out _ (HS.out.keep AB5.out.bel) (HR.out.keep AB5.out.bel)).mono ?_); rintro e w6 ⟨rfl, hb⟩; replace X5 := Lib.hid ((hb.block r (Array.getElem?_eq_some_iff.1 X5.out).1).trans X5.out); replace AB5 := Lib.hid (AB5.out.keep hb); clear hb; have c0 := cell_of_blk AB5.out.sx 0 (.string s.x) rfl; have c1 := cell_of_blk AB5.out.sx 1 (.int .i64 s.typ) rfl; have c2 := cell_of_blk AB5.out.sx 2 (.int .i64 s.life) rfl; have c3 := cell_of_blk AB5.out.sx 3 s.v rfl; have d0 := cell_of_blk AB5.out.ky 0 (.int .i64 n) rfl; have d1 := cell_of_blk AB5.out.ky 1 (.int .i64 a) rfl; have e0 := cell_of_blk AB5.out.k2 0 (.int .i64 n2) rfl; have e1 := cell_of_blk AB5.out.k2 1 (.int .i64 a2) rfl; have g0 := cell_of_blk AB5.out.sg 0 (.string g.z) rfl; have g1 := cell_of_blk AB5.out.sg 1 (.int .i64 g.k) rfl; have g2 := cell_of_blk AB5.out.sg 2 (.int .i64 g.a) rfl; have g3 := cell_of_blk AB5.out.sg 3 (.int .i64 g.f) rfl; have g4 := cell_of_blk AB5.out.sg 4 (.int .i64 g.u) rfl; have g5 := cell_of_blk AB5.out.sg 5 (.int .u64 g.m) rfl; have gf := frozen_of_blk AB5.out.sg 5; have x0 := cell_of_blk X5.out 0 (.string z) rfl; have x1 := cell_of_blk X5.out 1 (.int .i64 n) rfl; have x2 := cell_of_blk X5.out 2 (.int .i64 a) rfl; have x3 := cell_of_blk X5.out 3 (.int .i64 f) rfl; have x4 := cell_of_blk X5.out 4 (.int .i64 u) rfl; have x5 := cell_of_blk X5.out 5 (.int .u64 sm) rfl))
    as_aux_lemma =>
      have AB6 := Lib.hid (AB5.out.put sm)
      have c0' := cell_of_blk AB6.out.sx 0 (.string s.x) rfl
      have c1' := cell_of_blk AB6.out.sx 1 (.int .i64 s.typ) rfl
      have c2' := cell_of_blk AB6.out.sx 2 (.int .i64 s.life) rfl
      have c3' := cell_of_blk AB6.out.sx 3 s.v rfl
      have d0' := cell_of_blk AB6.out.ky 0 (.int .i64 n) rfl
      have d1' := cell_of_blk AB6.out.ky 1 (.int .i64 a) rfl
      have g0' := cell_of_blk AB6.out.sg 0 (.string g.z) rfl
      have g1' := cell_of_blk AB6.out.sg 1 (.int .i64 g.k) rfl
      have g2' := cell_of_blk AB6.out.sg 2 (.int .i64 g.a) rfl
      have g3' := cell_of_blk AB6.out.sg 3 (.int .i64 g.f) rfl
      have g4' := cell_of_blk AB6.out.sg 4 (.int .i64 g.u) rfl
      have g5' := cell_of_blk AB6.out.sg 5 (.int .u64 sm) rfl
      cases sb
      · rw [if_neg (by simp)] at C4
        rw [Bool.false_and] at C5
        as_aux_lemma =>
          go_wp2_with (first | (go_at_call 7; (with_reducible refine (C4.out _ (HS.out.keep AB6.out.bel) (HR.out.keep AB6.out.bel)).mono ?_); rintro e w7 ⟨rfl, hb⟩; have AB7 := Lib.hid (AB6.out.keep hb); clear hb; have c0 := cell_of_blk AB7.out.sx 0 (.string s.x) rfl; have c1 := cell_of_blk AB7.out.sx 1 (.int .i64 s.typ) rfl; have c2 := cell_of_blk AB7.out.sx 2 (.int .i64 s.life) rfl; have c3 := cell_of_blk AB7.out.sx 3 s.v rfl; have d0 := cell_of_blk AB7.out.ky 0 (.int .i64 n) rfl; have d1 := cell_of_blk AB7.out.ky 1 (.int .i64 a) rfl; have g0 := cell_of_blk AB7.out.sg 0 (.string g.z) rfl; have g1 := cell_of_blk AB7.out.sg 1 (.int .i64 g.k) rfl; have g2 := cell_of_blk AB7.out.sg 2 (.int .i64 g.a) rfl; have g3 := cell_of_blk AB7.out.sg 3 (.int .i64 g.f) rfl; have g4 := cell_of_blk AB7.out.sg 4 (.int .i64 g.u) rfl; have g5 := cell_of_blk AB7.out.sg 5 (.int .u64 sm) rfl; have zz := (Array.getElem?_eq_some_iff.1 AB7.out.sg).1; have zz0 := (Array.getElem?_eq_some_iff.1 AB7.out.sx).1; have zz1 := (Array.getElem?_eq_some_iff.1 AB7.out.ky).1) | (go_at_call 8; (with_reducible refine (C5.out _ (HS.out.keep (AB7.out.bel.alloc AB7.out.bel.size _)) (HR.out.keep (AB7.out.bel.alloc AB7.out.bel.size _))).mono ?_); rintro e w8 ⟨rfl, hb⟩; have AB8 := Lib.hid ((AB7.out.keep ((Below.refl _ w7).alloc (Nat.le_refl _) _)).keep hb); clear hb; have c0 := cell_of_blk AB8.out.sx 0 (.string s.x) rfl; have c1 := cell_of_blk AB8.out.sx 1 (.int .i64 s.typ) rfl; have c2 := cell_of_blk AB8.out.sx 2 (.int .i64 s.life) rfl; have c3 := cell_of_blk AB8.out.sx 3 s.v rfl; have d0 := cell_of_blk AB8.out.ky 0 (.int .i64 n) rfl; have d1 := cell_of_blk AB8.out.ky 1 (.int .i64 a) rfl; have g0 := cell_of_blk AB8.out.sg 0 (.string g.z) rfl; have g1 := cell_of_blk AB8.out.sg 1 (.int .i64 g.k) rfl; have g2 := cell_of_blk AB8.out.sg 2 (.int .i64 g.a) rfl; have g3 := cell_of_blk AB8.out.sg 3 (.int .i64 g.f) rfl; have g4 := cell_of_blk AB8.out.sg 4 (.int .i64 g.u) rfl; have g5 := cell_of_blk AB8.out.sg 5 (.int .u64 sm) rfl; have zz := (Array.getElem?_eq_some_iff.1 AB8.out.sg).1))
          go_ret
          exact ⟨rfl, AB8.out.bel⟩
      · rw [if_pos rfl] at C4
        rw [Bool.true_and] at C5
        by_cases q1 : n = g.k
        case neg =>
          rw [decide_eq_false q1, Bool.false_and, Bool.false_and] at C5
          have q1' : (n == g.k) = false := beq_eq_false_iff_ne.2 q1
          as_aux_lemma =>
            go_wp2_with (first | (go_at_call 7; (with_reducible refine (C4.out _ (HS.out.keep AB6.out.bel) (HR.out.keep AB6.out.bel)).mono ?_); rintro e w7 ⟨rfl, hb⟩; have AB7 := Lib.hid (AB6.out.keep hb); clear hb; have c0 := cell_of_blk AB7.out.sx 0 (.string s.x) rfl; have c1 := cell_of_blk AB7.out.sx 1 (.int .i64 s.typ) rfl; have c2 := cell_of_blk AB7.out.sx 2 (.int .i64 s.life) rfl; have c3 := cell_of_blk AB7.out.sx 3 s.v rfl; have d0 := cell_of_blk AB7.out.ky 0 (.int .i64 n) rfl; have d1 := cell_of_blk AB7.out.ky 1 (.int .i64 a) rfl; have g0 := cell_of_blk AB7.out.sg 0 (.string g.z) rfl; have g1 := cell_of_blk AB7.out.sg 1 (.int .i64 g.k) rfl; have g2 := cell_of_blk AB7.out.sg 2 (.int .i64 g.a) rfl; have g3 := cell_of_blk AB7.out.sg 3 (.int .i64 g.f) rfl; have g4 := cell_of_blk AB7.out.sg 4 (.int .i64 g.u) rfl; have g5 := cell_of_blk AB7.out.sg 5 (.int .u64 sm) rfl; have zz := (Array.getElem?_eq_some_iff.1 AB7.out.sg).1; have zz0 := (Array.getElem?_eq_some_iff.1 AB7.out.sx).1; have zz1 := (Array.getElem?_eq_some_iff.1 AB7.out.ky).1) | (go_at_call 8; (with_reducible refine (C5.out _ (HS.out.keep (AB7.out.bel.alloc AB7.out.bel.size _)) (HR.out.keep (AB7.out.bel.alloc AB7.out.bel.size _))).mono ?_); rintro e w8 ⟨rfl, hb⟩; have hy := (hb.block w7.heap.size (by simp)).trans (heap_alloc_new w7 (.cells #[.string g.z, .int .i64 n, .int .i64 a, .int .i64 g.f, .int .i64 g.u, .int .u64 s2] 29)); have y0 := cell_of_blk hy 0 (.string g.z) rfl; have y1 := cell_of_blk hy 1 (.int .i64 n) rfl; have y2 := cell_of_blk hy 2 (.int .i64 a) rfl; have y3 := cell_of_blk hy 3 (.int .i64 g.f) rfl; have y4 := cell_of_blk hy 4 (.int .i64 g.u) rfl; have y5 := cell_of_blk hy 5 (.int .u64 s2) rfl; clear hy; have AB8 := Lib.hid ((AB7.out.keep ((Below.refl _ w7).alloc (Nat.le_refl _) _)).keep hb); clear hb; have c0 := cell_of_blk AB8.out.sx 0 (.string s.x) rfl; have c1 := cell_of_blk AB8.out.sx 1 (.int .i64 s.typ) rfl; have c2 := cell_of_blk AB8.out.sx 2 (.int .i64 s.life) rfl; have c3 := cell_of_blk AB8.out.sx 3 s.v rfl; have d0 := cell_of_blk AB8.out.ky 0 (.int .i64 n) rfl; have d1 := cell_of_blk AB8.out.ky 1 (.int .i64 a) rfl; have g0 := cell_of_blk AB8.out.sg 0 (.string g.z) rfl; have g1 := cell_of_blk AB8.out.sg 1 (.int .i64 g.k) rfl; have g2 := cell_of_blk AB8.out.sg 2 (.int .i64 g.a) rfl; have g3 := cell_of_blk AB8.out.sg 3 (.int .i64 g.f) rfl; have g4 := cell_of_blk AB8.out.sg 4 (.int .i64 g.u) rfl; have g5 := cell_of_blk AB8.out.sg 5 (.int .u64 sm) rfl; have zz := (Array.getElem?_eq_some_iff.1 AB8.out.sg).1))
            go_ret
            exact ⟨rfl, AB8.out.bel⟩
        by_cases q2 : a = g.a
        case neg =>
          rw [decide_eq_true q1, decide_eq_false q2, Bool.and_false, Bool.false_and] at C5
          have q2' : (a == g.a) = false := beq_eq_false_iff_ne.2 q2
          have Q1 := Lib.hid q1
          clear q1
          as_aux_lemma =>
            go_wp2_with (first | (go_at_call 7; (with_reducible refine (C4.out _ (HS.out.keep AB6.out.bel) (HR.out.keep AB6.out.bel)).mono ?_); rintro e w7 ⟨rfl, hb⟩; have AB7 := Lib.hid (AB6.out.keep hb); clear hb; have c0 := cell_of_blk AB7.out.sx 0 (.string s.x) rfl; have c1 := cell_of_blk AB7.out.sx 1 (.int .i64 s.typ) rfl; have c2 := cell_of_blk AB7.out.sx 2 (.int .i64 s.life) rfl; have c3 := cell_of_blk AB7.out.sx 3 s.v rfl; have d0 := cell_of_blk AB7.out.ky 0 (.int .i64 n) rfl; have d1 := cell_of_blk AB7.out.ky 1 (.int .i64 a) rfl; have g0 := cell_of_blk AB7.out.sg 0 (.string g.z) rfl; have g1 := cell_of_blk AB7.out.sg 1 (.int .i64 g.k) rfl; have g2 := cell_of_blk AB7.out.sg 2 (.int .i64 g.a) rfl; have g3 := cell_of_blk AB7.out.sg 3 (.int .i64 g.f) rfl; have g4 := cell_of_blk AB7.out.sg 4 (.int .i64 g.u) rfl; have g5 := cell_of_blk AB7.out.sg 5 (.int .u64 sm) rfl; have zz := (Array.getElem?_eq_some_iff.1 AB7.out.sg).1; have zz0 := (Array.getElem?_eq_some_iff.1 AB7.out.sx).1; have zz1 := (Array.getElem?_eq_some_iff.1 AB7.out.ky).1) | (go_at_call 8; (with_reducible refine (C5.out _ (HS.out.keep (AB7.out.bel.alloc AB7.out.bel.size _)) (HR.out.keep (AB7.out.bel.alloc AB7.out.bel.size _))).mono ?_); rintro e w8 ⟨rfl, hb⟩; have hy := (hb.block w7.heap.size (by simp)).trans (heap_alloc_new w7 (.cells #[.string g.z, .int .i64 n, .int .i64 a, .int .i64 g.f, .int .i64 g.u, .int .u64 s2] 29)); have y0 := cell_of_blk hy 0 (.string g.z) rfl; have y1 := cell_of_blk hy 1 (.int .i64 n) rfl; have y2 := cell_of_blk hy 2 (.int .i64 a) rfl; have y3 := cell_of_blk hy 3 (.int .i64 g.f) rfl; have y4 := cell_of_blk hy 4 (.int .i64 g.u) rfl; have y5 := cell_of_blk hy 5 (.int .u64 s2) rfl; clear hy; have AB8 := Lib.hid ((AB7.out.keep ((Below.refl _ w7).alloc (Nat.le_refl _) _)).keep hb); clear hb; have c0 := cell_of_blk AB8.out.sx 0 (.string s.x) rfl; have c1 := cell_of_blk AB8.out.sx 1 (.int .i64 s.typ) rfl; have c2 := cell_of_blk AB8.out.sx 2 (.int .i64 s.life) rfl; have c3 := cell_of_blk AB8.out.sx 3 s.v rfl; have d0 := cell_of_blk AB8.out.ky 0 (.int .i64 n) rfl; have d1 := cell_of_blk AB8.out.ky 1 (.int .i64 a) rfl; have g0 := cell_of_blk AB8.out.sg 0 (.string g.z) rfl; have g1 := cell_of_blk AB8.out.sg 1 (.int .i64 g.k) rfl; have g2 := cell_of_blk AB8.out.sg 2 (.int .i64 g.a) rfl; have g3 := cell_of_blk AB8.out.sg 3 (.int .i64 g.f) rfl; have g4 := cell_of_blk AB8.out.sg 4 (.int .i64 g.u) rfl; have g5 := cell_of_blk AB8.out.sg 5 (.int .u64 sm) rfl; have zz := (Array.getElem?_eq_some_iff.1 AB8.out.sg).1))
            all_goals go_ret
            all_goals exact ⟨rfl, AB8.out.bel⟩
        by_cases q3 : s2 = sm
        case neg =>
          rw [decide_eq_true q1, decide_eq_true q2, decide_eq_false q3, Bool.and_false] at C5
          have q3' : (s2 == sm) = false := beq_eq_false_iff_ne.2 q3
          have Q1 := Lib.hid q1
          have Q2 := Lib.hid q2
          clear q1 q2
          as_aux_lemma =>
            go_wp2_with (first | (go_at_call 7; (with_reducible refine (C4.out _ (HS.out.keep AB6.out.bel) (HR.out.keep AB6.out.bel)).mono ?_); rintro e w7 ⟨rfl, hb⟩; have AB7 := Lib.hid (AB6.out.keep hb); clear hb; have c0 := cell_of_blk AB7.out.sx 0 (.string s.x) rfl; have c1 := cell_of_blk AB7.out.sx 1 (.int .i64 s.typ) rfl; have c2 := cell_of_blk AB7.out.sx 2 (.int .i64 s.life) rfl; have c3 := cell_of_blk AB7.out.sx 3 s.v rfl; have d0 := cell_of_blk AB7.out.ky 0 (.int .i64 n) rfl; have d1 := cell_of_blk AB7.out.ky 1 (.int .i64 a) rfl; have g0 := cell_of_blk AB7.out.sg 0 (.string g.z) rfl; have g1 := cell_of_blk AB7.out.sg 1 (.int .i64 g.k) rfl; have g2 := cell_of_blk AB7.out.sg 2 (.int .i64 g.a) rfl; have g3 := cell_of_blk AB7.out.sg 3 (.int .i64 g.f) rfl; have g4 := cell_of_blk AB7.out.sg 4 (.int .i64 g.u) rfl; have g5 := cell_of_blk AB7.out.sg 5 (.int .u64 sm) rfl; have zz := (Array.getElem?_eq_some_iff.1 AB7.out.sg).1; have zz0 := (Array.getElem?_eq_some_iff.1 AB7.out.sx).1; have zz1 := (Array.getElem?_eq_some_iff.1 AB7.out.ky).1) | (go_at_call 8; (with_reducible refine (C5.out _ (HS.out.keep (AB7.out.bel.alloc AB7.out.bel.size _)) (HR.out.keep (AB7.out.bel.alloc AB7.out.bel.size _))).mono ?_); rintro e w8 ⟨rfl, hb⟩; have hy := (hb.block w7.heap.size (by simp)).trans (heap_alloc_new w7 (.cells #[.string g.z, .int .i64 n, .int .i64 a, .int .i64 g.f, .int .i64 g.u, .int .u64 s2] 29)); have y0 := cell_of_blk hy 0 (.string g.z) rfl; have y1 := cell_of_blk hy 1 (.int .i64 n) rfl; have y2 := cell_of_blk hy 2 (.int .i64 a) rfl; have y3 := cell_of_blk hy 3 (.int .i64 g.f) rfl; have y4 := cell_of_blk hy 4 (.int .i64 g.u) rfl; have y5 := cell_of_blk hy 5 (.int .u64 s2) rfl; clear hy; have AB8 := Lib.hid ((AB7.out.keep ((Below.refl _ w7).alloc (Nat.le_refl _) _)).keep hb); clear hb; have c0 := cell_of_blk AB8.out.sx 0 (.string s.x) rfl; have c1 := cell_of_blk AB8.out.sx 1 (.int .i64 s.typ) rfl; have c2 := cell_of_blk AB8.out.sx 2 (.int .i64 s.life) rfl; have c3 := cell_of_blk AB8.out.sx 3 s.v rfl; have d0 := cell_of_blk AB8.out.ky 0 (.int .i64 n) rfl; have d1 := cell_of_blk AB8.out.ky 1 (.int .i64 a) rfl; have g0 := cell_of_blk AB8.out.sg 0 (.string g.z) rfl; have g1 := cell_of_blk AB8.out.sg 1 (.int .i64 g.k) rfl; have g2 := cell_of_blk AB8.out.sg 2 (.int .i64 g.a) rfl; have g3 := cell_of_blk AB8.out.sg 3 (.int .i64 g.f) rfl; have g4 := cell_of_blk AB8.out.sg 4 (.int .i64 g.u) rfl; have g5 := cell_of_blk AB8.out.sg 5 (.int .u64 sm) rfl; have zz := (Array.getElem?_eq_some_iff.1 AB8.out.sg).1))
            all_goals go_ret
            all_goals exact ⟨rfl, AB8.out.bel⟩
        rw [decide_eq_true q1, decide_eq_true q2, decide_eq_true q3] at C5
        simp only [Bool.and_true] at C5
        have q1' : (n == g.k) = true := beq_iff_eq.2 q1
        have q2' : (a == g.a) = true := beq_iff_eq.2 q2
        have q3' : (s2 == sm) = true := beq_iff_eq.2 q3
        clear q1 q2 q3
        as_aux_lemma =>
          go_wp2_with (first | (go_at_call 7; (with_reducible refine (C4.out _ (HS.out.keep AB6.out.bel) (HR.out.keep AB6.out.bel)).mono ?_); rintro e w7 ⟨rfl, hb⟩; have AB7 := Lib.hid (AB6.out.keep hb); clear hb; have c0 := cell_of_blk AB7.out.sx 0 (.string s.x) rfl; have c1 := cell_of_blk AB7.out.sx 1 (.int .i64 s.typ) rfl; have c2 := cell_of_blk AB7.out.sx 2 (.int .i64 s.life) rfl; have c3 := cell_of_blk AB7.out.sx 3 s.v rfl; have d0 := cell_of_blk AB7.out.ky 0 (.int .i64 n) rfl; have d1 := cell_of_blk AB7.out.ky 1 (.int .i64 a) rfl; have g0 := cell_of_blk AB7.out.sg 0 (.string g.z) rfl; have g1 := cell_of_blk AB7.out.sg 1 (.int .i64 g.k) rfl; have g2 := cell_of_blk AB7.out.sg 2 (.int .i64 g.a) rfl; have g3 := cell_of_blk AB7.out.sg 3 (.int .i64 g.f) rfl; have g4 := cell_of_blk AB7.out.sg 4 (.int .i64 g.u) rfl; have g5 := cell_of_blk AB7.out.sg 5 (.int .u64 sm) rfl; have zz := (Array.getElem?_eq_some_iff.1 AB7.out.sg).1; have zz0 := (Array.getElem?_eq_some_iff.1 AB7.out.sx).1; have zz1 := (Array.getElem?_eq_some_iff.1 AB7.out.ky).1) | (go_at_call 8; (with_reducible refine (C5.out _ (HS.out.keep (AB7.out.bel.alloc AB7.out.bel.size _)) (HR.out.keep (AB7.out.bel.alloc AB7.out.bel.size _))).mono ?_); rintro e w8 ⟨rfl, hb⟩; have hy := (hb.block w7.heap.size (by simp)).trans (heap_alloc_new w7 (.cells #[.string g.z, .int .i64 n, .int .i64 a, .int .i64 g.f, .int .i64 g.u, .int .u64 s2] 29)); have y0 := cell_of_blk hy 0 (.string g.z) rfl; have y1 := cell_of_blk hy 1 (.int .i64 n) rfl; have y2 := cell_of_blk hy 2 (.int .i64 a) rfl; have y3 := cell_of_blk hy 3 (.int .i64 g.f) rfl; have y4 := cell_of_blk hy 4 (.int .i64 g.u) rfl; have y5 := cell_of_blk hy 5 (.int .u64 s2) rfl; clear hy; have AB8 := Lib.hid ((AB7.out.keep ((Below.refl _ w7).alloc (Nat.le_refl _) _)).keep hb); clear hb; have c0 := cell_of_blk AB8.out.sx 0 (.string s.x) rfl; have c1 := cell_of_blk AB8.out.sx 1 (.int .i64 s.typ) rfl; have c2 := cell_of_blk AB8.out.sx 2 (.int .i64 s.life) rfl; have c3 := cell_of_blk AB8.out.sx 3 s.v rfl; have d0 := cell_of_blk AB8.out.ky 0 (.int .i64 n) rfl; have d1 := cell_of_blk AB8.out.ky 1 (.int .i64 a) rfl; have g0 := cell_of_blk AB8.out.sg 0 (.string g.z) rfl; have g1 := cell_of_blk AB8.out.sg 1 (.int .i64 g.k) rfl; have g2 := cell_of_blk AB8.out.sg 2 (.int .i64 g.a) rfl; have g3 := cell_of_blk AB8.out.sg 3 (.int .i64 g.f) rfl; have g4 := cell_of_blk AB8.out.sg 4 (.int .i64 g.u) rfl; have g5 := cell_of_blk AB8.out.sg 5 (.int .u64 sm) rfl; have zz := (Array.getElem?_eq_some_iff.1 AB8.out.sg).1))
          go_ret
          exact ⟨rfl, AB8.out.bel⟩

/-- SignAccepted, for every argument. -/
theorem accepted_any (s : St) (z : ByteArray) (n a n2 a2 f u : Int) (g : Sg) (w : World) (hs : s.In w) (hr : RulesAt w) (hn : s.l.length ≤ maxLen) (hz : z.size ≤ maxLen) (hgz : g.z.size ≤ maxLen) :
    Calls Tryz.prog 3 #[.agg #[.string s.x, .int .i64 s.typ, .int .i64 s.life, s.v], .string z, .agg #[.int .i64 n, .int .i64 a], .agg #[.int .i64 n2, .int .i64 a2], .int .i64 f, .int .i64 u, .agg #[.string g.z, .int .i64 g.k, .int .i64 g.a, .int .i64 g.f, .int .i64 g.u, .int .u64 g.m]] w (ToB true w) := by
  cases hu : usableB s z n a f u
  · exact walk_not s z n a n2 a2 f u g w hs hr hn hz hu
  · by_cases hk : n2 = n ∧ a2 = a
    · exact walk_same s z n a n2 a2 f u g w hs hr hn hz hgz hu hk
    · exact walk_other s z n a n2 a2 f u g w hs hr hn hz hgz hu hk
end Go.Proofs.YtpkjpogkimjpoaaGreatDoor
