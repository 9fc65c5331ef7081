/- What ResignSure walks; no condition beyond those that each theorem names. -/
import Derived.Test.YteojjbfeblbfdaaDoorSU
import Derived.Test.YteojjbfeblbfdaaDoorSW
import Derived.Test.YteojjbfeblbfdaaDoorRH
import Derived.Deep.RegionWith
import Derived.Lib.QuietBelow
namespace Go.Proofs.YteojjbfeblbfdaaDoor
set_option linter.unusedSimpArgs false
set_option linter.unusedVariables false
open Go.RowKit
open NmP SpP

theorem sureL_ok (f u d E : Int) (h1 : 0 ≤ f) (h2 : f ≤ u) (h3 : u ≤ 20000000) (hd : 0 ≤ d) (hE : E ≤ 20000000) : okSp (sureL f u d E) := by
  unfold sureL
  split
  · rename_i h
    refine .inr ⟨_, _, rfl, by omega, h, ?_⟩
    unfold endL
    split <;> omega
  · exact .inl rfl
theorem hasSp_sure (f u d E t : Int) (ht : t < E) : hasSp (sureL f u d E) t = (decide (f ≤ t - d) && decide (t + d ≤ u)) := by
  rw [Bool.eq_iff_iff]
  unfold sureL
  split
  · rename_i h
    unfold endL at *
    simp only [hasSp, List.any_cons, List.any_nil, Bool.or_false, Bool.and_eq_true, decide_eq_true_eq]
    split at h <;> (constructor <;> intro h2 <;> omega)
  · rename_i h
    unfold endL at *
    simp only [hasSp, List.any_nil, Bool.and_eq_true, decide_eq_true_eq]
    constructor
    · intro h2; cases h2
    · intro h2; exfalso; split at h <;> omega
theorem signed_self (s : St) (zone : ByteArray) (kn ka f u t d : Int) (hok : signB s zone kn ka f u = true) (ht : 0 ≤ t ∧ t ≤ 10000000) (hd : 0 ≤ d ∧ d ≤ 1000) :
    signedB s [⟨zone, kn, ka, f, u, sigSum s zone kn ka f u⟩] zone [(kn, ka)] t d = (decide (f ≤ t - d) && decide (t + d ≤ u)) := by
  have h1 : timeB t d = true := by unfold timeB; simp; omega
  unfold signedB okG checkB
  rw [h1]
  simp only [List.any_cons, List.any_nil, hok]
  simp
theorem hasSp_less (f u d d' E t : Int) (ht : t < E) (hd : 0 ≤ d' ∧ d' ≤ d) (h : hasSp (sureL f u d E) t = true) : hasSp (sureL f u d' E) t = true := by
  rw [hasSp_sure _ _ _ _ _ ht] at *
  simp only [Bool.and_eq_true, decide_eq_true_eq] at *
  omega
theorem SlG.ofAt {W : World} {c : Nat} {g : Sg} (h : GAt W c 0 g) : SlG (.slice (some ⟨c, 0, none⟩) 1 1) [g] W :=
  .inr ⟨c, 0, 1, rfl, h.lt, fun m u hm => by
    obtain ⟨c0, c1, c2, c3, c4, c5⟩ := h
    match m, hm with
    | 0, hm => simp [rowG, valsG] at hm; subst hm; exact c0
    | 1, hm => simp [rowG, valsG] at hm; subst hm; exact c1
    | 2, hm => simp [rowG, valsG] at hm; subst hm; exact c2
    | 3, hm => simp [rowG, valsG] at hm; subst hm; exact c3
    | 4, hm => simp [rowG, valsG] at hm; subst hm; exact c4
    | 5, hm => simp [rowG, valsG] at hm; subst hm; exact c5
    | (m + 6), hm => simp [rowG, valsG] at hm⟩
theorem SlS.one1 (W : World) (x : Sp) (c : Nat) : SlS (.slice (some ⟨W.heap.size, 0, none⟩) 1 c) [x] (W.alloc (.cells #[.int .i64 x.1, .int .i64 x.2] 26)) := by
  refine .inr ⟨W.heap.size, 0, c, rfl, by simp, fun m u hm => ?_⟩
  rw [Nat.zero_add, World.cell?_alloc_at _ _ _ _ rfl]
  simpa [rowS, valsS] using hm
/-- What the walk keeps. -/
structure Bun (w : World) (n2 : Nat) (xo ko : Array Value) (g : Sg) (vl vm : Value) (L M : List Sp) (W : World) : Prop where
  bel : Below w.heap.size w W
  x : W.heap[n2 + 1 + 1]? = some (Obj.cells xo 37 (0, 0))
  ga : GAt W (n2 + 1) 0 g
  k : W.heap[w.heap.size + 1]? = some (Obj.cells ko 26 (0, 0))
  l : SlS vl L W
  m : SlS vm M W
theorem Bun.keep {w : World} {n2 : Nat} {xo ko : Array Value} {g : Sg} {vl vm : Value} {L M : List Sp} {W W' : World} (h : Bun w n2 xo ko g vl vm L M W) (hb : Below W.heap.size W W') : Bun w n2 xo ko g vl vm L M W' :=
  ⟨h.bel.trans (hb.mono h.bel.size), (hb.block _ (Array.getElem?_eq_some_iff.1 h.x).1).trans h.x, h.ga.keep hb, (hb.block _ (Array.getElem?_eq_some_iff.1 h.k).1).trans h.k, h.l.keep hb, h.m.keep hb⟩
theorem RulesAt.one {w : World} (h : RulesAt w) : RuleAt w := by
  obtain ⟨a0, a1, a2, a3, a4, a5, a6⟩ := h 1 (by omega) (by omega)
  exact ⟨a0, a1, a2, a3, a4, a5, a6⟩

set_option maxHeartbeats 4000000 in
set_option maxRecDepth 100000 in
theorem walk_out (s : St) (zone : ByteArray) (kn ka f u t d : Int) (less : Int) (w : World) (hs : s.In w) (hr : RulesAt w) (hn : s.l.length ≤ maxLen)
    (hq : 20 < s.l.length ∨ t < 0 ∨ 10000000 ≤ t ∨ d < 0 ∨ 1000 < d) :
    Calls Tryd.prog 3 #[.agg #[.string s.x, .int .i64 s.typ, .int .i64 s.life, s.v], .string zone, .agg #[.int .i64 kn, .int .i64 ka], .int .i64 f, .int .i64 u, .int .i64 t, .int .i64 d, .int .u16 less] w fun e w' => e = .returned (.bool true) ∧ Below w.heap.size w w' := by
  have hb0 := ((Below.refl _ w).alloc (Nat.le_refl _) (.cells #[.string s.x, .int .i64 s.typ, .int .i64 s.life, s.v] 24)).alloc (by simp) (.cells #[.int .i64 kn, .int .i64 ka] 26)
  have hg0 : ((w.alloc (.cells #[.string s.x, .int .i64 s.typ, .int .i64 s.life, s.v] 24)).alloc (.cells #[.int .i64 kn, .int .i64 ka] 26)).heap[w.heap.size]? = some (Obj.cells #[.string s.x, .int .i64 s.typ, .int .i64 s.life, s.v] 24 (0, 0)) := by
    rw [heap_alloc_old _ _ (by simp)]; exact heap_alloc_new w _
  have hh := head_any _ (RulesAt.one (hr.keep hb0))
  obtain ⟨pv, cv, hvv⟩ := hs.hA.form
  have HB0 := Lib.hid hb0
  have HG0 := Lib.hid hg0
  have HH := Lib.hid hh
  obtain ⟨n, hln⟩ : ∃ n, s.l.length = n := ⟨_, rfl⟩
  rw [hln] at hvv hq hn
  unfold maxLen at hn
  clear hb0 hg0 hh hs hr hln
  obtain ⟨sx, st, sl, sw, sd⟩ := s
  simp only at hvv
  subst hvv
  simp only at HB0 HG0 HH ⊢
  generalize hd0 : decide ((20 : Int) < (n : Int)) = d0
  generalize hd1 : decide (t < 0) = d1
  generalize hd2 : decide (10000000 ≤ t) = d2
  generalize hd3 : decide (d < 0) = d3
  generalize hd4 : decide (1000 < d) = d4
  have hor : (d0 || d1 || d2 || d3 || d4) = true := by
    rw [← hd0, ← hd1, ← hd2, ← hd3, ← hd4]
    simp only [Bool.or_eq_true, decide_eq_true_eq]
    omega
  clear hq hn
  cases d0 <;> cases d1 <;> cases d2 <;> cases d3 <;> cases d4
  all_goals first | (cases hor; done) | skip
  all_goals
    go_enter Tryd.func3, Tryd.ntmps3
    go_wp2_with (go_at_call 10; refine (HH.out).mono ?_; rintro e w1 ⟨rfl, hb1⟩; have HB1 := Lib.hid (HB0.out.trans (hb1.mono HB0.out.size)); have G1 := Lib.hid ((hb1.block w.heap.size (by (try simp); (try omega))).trans HG0.out); clear hb1; have g3 := cell_of_blk G1.out 3 (.slice pv n cv) rfl)
    go_ret
    exact ⟨rfl, HB1.out⟩
set_option maxHeartbeats 4000000 in
set_option maxRecDepth 100000 in
theorem walk_no (s : St) (zone : ByteArray) (kn ka f u t d : Int) (less : Int) (w : World) (hs : s.In w) (hr : RulesAt w) (hz : zone.size ≤ maxLen) (hn : s.l.length ≤ 20) (ht : 0 ≤ t ∧ t < 10000000) (hd : 0 ≤ d ∧ d ≤ 1000) (hno : signB s zone kn ka f u = false) :
    Calls Tryd.prog 3 #[.agg #[.string s.x, .int .i64 s.typ, .int .i64 s.life, s.v], .string zone, .agg #[.int .i64 kn, .int .i64 ka], .int .i64 f, .int .i64 u, .int .i64 t, .int .i64 d, .int .u16 less] w fun e w' => e = .returned (.bool true) ∧ Below w.heap.size w w' := by
  have hb0 := ((Below.refl _ w).alloc (Nat.le_refl _) (.cells #[.string s.x, .int .i64 s.typ, .int .i64 s.life, s.v] 24)).alloc (by simp) (.cells #[.int .i64 kn, .int .i64 ka] 26)
  have hg0 : ((w.alloc (.cells #[.string s.x, .int .i64 s.typ, .int .i64 s.life, s.v] 24)).alloc (.cells #[.int .i64 kn, .int .i64 ka] 26)).heap[w.heap.size]? = some (Obj.cells #[.string s.x, .int .i64 s.typ, .int .i64 s.life, s.v] 24 (0, 0)) := by
    rw [heap_alloc_old _ _ (by simp)]; exact heap_alloc_new w _
  have hk0 : ((w.alloc (.cells #[.string s.x, .int .i64 s.typ, .int .i64 s.life, s.v] 24)).alloc (.cells #[.int .i64 kn, .int .i64 ka] 26)).heap[w.heap.size + 1]? = some (Obj.cells #[.int .i64 kn, .int .i64 ka] 26 (0, 0)) := by
    have := heap_alloc_new (w.alloc (.cells #[.string s.x, .int .i64 s.typ, .int .i64 s.life, s.v] 24)) (.cells #[.int .i64 kn, .int .i64 ka] 26)
    simpa using this
  have HH := Lib.hid (head_any _ (RulesAt.one (hr.keep hb0)))
  have HSg := Lib.hid (fun W (hb : Below w.heap.size w W) => sign_any s zone kn ka f u W (hs.keep hb) (hr.keep hb) hz)
  unfold signV at HSg
  rw [hno] at HSg
  obtain ⟨pv, cv, hvv⟩ := hs.hA.form
  have HB0 := Lib.hid hb0
  have HG0 := Lib.hid hg0
  have HK0 := Lib.hid hk0
  obtain ⟨n, hln⟩ : ∃ n, s.l.length = n := ⟨_, rfl⟩
  rw [hln] at hvv hn
  have e0 : decide ((20 : Int) < (n : Int)) = false := decide_eq_false (by omega)
  have e1 : decide (t < 0) = false := decide_eq_false (by omega)
  have e2 : decide (10000000 ≤ t) = false := decide_eq_false (by omega)
  have e3 : decide (d < 0) = false := decide_eq_false (by omega)
  have e4 : decide (1000 < d) = false := decide_eq_false (by omega)
  clear hb0 hg0 hk0 hs hr hz hln hno ht hd hn
  obtain ⟨sx, st, sl, sw, sd⟩ := s
  simp only at hvv
  subst hvv
  simp only at HB0 HG0 HK0 HH HSg ⊢
  go_enter Tryd.func3, Tryd.ntmps3
  go_wp2_with (first | (go_at_call 10; refine (HH.out).mono ?_; rintro e w1 ⟨rfl, hb1⟩; have HB1 := Lib.hid (HB0.out.trans (hb1.mono HB0.out.size)); have G1 := Lib.hid ((hb1.block w.heap.size (by (try simp); (try omega))).trans HG0.out); have K1 := Lib.hid ((hb1.block (w.heap.size + 1) (by (try simp); (try omega))).trans HK0.out); clear hb1; have g0 := cell_of_blk G1.out 0 (.string sx) rfl; have g1 := cell_of_blk G1.out 1 (.int .i64 st) rfl; have g2 := cell_of_blk G1.out 2 (.int .i64 sl) rfl; have g3 := cell_of_blk G1.out 3 (.slice pv n cv) rfl; have k0 := cell_of_blk K1.out 0 (.int .i64 kn) rfl; have k1 := cell_of_blk K1.out 1 (.int .i64 ka) rfl) | (go_at_call 11; refine (HSg.out _ HB1.out).mono ?_; rintro e w2 ⟨rfl, hb2⟩; have HB2 := Lib.hid (HB1.out.trans (hb2.mono HB1.out.size)); clear hb2))
  go_ret
  exact ⟨rfl, HB2.out.alloc HB2.out.size _⟩
set_option maxHeartbeats 8000000 in
set_option maxRecDepth 100000 in
theorem walk_main (s : St) (zone : ByteArray) (kn ka f u t d : Int) (less : Int) (w : World) (hs : s.In w) (hr : RulesAt w) (hz : zone.size ≤ maxLen) (hn : s.l.length ≤ 20) (ht : 0 ≤ t ∧ t < 10000000) (hd : 0 ≤ d ∧ d ≤ 1000) (hle : 0 ≤ less ∧ less ≤ 65535) (hok : signB s zone kn ka f u = true) :
    Calls Tryd.prog 3 #[.agg #[.string s.x, .int .i64 s.typ, .int .i64 s.life, s.v], .string zone, .agg #[.int .i64 kn, .int .i64 ka], .int .i64 f, .int .i64 u, .int .i64 t, .int .i64 d, .int .u16 less] w fun e w' => e = .returned (.bool true) ∧ Below w.heap.size w w' := by
  have hb0 := ((Below.refl _ w).alloc (Nat.le_refl _) (.cells #[.string s.x, .int .i64 s.typ, .int .i64 s.life, s.v] 24)).alloc (by simp) (.cells #[.int .i64 kn, .int .i64 ka] 26)
  have hg0 : ((w.alloc (.cells #[.string s.x, .int .i64 s.typ, .int .i64 s.life, s.v] 24)).alloc (.cells #[.int .i64 kn, .int .i64 ka] 26)).heap[w.heap.size]? = some (Obj.cells #[.string s.x, .int .i64 s.typ, .int .i64 s.life, s.v] 24 (0, 0)) := by
    rw [heap_alloc_old _ _ (by simp)]; exact heap_alloc_new w _
  have hk0 : ((w.alloc (.cells #[.string s.x, .int .i64 s.typ, .int .i64 s.life, s.v] 24)).alloc (.cells #[.int .i64 kn, .int .i64 ka] 26)).heap[w.heap.size + 1]? = some (Obj.cells #[.int .i64 kn, .int .i64 ka] 26 (0, 0)) := by
    have := heap_alloc_new (w.alloc (.cells #[.string s.x, .int .i64 s.typ, .int .i64 s.life, s.v] 24)) (.cells #[.int .i64 kn, .int .i64 ka] 26)
    simpa using this
  have HH := Lib.hid (head_any _ (RulesAt.one (hr.keep hb0)))
  have HSg := Lib.hid (fun W (hb : Below w.heap.size w W) => sign_any s zone kn ka f u W (hs.keep hb) (hr.keep hb) hz)
  unfold signV at HSg
  rw [hok, if_pos rfl] at HSg
  have hq : 0 ≤ f ∧ f ≤ u ∧ u ≤ 20000000 := by
    unfold signB winB at hok
    simp only [Bool.and_eq_true, decide_eq_true_eq] at hok
    omega
  have hsk : s.ok = true := by
    unfold signB at hok
    simp only [Bool.and_eq_true] at hok
    exact hok.1.1.1.1
  obtain ⟨sm, hsm⟩ : ∃ m, sigSum s zone kn ka f u = m := ⟨_, rfl⟩
  rw [hsm] at HSg
  have HSelf := Lib.hid (signed_self s zone kn ka f u t d hok ⟨ht.1, by omega⟩ hd)
  rw [hsm] at HSelf
  obtain ⟨L, hL⟩ : ∃ L, sureL f u d 10000000 = L := ⟨_, rfl⟩
  obtain ⟨d', hd'⟩ : ∃ d', less % (d + 1) = d' := ⟨_, rfl⟩
  have hdd : 0 ≤ d' ∧ d' ≤ d := by
    have h1 := Int.emod_nonneg less (show d + 1 ≠ 0 by omega)
    have h2 := Int.emod_lt_of_pos less (show 0 < d + 1 by omega)
    omega
  obtain ⟨M, hM⟩ : ∃ M, sureL f u d' 10000000 = M := ⟨_, rfl⟩
  have HSu := Lib.hid (fun W c (hb : Below w.heap.size w W) (hg : GAt W c 0 ⟨zone, kn, ka, f, u, sm⟩) => Sure1 s (g := ⟨zone, kn, ka, f, u, sm⟩) d 10000000 (hs.keep hb) (hr.keep hb) hsk hg hq.1 hq.2.1 hq.2.2 hd ⟨by omega, by omega⟩)
  have HSv := Lib.hid (fun W c (hb : Below w.heap.size w W) (hg : GAt W c 0 ⟨zone, kn, ka, f, u, sm⟩) => Sure1 s (g := ⟨zone, kn, ka, f, u, sm⟩) d' 10000000 (hs.keep hb) (hr.keep hb) hsk hg hq.1 hq.2.1 hq.2.2 ⟨hdd.1, by omega⟩ ⟨by omega, by omega⟩)
  have HLo := Lib.hid (sureL_ok f u d 10000000 hq.1 hq.2.1 hq.2.2 hd.1 (by omega))
  have HMo := Lib.hid (sureL_ok f u d' 10000000 hq.1 hq.2.1 hq.2.2 hdd.1 (by omega))
  have HLh := Lib.hid (hasSp_sure f u d 10000000 t ht.2)
  have HMh := Lib.hid (hasSp_less f u d d' 10000000 t ht.2 hdd)
  simp only [hL, hM] at HSu HSv HLo HMo HLh HMh
  rw [← HLh.out] at HSelf
  have HSd := Lib.hid (fun W c kv (hb : Below w.heap.size w W) (hg : GAt W c 0 ⟨zone, kn, ka, f, u, sm⟩) (hk : SlS kv [(kn, ka)] W) => signed_any s (.slice (some ⟨c, 0, none⟩) 1 1) [⟨zone, kn, ka, f, u, sm⟩] zone kv [(kn, ka)] t d W (hs.keep hb) (hr.keep hb) hk (SlG.ofAt hg) (by intro g hg; simp only [List.mem_singleton] at hg; subst hg; exact hz) (by simp [maxLen]) (by simp [maxLen]))
  rw [HSelf.out] at HSd
  unfold SuTo at HSu HSv
  obtain ⟨pv, cv, hvv⟩ := hs.hA.form
  have HB0 := Lib.hid hb0
  have HG0 := Lib.hid hg0
  have HK0 := Lib.hid hk0
  obtain ⟨n, hln⟩ : ∃ n, s.l.length = n := ⟨_, rfl⟩
  rw [hln] at hvv hn
  have e0 : decide ((20 : Int) < (n : Int)) = false := decide_eq_false (by omega)
  have e1 : decide (t < 0) = false := decide_eq_false (by omega)
  have e2 : decide (10000000 ≤ t) = false := decide_eq_false (by omega)
  have e3 : decide (d < 0) = false := decide_eq_false (by omega)
  have e4 : decide (1000 < d) = false := decide_eq_false (by omega)
  have hd0 : d < 9000 := by omega
  have hl0 : 0 ≤ less := hle.1
  have hl1 : less ≤ 65535 := hle.2
  have hdz : 0 ≤ d := hd.1
  clear hb0 hg0 hk0 hs hr hz hln hok hd hn ht hq hsk hsm hL hM hle HLh HSelf
  obtain ⟨sx, st, sl, sw, sd⟩ := s
  simp only at hvv
  subst hvv
  simp only at HB0 HG0 HK0 HH HSg HSu HSv HSd ⊢
  go_enter Tryd.func3, Tryd.ntmps3
  go_wp2_with (first | (go_at_call 10; refine (HH.out).mono ?_; rintro e w1 ⟨rfl, hb1⟩; have HB1 := Lib.hid (HB0.out.trans (hb1.mono HB0.out.size)); have G1 := Lib.hid ((hb1.block w.heap.size (by (try simp); (try omega))).trans HG0.out); have K1 := Lib.hid ((hb1.block (w.heap.size + 1) (by (try simp); (try omega))).trans HK0.out); clear hb1; have g0 := cell_of_blk G1.out 0 (.string sx) rfl; have g1 := cell_of_blk G1.out 1 (.int .i64 st) rfl; have g2 := cell_of_blk G1.out 2 (.int .i64 sl) rfl; have g3 := cell_of_blk G1.out 3 (.slice pv n cv) rfl; have k0 := cell_of_blk K1.out 0 (.int .i64 kn) rfl; have k1 := cell_of_blk K1.out 1 (.int .i64 ka) rfl) | (go_at_call 11; fail))
  refine (HSg.out _ HB1.out).mono ?_
  rintro e w2 ⟨rfl, hb2⟩
  have HB2 := Lib.hid (HB1.out.trans (hb2.mono HB1.out.size))
  have hz1 := (Array.getElem?_eq_some_iff.1 K1.out).1
  have G2 := Lib.hid ((hb2.block w.heap.size (by omega)).trans G1.out)
  have K2 := Lib.hid ((hb2.block (w.heap.size + 1) (by omega)).trans K1.out)
  have hz2 := (Array.getElem?_eq_some_iff.1 K2.out).1
  have hz3 : w.heap.size < w2.heap.size := by omega
  clear hb2 g0 g1 g2 g3 k0 k1 hz1
  have g0 := cell_of_blk G2.out 0 (.string sx) rfl
  have g1 := cell_of_blk G2.out 1 (.int .i64 st) rfl
  have g2 := cell_of_blk G2.out 2 (.int .i64 sl) rfl
  have g3 := cell_of_blk G2.out 3 (.slice pv n cv) rfl
  go_wp2_with (go_at_call 12; fail)
  have hb3 : Below w2.heap.size w2 (((w2.alloc (.cells #[.string zone, .int .i64 kn, .int .i64 ka, .int .i64 f, .int .i64 u, .int .u64 sm] 31)).alloc (.cells #[.string zone, .int .i64 kn, .int .i64 ka, .int .i64 f, .int .i64 u, .int .u64 sm] 31)).alloc (.cells #[.string sx, .int .i64 st, .int .i64 sl, .slice pv n cv, .slice (some ⟨w2.heap.size + 1, 0, none⟩) 1 1] 37)) := below3 w2 _ _ _
  have hX3 : (((w2.alloc (.cells #[.string zone, .int .i64 kn, .int .i64 ka, .int .i64 f, .int .i64 u, .int .u64 sm] 31)).alloc (.cells #[.string zone, .int .i64 kn, .int .i64 ka, .int .i64 f, .int .i64 u, .int .u64 sm] 31)).alloc (.cells #[.string sx, .int .i64 st, .int .i64 sl, .slice pv n cv, .slice (some ⟨w2.heap.size + 1, 0, none⟩) 1 1] 37)).heap[w2.heap.size + 1 + 1]? = some (Obj.cells #[.string sx, .int .i64 st, .int .i64 sl, .slice pv n cv, .slice (some ⟨w2.heap.size + 1, 0, none⟩) 1 1] 37 (0, 0)) := new3 w2 _ _ _
  have hS3 : (((w2.alloc (.cells #[.string zone, .int .i64 kn, .int .i64 ka, .int .i64 f, .int .i64 u, .int .u64 sm] 31)).alloc (.cells #[.string zone, .int .i64 kn, .int .i64 ka, .int .i64 f, .int .i64 u, .int .u64 sm] 31)).alloc (.cells #[.string sx, .int .i64 st, .int .i64 sl, .slice pv n cv, .slice (some ⟨w2.heap.size + 1, 0, none⟩) 1 1] 37)).heap[w2.heap.size + 1]? = some (Obj.cells #[.string zone, .int .i64 kn, .int .i64 ka, .int .i64 f, .int .i64 u, .int .u64 sm] 31 (0, 0)) := by
    rw [heap_alloc_old _ _ (by simp)]
    have := heap_alloc_new (w2.alloc (.cells #[.string zone, .int .i64 kn, .int .i64 ka, .int .i64 f, .int .i64 u, .int .u64 sm] 31)) (.cells #[.string zone, .int .i64 kn, .int .i64 ka, .int .i64 f, .int .i64 u, .int .u64 sm] 31)
    simpa using this
  generalize (((w2.alloc (.cells #[.string zone, .int .i64 kn, .int .i64 ka, .int .i64 f, .int .i64 u, .int .u64 sm] 31)).alloc (.cells #[.string zone, .int .i64 kn, .int .i64 ka, .int .i64 f, .int .i64 u, .int .u64 sm] 31)).alloc (.cells #[.string sx, .int .i64 st, .int .i64 sl, .slice pv n cv, .slice (some ⟨w2.heap.size + 1, 0, none⟩) 1 1] 37)) = W3 at *
  have HB3 := Lib.hid (HB2.out.trans (hb3.mono HB2.out.size))
  have K3 := Lib.hid ((hb3.block (w.heap.size + 1) hz2).trans K2.out)
  have hga3 : GAt W3 (w2.heap.size + 1) 0 ⟨zone, kn, ka, f, u, sm⟩ := ⟨cell_of_blk hS3 0 _ rfl, cell_of_blk hS3 1 _ rfl, cell_of_blk hS3 2 _ rfl, cell_of_blk hS3 3 _ rfl, cell_of_blk hS3 4 _ rfl, cell_of_blk hS3 5 _ rfl⟩
  have hzz : w.heap.size + 1 < w2.heap.size := hz2
  obtain ⟨n2, hn2⟩ : ∃ m, w2.heap.size = m := ⟨_, rfl⟩
  rw [hn2] at hb3 hX3 hS3 hga3 hz2 hz3 hzz ⊢
  have X3 := Lib.hid hX3
  have GA3 := Lib.hid hga3
  clear hb3 hX3 hS3 hga3 hn2 g0 g1 g2 g3
  (with_reducible refine (HSu.out _ _ HB3.out GA3.out).mono ?_)
  rintro e w4 ⟨vl, rfl, hl4, hb4⟩
  obtain ⟨pl, cl, rfl⟩ := hl4.form
  have L4 := Lib.hid hl4
  have HB4 := Lib.hid (HB3.out.trans (hb4.mono HB3.out.size))
  have hx4 := (hb4.block (n2 + 1 + 1) (Array.getElem?_eq_some_iff.1 X3.out).1).trans X3.out
  have GA4 := Lib.hid (GA3.out.keep hb4)
  have K4 := Lib.hid ((hb4.block (w.heap.size + 1) (Array.getElem?_eq_some_iff.1 K3.out).1).trans K3.out)
  have x0 := cell_of_blk hx4 0 (.string sx) rfl
  have x1 := cell_of_blk hx4 1 (.int .i64 st) rfl
  have x2 := cell_of_blk hx4 2 (.int .i64 sl) rfl
  have x3 := cell_of_blk hx4 3 (.slice pv n cv) rfl
  have x4 := cell_of_blk hx4 4 (.slice (some ⟨n2 + 1, 0, none⟩) 1 1) rfl
  have X4 := Lib.hid hx4
  clear hl4 hb4 hx4
  have w1' : IntKind.i64.wrap (d + 1) = d + 1 := IntWalk.i64_in _ (by omega)
  have w2' : Int.tmod less (d + 1) = d' := by rw [Int.tmod_eq_emod_of_nonneg hl0]; exact hd'
  have w3' : ¬ (d + 1 = 0) := by omega
  have w4' : (d + 1 = 0) = False := eq_false w3'
  have w5' : IntKind.i64.wrap less = less := IntWalk.i64_in _ (by omega)
  have HB4d : Hid (Below w.heap.size w w4.drew) := Lib.hid (below_drewN HB4.out 1)
  have GA4d : Hid (GAt w4.drew (n2 + 1) 0 ⟨zone, kn, ka, f, u, sm⟩) := Lib.hid (GA4.out.keep (below_drewN (Below.refl _ _) 1))
  have L4d : Hid (SlS (.slice pl L.length cl) L w4.drew) := Lib.hid (L4.out.keep (below_drewN (Below.refl _ _) 1))
  have X4d : Hid (w4.drew.heap[n2 + 1 + 1]? = some (Obj.cells #[.string sx, .int .i64 st, .int .i64 sl, .slice pv n cv, .slice (some ⟨n2 + 1, 0, none⟩) 1 1] 37 (0, 0))) := Lib.hid X4.out
  have K4d : Hid (w4.drew.heap[w.heap.size + 1]? = some (Obj.cells #[.int .i64 kn, .int .i64 ka] 26 (0, 0))) := Lib.hid K4.out
  clear HSu L4 GA4 X4 K4 X3 GA3 K3 K2 G2 K1 G1
  go_wp2
  go_region_held3 (fun w' => w'.cell? ⟨n2 + 1 + 1, 0, none⟩ = some (.string sx) ∧ w'.cell? ⟨n2 + 1 + 1, 1, none⟩ = some (.int .i64 st) ∧ w'.cell? ⟨n2 + 1 + 1, 2, none⟩ = some (.int .i64 sl) ∧ w'.cell? ⟨n2 + 1 + 1, 3, none⟩ = some (.slice pv n cv) ∧ w'.cell? ⟨n2 + 1 + 1, 4, none⟩ = some (.slice (some ⟨n2 + 1, 0, none⟩) 1 1))
    (go_keep)
    (first
      | (go_at_call 12; (with_reducible refine (HSv.out _ _ HB4d.out GA4d.out).mono ?_); rintro e w5 ⟨vm, rfl, hm5, hb5⟩; obtain ⟨pm, cm, rfl⟩ := hm5.form; have M5 := Lib.hid hm5; have HB5 := Lib.hid (HB4d.out.trans (hb5.mono HB4d.out.size)); have X5 := Lib.hid ((hb5.block (n2 + 1 + 1) (Array.getElem?_eq_some_iff.1 X4d.out).1).trans X4d.out); have GA5 := Lib.hid (GA4d.out.keep hb5); have K5 := Lib.hid ((hb5.block (w.heap.size + 1) (Array.getElem?_eq_some_iff.1 K4d.out).1).trans K4d.out); have L5 := Lib.hid (L4d.out.keep hb5); clear hm5 hb5; have y0 : w5.cell? ⟨n2 + 1 + 1, 0, none⟩ = some (.string sx) := cell_of_blk X5.out 0 _ rfl; have y1 : w5.cell? ⟨n2 + 1 + 1, 1, none⟩ = some (.int .i64 st) := cell_of_blk X5.out 1 _ rfl; have y2 : w5.cell? ⟨n2 + 1 + 1, 2, none⟩ = some (.int .i64 sl) := cell_of_blk X5.out 2 _ rfl; have y3 : w5.cell? ⟨n2 + 1 + 1, 3, none⟩ = some (.slice pv n cv) := cell_of_blk X5.out 3 _ rfl; have y4 : w5.cell? ⟨n2 + 1 + 1, 4, none⟩ = some (.slice (some ⟨n2 + 1, 0, none⟩) 1 1) := cell_of_blk X5.out 4 _ rfl))
  clear x0 x1 x2 x3 x4 y0 y1 y2 y3 y4 w1' w2' w3' w4' w5' HSv HB4 HB4d GA4d L4d X4d K4d
  have U5 := Lib.hid (Bun.mk HB5.out X5.out GA5.out K5.out L5.out M5.out)
  have HV := Lib.hid (fun W (h : SlS (.slice pl L.length cl) L W) => vspan1 _ L W h HLo.out)
  have HV2 := Lib.hid (fun W (h : SlS (.slice pm M.length cm) M W) => vspan1 _ M W h HMo.out)
  have HHL := Lib.hid (fun W (h : SlS (.slice pl L.length cl) L W) => has_sp _ L t W h HLo.out)
  have HHM := Lib.hid (fun W (h : SlS (.slice pm M.length cm) M W) => has_sp _ M t W h HMo.out)
  clear HB5 X5 GA5 K5 L5 M5 HLo HMo hdd hd0 hl0 hl1 hdz hd'
  generalize hasSp L t = b at *
  generalize hasSp M t = b2 at *
  go_wp2_with (go_at_call 13; fail)
  (with_reducible refine (HV.out _ U5.out.l).mono ?_)
  rintro e w6 ⟨rfl, hb6⟩
  have U6 := Lib.hid (U5.out.keep hb6)
  clear hb6 U5
  go_wp2_with (go_at_call 13; fail)
  (with_reducible refine (HV2.out _ U6.out.m).mono ?_)
  rintro e w7 ⟨rfl, hb7⟩
  have U7 := Lib.hid (U6.out.keep hb7)
  clear hb7 U6
  go_wp2_with (go_at_call 14; fail)
  (with_reducible refine (HHL.out _ U7.out.l).mono ?_)
  rintro e w8 ⟨rfl, hb8⟩
  have U8 := Lib.hid (U7.out.keep hb8)
  clear hb8 U7 HV HV2 HHL
  have hx8 := U8.out.x
  have hk8 := U8.out.k
  have x0 := cell_of_blk hx8 0 (.string sx) rfl
  have x1 := cell_of_blk hx8 1 (.int .i64 st) rfl
  have x2 := cell_of_blk hx8 2 (.int .i64 sl) rfl
  have x3 := cell_of_blk hx8 3 (.slice pv n cv) rfl
  have x4 := cell_of_blk hx8 4 (.slice (some ⟨n2 + 1, 0, none⟩) 1 1) rfl
  have k0 := cell_of_blk hk8 0 (.int .i64 kn) rfl
  have k1 := cell_of_blk hk8 1 (.int .i64 ka) rfl
  have hbk := (Below.refl _ w8).alloc (Nat.le_refl _) (.cells #[.int .i64 kn, .int .i64 ka] 26)
  have U9 := Lib.hid (U8.out.keep hbk)
  have HS9 := Lib.hid (HSd.out _ _ _ U9.out.bel U9.out.ga (SlS.one1 w8 (kn, ka) 1))
  clear hx8 hk8 hbk HSd U8
  cases b
  · go_wp2_with (go_at_call 15; (with_reducible refine (HS9.out).mono ?_); rintro e w9 ⟨rfl, hb9⟩; have U10 := Lib.hid (U9.out.keep hb9); clear hb9)
    go_ret
    exact ⟨rfl, U10.out.bel⟩
  · have hb2' := HMh.out rfl
    subst hb2'
    go_wp2_with (first | (go_at_call 15; (with_reducible refine (HS9.out).mono ?_); rintro e w9 ⟨rfl, hb9⟩; have U10 := Lib.hid (U9.out.keep hb9); clear hb9) | (go_at_call 14; (with_reducible refine (HHM.out _ U10.out.m).mono ?_); rintro e w10 ⟨rfl, hb10⟩; have U11 := Lib.hid (U10.out.keep hb10); clear hb10))
    go_ret
    exact ⟨rfl, U11.out.bel⟩
/-- ResignSure is true of every set that lies in the world, and of all numbers. -/
theorem walk (s : St) (zone : ByteArray) (kn ka f u t d : Int) (less : Int) (w : World) (hs : s.In w) (hr : RulesAt w) (hz : zone.size ≤ maxLen) (hn : s.l.length ≤ maxLen) (hle : 0 ≤ less ∧ less ≤ 65535) :
    Calls Tryd.prog 3 #[.agg #[.string s.x, .int .i64 s.typ, .int .i64 s.life, s.v], .string zone, .agg #[.int .i64 kn, .int .i64 ka], .int .i64 f, .int .i64 u, .int .i64 t, .int .i64 d, .int .u16 less] w fun e w' => e = .returned (.bool true) ∧ Below w.heap.size w w' := by
  by_cases hq : 20 < s.l.length ∨ t < 0 ∨ 10000000 ≤ t ∨ d < 0 ∨ 1000 < d
  · exact walk_out s zone kn ka f u t d less w hs hr hn hq
  · cases h : signB s zone kn ka f u
    · exact walk_no s zone kn ka f u t d less w hs hr hz (by omega) ⟨by omega, by omega⟩ ⟨by omega, by omega⟩ h
    · exact walk_main s zone kn ka f u t d less w hs hr hz (by omega) ⟨by omega, by omega⟩ ⟨by omega, by omega⟩ hle h
end Go.Proofs.YteojjbfeblbfdaaDoor
