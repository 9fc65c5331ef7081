/- Merge of package record at two sets of one name and type, of one datum each; no condition beyond those that each theorem names. -/
import Derived.Test.YtmnbcjchfbfngaaDoorM7
namespace Go.Proofs.YtmnbcjchfbfngaaDoor
set_option linter.unusedSimpArgs false
set_option linter.unusedVariables false
open Go.RowKit Go.Shelf
open NmP

/-- What Merge of two sets returns. -/
def MerTo (x : ByteArray) (t f : Int) (d1 d2 : Dt) (w : World) (e : Ending) (w' : World) : Prop :=
  (((ruleOf t.toNat).one = true ∧ e = .returned (.tuple #[.slice none 0 0, .int .i64 35])) ∨
   ((ruleOf t.toNat).one = false ∧ ∃ g cap g2 cap2, e = .returned (.tuple #[.slice (some ⟨g, 0, none⟩) 1 cap, .int .i64 0]) ∧ g < w'.heap.size ∧ RT g 0 [⟨x, t, f, some ⟨g2, 0, none⟩, 2, cap2⟩] w' ∧ SlD (.slice (some ⟨g2, 0, none⟩) 2 cap2) (srt2 d1 d2) w')) ∧ Below w.heap.size w w'
theorem rt_grown (W : World) (s : Ss) (Z : Array Value) (t : TypeId) : RT W.heap.size 0 [s] (W.alloc (.cells (#[.string s.x, .int .i64 s.t, .int .i64 s.f, .slice s.p s.n s.c] ++ Z) t)).drew := by
  intro m u hm
  have h : (W.alloc (.cells (#[.string s.x, .int .i64 s.t, .int .i64 s.f, .slice s.p s.n s.c] ++ Z) t)).heap[W.heap.size]? = some (Obj.cells (#[.string s.x, .int .i64 s.t, .int .i64 s.f, .slice s.p s.n s.c] ++ Z) t (0, 0)) := heap_alloc_new W _
  have hm' : ([Value.string s.x, .int .i64 s.t, .int .i64 s.f, .slice s.p s.n s.c] : List Value)[m]? = some u := hm
  have k : (W.alloc (.cells (#[.string s.x, .int .i64 s.t, .int .i64 s.f, .slice s.p s.n s.c] ++ Z) t)).cell? ⟨W.heap.size, m, none⟩ = some u := by
    refine cell_of_blk h m u ?_
    have hl : m < 4 := (List.getElem?_eq_some_iff.1 hm').1
    rw [Array.getElem?_append_left (by simpa using hl)]
    rw [← Array.getElem?_toList]
    exact hm'
  rw [Nat.zero_add]
  exact k
theorem rt_grown2 (W : World) (o1 o2 : Obj) (s : Ss) (Z : Array Value) (t : TypeId) : RT (W.heap.size + 1 + 1) 0 [s] (((W.alloc o1).alloc o2).alloc (.cells (#[.string s.x, .int .i64 s.t, .int .i64 s.f, .slice s.p s.n s.c] ++ Z) t)).drew := by
  have h := rt_grown ((W.alloc o1).alloc o2) s Z t
  rw [World.size_alloc, World.size_alloc] at h
  exact h
theorem three_below (W : World) (o1 o2 o3 : Obj) : Below W.heap.size W (((W.alloc o1).alloc o2).alloc o3) := (((Below.refl _ W).alloc (Nat.le_refl _) _).alloc (by simp) _).alloc (by simp; omega) _
theorem ordB_self (x : Bs) (t : Int) : ordB x x t t = 0 := by
  unfold ordB cmpI
  simp

set_option maxHeartbeats 8000000 in
set_option maxRecDepth 100000 in
theorem merge2 (x : ByteArray) (t f1 f2 : Int) (p1 p2 : Option Addr) (c1 c2 : Nat) (d1 d2 : Dt) (g0 o0 c0 : Nat) (w : World) (hg : g0 < w.heap.size) (hR : RT g0 o0 [⟨x, t, f1, p1, 1, c1⟩, ⟨x, t, f2, p2, 1, c2⟩] w)
    (h1 : SlD (.slice p1 1 c1) [d1] w) (h2 : SlD (.slice p2 1 c2) [d2] w) (hne : ¬ d1 = d2) (hle : f2 ≤ f1) (hr : RulesAt w) (hx : x.size ≤ maxLen) (hs1 : d1.1.size ≤ maxLen) (hs2 : d2.1.size ≤ maxLen)
    (hv1 : setB x.toList t f1 [d1] = true) (hv2 : setB x.toList t f2 [d2] = true) :
    Calls Tryd.prog 11 #[.slice (some ⟨g0, o0, none⟩) 2 c0] w (MerTo x t f2 d1 d2 w) := by
  have CV1 := Lib.hid (fun W (hb : Below w.heap.size w W) => valid_set x t f1 (.slice p1 1 c1) [d1] W hx (fun d hd => by simp at hd; subst hd; exact hs1) (h1.keep hb) (hr.keep hb))
  have CV2 := Lib.hid (fun W (hb : Below w.heap.size w W) => valid_set x t f2 (.slice p2 1 c2) [d2] W hx (fun d hd => by simp at hd; subst hd; exact hs2) (h2.keep hb) (hr.keep hb))
  rw [hv1] at CV1
  rw [hv2] at CV2
  obtain ⟨hva, ht1, ht8, _⟩ := setB_facts hv1
  have CO1 := Lib.hid (fun W => order_any x x t t f1 f2 (.slice p1 1 c1) (.slice p2 1 c2) W hx hx hva hva)
  have CO2 := Lib.hid (fun W => order_any x x t t f2 f1 (.slice p2 1 c2) (.slice p1 1 c1) W hx hx hva hva)
  rw [ordB_self] at CO1 CO2
  have CS := Lib.hid (fun W Bx (hb : Below w.heap.size w W) (hBx : Bx < W.heap.size) (hbx : W.cell? ⟨Bx, 0, none⟩ = some (.slice (some ⟨g0, o0, none⟩) 2 c0)) => sorted2 ⟨x, t, f1, p1, 1, c1⟩ ⟨x, t, f2, p2, 1, c2⟩ Bx g0 o0 c0 0 W (Nat.lt_of_lt_of_le hg hb.size) hBx hbx (hR.keep hg hb) (by decide) (fun W' _ => CO2.out W'))
  have CU := Lib.hid (fun W g cap (hb : Below w.heap.size w W) (hg' : g < W.heap.size) (hR' : RT g 0 [⟨x, t, f1, p1, 1, c1⟩, ⟨x, t, f2, p2, 1, c2⟩] W) => unite2 x t f1 f2 p1 p2 c1 c2 d1 d2 g cap W hg' hR' (h1.keep hb) (h2.keep hb) hne ht1 ht8 hle (hr.keep hb))
  have CVa := Lib.hid (fun W => (values_any (some ⟨g0, o0, none⟩) 2 c0 W))
  obtain ⟨a0, a1, a2, a3⟩ := hR.at_ (i := 0) rfl
  obtain ⟨b0, b1, b2, b3⟩ := hR.at_ (i := 1) rfl
  have HR := Lib.hid hR
  simp only [Nat.zero_mul, Nat.one_mul, Nat.zero_add, Nat.add_zero, Nat.reduceAdd] at a0 a1 a2 a3 b0 b1 b2 b3
  clear hR h1 h2 hr hne hv1 hv2 hva CO2
  go_enter Tryd.func11, Tryd.ntmps11
  go_wp2
  go_loopw [5, 13] (fun s5 s13 wr => ∃ i : Nat, i ≤ 2 ∧ s13 = .int .i64 i ∧ Hid (Below w.heap.size w wr)) (fun _ s13 _ => 2 - (intOf s13).toNat)
  case atStart => exact ⟨0, by omega, rfl, Lib.hid (Below.refl _ _)⟩
  case round =>
    obtain ⟨i, hi, rfl, HB⟩ := hrel
    have hi3 : i = 0 ∨ i = 1 ∨ i = 2 := by omega
    rcases hi3 with rfl | rfl | rfl
    · have q0 := (HB.out.cell (p := ⟨g0, o0, none⟩) hg).trans a0
      have q1 := (HB.out.cell (p := ⟨g0, o0 + 1, none⟩) hg).trans a1
      have q2 := (HB.out.cell (p := ⟨g0, o0 + 2, none⟩) hg).trans a2
      have q3 := (HB.out.cell (p := ⟨g0, o0 + 3, none⟩) hg).trans a3
      have HB2 := Lib.hid (HB.out.alloc HB.out.size (.cells #[.string x, .int .i64 t, .int .i64 f1, .slice p1 1 c1] 24))
      go_wp2_with (go_at_call 13; (with_reducible refine (CV1.out _ HB2.out).mono ?_); rintro e w2 ⟨rfl, hb⟩; have HB3 := Lib.hid (HB2.out.trans (hb.mono HB2.out.size)); clear hb)
      go_roundw
      case rel => exact ⟨1, by omega, rfl, HB3⟩
      case measure => simp [intOf]
    · have q0 := (HB.out.cell (p := ⟨g0, o0 + 4, none⟩) hg).trans b0
      have q1 := (HB.out.cell (p := ⟨g0, o0 + 4 + 1, none⟩) hg).trans b1
      have q2 := (HB.out.cell (p := ⟨g0, o0 + 4 + 2, none⟩) hg).trans b2
      have q3 := (HB.out.cell (p := ⟨g0, o0 + 4 + 3, none⟩) hg).trans b3
      have HB2 := Lib.hid (HB.out.alloc HB.out.size (.cells #[.string x, .int .i64 t, .int .i64 f2, .slice p2 1 c2] 24))
      go_wp2_with (go_at_call 13; (with_reducible refine (CV2.out _ HB2.out).mono ?_); rintro e w2 ⟨rfl, hb⟩; have HB3 := Lib.hid (HB2.out.trans (hb.mono HB2.out.size)); clear hb)
      go_roundw
      case rel => exact ⟨2, by omega, rfl, HB3⟩
      case measure => simp [intOf]
    · have HB2 := Lib.hid (HB.out.alloc HB.out.size (.cells #[.slice (some ⟨g0, o0, none⟩) 2 c0] 25))
      have hbx : (wr.alloc (.cells #[.slice (some ⟨g0, o0, none⟩) 2 c0] 25)).cell? ⟨wr.heap.size, 0, none⟩ = some (.slice (some ⟨g0, o0, none⟩) 2 c0) := cell_of_blk (heap_alloc_new wr _) 0 _ rfl
      have HS := Lib.hid (CS.out _ wr.heap.size HB2.out (by simp) hbx)
      clear hbx
      go_upto_region 8 with (first | (go_at_call 26; (with_reducible refine (CVa.out _).mono ?_); rintro e w2 ⟨rfl, rfl⟩) | (go_at_call 25; (with_reducible refine (HS.out).mono ?_); rintro e w3 ⟨g, cap, rfl, hg1, hg2, hg3, hg4, hb4⟩; have HG4 := Lib.hid hg4; have HB4 := Lib.hid (HB2.out.trans (hb4.mono HB2.out.size)); clear hg4 hb4))
      obtain ⟨a0, a1, a2, a3⟩ := HG4.out.at_ (i := 0) rfl
      obtain ⟨b0, b1, b2, b3⟩ := HG4.out.at_ (i := 1) rfl
      simp only [Nat.zero_mul, Nat.one_mul, Nat.zero_add, Nat.add_zero, Nat.reduceAdd] at a0 a1 a2 a3 b0 b1 b2 b3
      go_wp2
      refine wp_loop_rounds 2 ?_
      rw [rounds_succ]
      go_wp2
      refine wp_loop_rounds 2 ?_
      rw [rounds_succ]
      go_wp2
      have ha0 := fun d os => cell_regrown a0 d os
      have ha1 := fun d os => cell_regrown a1 d os
      have ha2 := fun d os => cell_regrown a2 d os
      have ha3 := fun d os => cell_regrown a3 d os
      have hb0 := fun d os => cell_regrown b0 d os
      have hb1 := fun d os => cell_regrown b1 d os
      have hb2 := fun d os => cell_regrown b2 d os
      have hb3 := fun d os => cell_regrown b3 d os
      refine wp_region_quiet_below (by kernel_rfl) (by kernel_rfl) ?_
      repeat (go_big_quiet_step ((go_at_call 23; (with_reducible exact Calls.regrown_of (CO1.out _)))))
      refine wpQuiet_nil ?_
      intro _ hw'
      obtain ⟨⟨dq, osq⟩, hw''⟩ := hw'
      subst hw''
      have HB5 := Lib.hid (below_regrown w3 dq osq)
      clear ha0 ha1 ha2 ha3 hb0 hb1 hb2 hb3 a0 a1 a2 a3 b0 b1 b2 b3
      generalize Sort.grow (redrawn w3 dq) osq = W5 at *
      have HG5 := Lib.hid (HG4.out.keep hg2 HB5.out)
      have HB6 := Lib.hid (HB4.out.trans (HB5.out.mono HB4.out.size))
      have hg5 := Nat.lt_of_lt_of_le hg2 HB5.out.size
      go_wp2
      rw [rounds_succ]
      go_wp2
      go_quiet (fail)
      have HB7 := Lib.hid (below_drewD HB6.out nq)
      have HG7 : Hid (RT g 0 _ (W5.drewN nq)) := Lib.hid (HG5.out.keep hg5 (below_drewD (Below.refl W5.heap.size W5) nq))
      have hg7 : g < (W5.drewN nq).heap.size := hg5
      clear HB5 HG5 HB6 hg5
      generalize World.drewN W5 nq = W7 at *
      have HUc := Lib.hid (CU.out W7 g cap HB7.out hg7 HG7.out)
      obtain ⟨i0, hi0, hz0, hz1, hz2⟩ := info_parts infoST
      have HI := Lib.hid hi0
      have HZ0 := Lib.hid hz0
      have HZ1 := Lib.hid hz1
      have HZ2 := Lib.hid hz2
      clear hi0 hz0 hz1 hz2
      go_wp2_with (go_at_call 27; fail)
      refine (HUc.out).mono ?_
      rintro e w8 ⟨hu, hb⟩
      have HB8 := Lib.hid (HB7.out.trans (hb.mono HB7.out.size))
      clear hb
      rcases hu with ⟨hone, rfl⟩ | ⟨hone, g2, cap2, rfl, hd⟩
      · have HON := Lib.hid hone
        clear hone
        go_wp2
        go_ret2
        exact ⟨.inl ⟨HON.out, rfl⟩, HB8.out.alloc HB8.out.size _⟩
      · have HON := Lib.hid hone
        have HD := Lib.hid hd
        clear hone hd
        have HG10 := Lib.hid (fun Z => rt_grown2 w8 (.cells #[.string x, .int .i64 t, .int .i64 f2, .slice (some ⟨g2, 0, none⟩) 2 cap2] 24) (.cells #[.string x, .int .i64 t, .int .i64 f2, .slice (some ⟨g2, 0, none⟩) 2 cap2] 24) ⟨x, t, f2, some ⟨g2, 0, none⟩, 2, cap2⟩ Z 24)
        have HB10 := Lib.hid (fun o => below_drewD (three_below w8 (.cells #[.string x, .int .i64 t, .int .i64 f2, .slice (some ⟨g2, 0, none⟩) 2 cap2] 24) (.cells #[.string x, .int .i64 t, .int .i64 f2, .slice (some ⟨g2, 0, none⟩) 2 cap2] 24) o) 1)
        by_cases hc2 : cap = 2
        all_goals
          go_wp2
          rw [rounds_succ]
          go_wp2
          go_ret2
          exact ⟨.inr ⟨HON.out, _, _, g2, cap2, rfl, by first | exact (HG10.out _).lt | simp, HG10.out _, HD.out.keep (HB10.out _)⟩, HB8.out.trans ((HB10.out _).mono HB8.out.size)⟩
end Go.Proofs.YtmnbcjchfbfngaaDoor
