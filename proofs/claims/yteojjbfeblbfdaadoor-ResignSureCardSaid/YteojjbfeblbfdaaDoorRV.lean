/- The contract of Valid of package record at one set of an address; no condition beyond those that each theorem names. -/
import Derived.Test.YteojjbfeblbfdaaDoorIR
import Derived.Deep.RegionWith
import Derived.Deep.QuietTactic
import Derived.Lib.QuietBelow
namespace Go.Proofs.YteojjbfeblbfdaaDoor
set_option linter.unusedSimpArgs false
set_option linter.unusedVariables false
open Go.RowKit
open SpP

theorem within_true {x a b : Int} (h1 : a ≤ x) (h2 : x ≤ b) (w : World) : Calls Tryd.prog 76 #[.int .i64 x, .int .i64 a, .int .i64 b] w fun e w' => e = .returned (.bool true) ∧ w = w' := by
  go_enter Tryd.func76, Tryd.ntmps76
  go_wp2
  go_ret
  exact ⟨rfl, rfl⟩
theorem fits_lit (w : World) : Calls Tryd.prog 78 #[.agg #[.string ⟨#[]⟩, .int .i64 1, .int .i64 0], .agg #[.int .i64 0, .int .i64 1, .int .i64 1000000, .int .i64 0, .int .i64 0, .bool false, .bool true], .int .i64 1] w fun e w' => e = .returned (.bool true) ∧ Below w.heap.size w w' := by
  go_enter Tryd.func78, Tryd.ntmps78
  go_wp2_with (go_at_call 76; refine (within_true (by decide) (by decide) _).mono ?_; rintro e w1 ⟨rfl, rfl⟩)
  go_ret
  exact ⟨rfl, ((Below.refl _ w).alloc (Nat.le_refl _) _).alloc (by simp) _⟩
theorem name_x (w : World) : Calls Tryd.prog 55 #[.string ⟨#[120]⟩] w fun e w' => e = .returned (.bool true) ∧ w = w' := by
  have := valid_any ⟨#[120]⟩ w (by decide)
  rwa [show NmP.validB (ByteArray.toList ⟨#[120]⟩) = true by rw [tl]; rfl] at this
/-- The rule of addresses. -/
structure RuleAt (w : World) : Prop where
  c0 : w.cell? ⟨0, 7, none⟩ = some (.int .i64 0)
  c1 : w.cell? ⟨0, 8, none⟩ = some (.int .i64 1)
  c2 : w.cell? ⟨0, 9, none⟩ = some (.int .i64 1000000)
  c3 : w.cell? ⟨0, 10, none⟩ = some (.int .i64 0)
  c4 : w.cell? ⟨0, 11, none⟩ = some (.int .i64 0)
  c5 : w.cell? ⟨0, 12, none⟩ = some (.bool false)
  c6 : w.cell? ⟨0, 13, none⟩ = some (.bool true)
theorem RuleAt.lt {w : World} (h : RuleAt w) : 0 < w.heap.size := World.block_lt_of_cell? w _ h.c0
theorem RuleAt.keep {w w' : World} (h : RuleAt w) (hb : Below w.heap.size w w') : RuleAt w' :=
  ⟨(hb.cell h.lt).trans h.c0, (hb.cell h.lt).trans h.c1, (hb.cell h.lt).trans h.c2, (hb.cell h.lt).trans h.c3, (hb.cell h.lt).trans h.c4, (hb.cell h.lt).trans h.c5, (hb.cell h.lt).trans h.c6⟩
/-- The datum of one address. -/
structure DatAt (b : Nat) (w : World) : Prop where
  c0 : w.cell? ⟨b, 0, none⟩ = some (.string ⟨#[]⟩)
  c1 : w.cell? ⟨b, 1, none⟩ = some (.int .i64 1)
  c2 : w.cell? ⟨b, 2, none⟩ = some (.int .i64 0)
theorem DatAt.lt {b : Nat} {w : World} (h : DatAt b w) : b < w.heap.size := World.block_lt_of_cell? w _ h.c0
theorem DatAt.keep {b : Nat} {w w' : World} (h : DatAt b w) (hb : Below w.heap.size w w') : DatAt b w' :=
  ⟨(hb.cell h.lt).trans h.c0, (hb.cell h.lt).trans h.c1, (hb.cell h.lt).trans h.c2⟩

def setO (b : Nat) : Obj := .cells #[.string ⟨#[120]⟩, .int .i64 1, .int .i64 0, .slice (some ⟨b, 0, none⟩) 1 1] 24
def ruleO : Obj := .cells #[.int .i64 0, .int .i64 1, .int .i64 1000000, .int .i64 0, .int .i64 0, .bool false, .bool true] 124
def datO : Obj := .cells #[.string ⟨#[]⟩, .int .i64 1, .int .i64 0] 72
/-- The boxes of a round. -/
structure Box3 (w W : World) (b n0 : Nat) : Prop where
  below : Below w.heap.size w W
  s0 : W.cell? ⟨n0, 0, none⟩ = some (.string ⟨#[120]⟩)
  s1 : W.cell? ⟨n0, 1, none⟩ = some (.int .i64 1)
  s3 : W.cell? ⟨n0, 3, none⟩ = some (.slice (some ⟨b, 0, none⟩) 1 1)
  r0 : W.cell? ⟨n0 + 1, 0, none⟩ = some (.int .i64 0)
  r1 : W.cell? ⟨n0 + 1, 1, none⟩ = some (.int .i64 1)
  r2 : W.cell? ⟨n0 + 1, 2, none⟩ = some (.int .i64 1000000)
  r3 : W.cell? ⟨n0 + 1, 3, none⟩ = some (.int .i64 0)
  r4 : W.cell? ⟨n0 + 1, 4, none⟩ = some (.int .i64 0)
  r5 : W.cell? ⟨n0 + 1, 5, none⟩ = some (.bool false)
  r6 : W.cell? ⟨n0 + 1, 6, none⟩ = some (.bool true)
  d0 : W.cell? ⟨n0 + 1 + 1, 0, none⟩ = some (.string ⟨#[]⟩)
  d1 : W.cell? ⟨n0 + 1 + 1, 1, none⟩ = some (.int .i64 1)
  d2 : W.cell? ⟨n0 + 1 + 1, 2, none⟩ = some (.int .i64 0)
theorem box3 (w : World) (b : Nat) : Box3 w (((w.alloc (setO b)).alloc ruleO).alloc datO) b w.heap.size := by
  have hb : Below w.heap.size w (((w.alloc (setO b)).alloc ruleO).alloc datO) := (((Below.refl _ w).alloc (Nat.le_refl _) _).alloc (by simp) _).alloc (by simp; omega) _
  have h0 : ∀ k, (((w.alloc (setO b)).alloc ruleO).alloc datO).cell? ⟨w.heap.size, k, none⟩ = (w.alloc (setO b)).cell? ⟨w.heap.size, k, none⟩ := fun k => by
    rw [World.cell?_alloc_old _ _ _ (by simp; omega), World.cell?_alloc_old _ _ _ (by simp)]
  have h1 : ∀ k, (((w.alloc (setO b)).alloc ruleO).alloc datO).cell? ⟨w.heap.size + 1, k, none⟩ = ((w.alloc (setO b)).alloc ruleO).cell? ⟨w.heap.size + 1, k, none⟩ := fun k => by
    rw [World.cell?_alloc_old _ _ _ (by simp)]
  unfold setO ruleO datO at *
  refine ⟨hb, ?_, ?_, ?_, ?_, ?_, ?_, ?_, ?_, ?_, ?_, ?_, ?_, ?_⟩
  · rw [h0, World.cell?_alloc_at _ _ _ _ rfl]; rfl
  · rw [h0, World.cell?_alloc_at _ _ _ _ rfl]; rfl
  · rw [h0, World.cell?_alloc_at _ _ _ _ rfl]; rfl
  · rw [h1, World.cell?_alloc_at _ _ _ _ (by simp)]; rfl
  · rw [h1, World.cell?_alloc_at _ _ _ _ (by simp)]; rfl
  · rw [h1, World.cell?_alloc_at _ _ _ _ (by simp)]; rfl
  · rw [h1, World.cell?_alloc_at _ _ _ _ (by simp)]; rfl
  · rw [h1, World.cell?_alloc_at _ _ _ _ (by simp)]; rfl
  · rw [h1, World.cell?_alloc_at _ _ _ _ (by simp)]; rfl
  · rw [h1, World.cell?_alloc_at _ _ _ _ (by simp)]; rfl
  · rw [World.cell?_alloc_at _ _ _ _ (by simp)]; rfl
  · rw [World.cell?_alloc_at _ _ _ _ (by simp)]; rfl
  · rw [World.cell?_alloc_at _ _ _ _ (by simp)]; rfl

set_option maxHeartbeats 1000000 in
set_option maxRecDepth 100000 in
theorem valid_lit {b : Nat} {w : World} (hr : RuleAt w) (hd : DatAt b w) :
    Calls Tryd.prog 37 #[.agg #[.string ⟨#[120]⟩, .int .i64 1, .int .i64 0, .slice (some ⟨b, 0, none⟩) 1 1]] w fun e w' => e = .returned (.bool true) ∧ Below w.heap.size w w' := by
  obtain ⟨r0, r1, r2, r3, r4, r5, r6⟩ := hr
  obtain ⟨d0, d1, d2⟩ := hd
  have hb := World.block_lt_of_cell? w _ d0
  have h0 := World.block_lt_of_cell? w _ r0
  simp only at hb h0
  go_enter Tryd.func37, Tryd.ntmps37
  go_wp2_with (first | (go_at_call 55; refine (name_x _).mono ?_; rintro e w1 ⟨rfl, rfl⟩) | (go_at_call 76; refine (within_true (by decide) (by decide) _).mono ?_; rintro e w1 ⟨rfl, rfl⟩) | (go_at_call 77; go_in))
  refine wp_loop_rounds 2 ?_
  rw [rounds_succ]
  go_wp2
  have hbx := box3 w b
  unfold setO ruleO datO at hbx
  generalize ((w.alloc _).alloc _).alloc _ = W3 at *
  obtain ⟨n0, hn0⟩ : ∃ n, w.heap.size = n := ⟨_, rfl⟩
  have HN0 := Lib.hid hn0
  rw [hn0] at hbx ⊢
  obtain ⟨q0, s0, s1, s3, t0, t1, t2, t3, t4, t5, t6, u0, u1, u2⟩ := hbx
  have F := Lib.hid fits_lit
  rw [hn0] at q0
  clear hn0
  have gs1 := fun d os => cell_regrown s1 d os
  have gs3 := fun d os => cell_regrown s3 d os
  have gt0 := fun d os => cell_regrown t0 d os
  have gt1 := fun d os => cell_regrown t1 d os
  have gt2 := fun d os => cell_regrown t2 d os
  have gt3 := fun d os => cell_regrown t3 d os
  have gt4 := fun d os => cell_regrown t4 d os
  have gt5 := fun d os => cell_regrown t5 d os
  have gt6 := fun d os => cell_regrown t6 d os
  have gu0 := fun d os => cell_regrown u0 d os
  have gu1 := fun d os => cell_regrown u1 d os
  have gu2 := fun d os => cell_regrown u2 d os
  refine wp_region_quiet_below (by kernel_rfl) (by kernel_rfl) ?_
  repeat (go_big_quiet_step ((first | (go_at_call 78; (with_reducible exact Calls.regrown_of (F.out _))))))
  refine wpQuiet_nil ?_
  intro _ hw'
  obtain ⟨⟨dq, osq⟩, hw''⟩ := hw'
  subst hw''
  go_wp2
  rw [rounds_succ]
  go_wp2
  go_ret
  refine ⟨rfl, ?_⟩
  rw [HN0.out]
  exact q0.trans ((below_regrown _ dq osq).mono (by have := q0.size; have := HN0.out; omega))
end Go.Proofs.YteojjbfeblbfdaaDoor
