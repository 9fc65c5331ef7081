/- The contract of less of package record, for all data; no condition beyond those that each theorem names. -/
import Derived.Test.YtkhckgknldiheaaDoorRD
import Derived.StillTailTactics
namespace Go.Proofs.YtkhckgknldiheaaDoor
set_option linter.unusedSimpArgs false
set_option linter.unusedVariables false
open Go.RowKit
open NmP

/-- The boxes of two data. -/
structure TwoD (w W : World) (d e : Dt) (n0 : Nat) : Prop where
  below : Below w.heap.size w W
  d0 : W.cell? ⟨n0, 0, none⟩ = some (.string d.1)
  d1 : W.cell? ⟨n0, 1, none⟩ = some (.int .i64 d.2.1)
  d2 : W.cell? ⟨n0, 2, none⟩ = some (.int .i64 d.2.2)
  e0 : W.cell? ⟨n0 + 1, 0, none⟩ = some (.string e.1)
  e1 : W.cell? ⟨n0 + 1, 1, none⟩ = some (.int .i64 e.2.1)
  e2 : W.cell? ⟨n0 + 1, 2, none⟩ = some (.int .i64 e.2.2)
  size : w.heap.size + 2 = W.heap.size
theorem twoD (w : World) (d e : Dt) : TwoD w ((w.alloc (.cells #[.string d.1, .int .i64 d.2.1, .int .i64 d.2.2] 65)).alloc (.cells #[.string e.1, .int .i64 e.2.1, .int .i64 e.2.2] 65)) d e w.heap.size := by
  have h0 : ∀ O k, ((w.alloc O).alloc (.cells #[.string e.1, .int .i64 e.2.1, .int .i64 e.2.2] 65)).cell? ⟨w.heap.size, k, none⟩ = (w.alloc O).cell? ⟨w.heap.size, k, none⟩ := fun O k => by
    rw [World.cell?_alloc_old _ _ _ (by simp)]
  refine ⟨((Below.refl _ w).alloc (Nat.le_refl _) _).alloc (by simp) _, ?_, ?_, ?_, ?_, ?_, ?_, by simp⟩
  · rw [h0, World.cell?_alloc_at _ _ _ _ rfl]; rfl
  · rw [h0, World.cell?_alloc_at _ _ _ _ rfl]; rfl
  · rw [h0, World.cell?_alloc_at _ _ _ _ rfl]; rfl
  · rw [World.cell?_alloc_at _ _ _ _ (by simp)]; rfl
  · rw [World.cell?_alloc_at _ _ _ _ (by simp)]; rfl
  · rw [World.cell?_alloc_at _ _ _ _ (by simp)]; rfl
theorem TwoD.drew {w W : World} {d e : Dt} {n0 : Nat} (h : TwoD w W d e n0) : TwoD w W.drew d e n0 :=
  ⟨below_drewD h.below 1, h.d0, h.d1, h.d2, h.e0, h.e1, h.e2, h.size⟩

set_option maxHeartbeats 1000000 in
set_option maxRecDepth 100000 in
theorem less_any (x y : ByteArray) (n1 m1 n2 m2 : Int) (w : World) :
    Calls Tryd.prog 67 #[.agg #[.string x, .int .i64 n1, .int .i64 m1], .agg #[.string y, .int .i64 n2, .int .i64 m2]] w fun e w' => e = .returned (.int .i64 (lessI (x, n1, m1) (y, n2, m2))) ∧ Below w.heap.size w w' := by
  have C1 := Lib.hid (fun W => (cmp_str x y W).mono fun _ _ h => And.intro h.1 h.2.symm)
  have C2 := Lib.hid (fun W => (cmp_int n1 n2 W).mono fun _ _ h => And.intro h.1 h.2.symm)
  have C3 := Lib.hid (fun W => (cmp_int m1 m2 W).mono fun _ _ h => And.intro h.1 h.2.symm)
  obtain ⟨R, hR⟩ : ∃ R, lessI (x, n1, m1) (y, n2, m2) = R := ⟨_, rfl⟩
  rw [hR]
  have HR := Lib.hid hR
  clear hR
  go_enter Tryd.func67, Tryd.ntmps67
  go_wp2
  have T := twoD w (x, n1, m1) (y, n2, m2)
  simp only at T
  generalize (w.alloc _).alloc _ = W at *
  obtain ⟨n0, hn0⟩ : ∃ n, w.heap.size = n := ⟨_, rfl⟩
  have HN := Lib.hid hn0
  rw [hn0] at T ⊢
  clear hn0
  refine wp_region_still_tail 15 (by kernel_rfl) (by kernel_rfl) ?_
  simp only [List.take_succ_cons, List.take_zero, List.drop_succ_cons, List.drop_zero]
  change wpStill _ _ W.drew _ _ _
  change wpStill _ _ _ (fun a' => wpList _ _ _ _ a' W.drew) _ _
  replace T := T.drew
  generalize W.drew = W2 at *
  obtain ⟨q, d0, d1, d2, e0, e1, e2, hs⟩ := T
  simp only at d0 d1 d2 e0 e1 e2
  have HQ := Lib.hid q
  have HS := Lib.hid hs
  clear q hs
  still_step
  still_step
  still_step
  still_step
  still_call (C1.out _)
  still_step
  still_step
  still_step
  still_step
  still_call (C2.out _)
  still_step
  still_step
  still_step
  still_step
  still_call (C3.out _)
  refine wpStill_nil ?_
  have HO := Lib.hid (fun g W => or_three (cmpS x.toList y.toList) (cmpI n1 n2) (cmpI m1 m2) g W)
  have HR2 : Hid (orI (cmpS x.toList y.toList) (cmpI n1 n2) (cmpI m1 m2) = R) := Lib.hid HR.out
  generalize cmpS x.toList y.toList = r1 at *
  generalize cmpI n1 n2 = r2 at *
  generalize cmpI m1 m2 = r3 at *
  go_wp2_with (go_at_call 84; refine (HO.out W2.heap.size _ (by rw [World.cell?_alloc_at _ _ _ _ rfl]; rfl) (by rw [World.cell?_alloc_at _ _ _ _ rfl]; rfl) (by rw [World.cell?_alloc_at _ _ _ _ rfl]; rfl)).mono ?_; rintro e w1 ⟨rfl, rfl⟩)
  go_ret
  have h2 := HR2.out
  subst h2
  exact ⟨rfl, HQ.out.alloc (by have := HS.out; omega) _⟩
end Go.Proofs.YtkhckgknldiheaaDoor
