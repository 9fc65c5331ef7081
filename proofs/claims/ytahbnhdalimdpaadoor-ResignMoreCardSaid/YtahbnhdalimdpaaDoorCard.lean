/- ResignMore of layer 25 is true for all numbers, and leaves its arguments as they were; the card: the table of the rules of package record starts as the program's text lays it (the row's own condition); no other condition. -/
import Derived.Test.YtahbnhdalimdpaaDoorMore
import Derived.Test.YtahbnhdalimdpaaDoorCards
import Derived.Test.YtahbnhdalimdpaaDoorTie
import Derived.ProofKit
import Derived.OpenShut
import Derived.ShutString
import Derived.ChangeOld
import Derived.HandedShaped
import Derived.Lay
import Derived.LaidOnce
import Derived.SevenTiedAt
import Derived.PinnedBridge
import Derived.Lib.SmallJoins
namespace Go.Proofs.YtahbnhdalimdpaaDoor
open Go.ChangeShapes Go.WideShapes Go.ChangeAt Go.RowKit Go.Joins Go.Shelf
namespace More
set_option linter.unusedVariables false
set_option linter.unusedSimpArgs false

theorem own : ownKnob Tryd.prog.godebug = none := by kernel_rfl
theorem laidOut : laidOutB Tryd.prog = true := by kernel_rfl

/-- The rule of addresses, out of the row's condition. -/
theorem rule_of_laid {W : World} (h : laidMetH Tryd.prog Rows.resignMoreRow.laid W) : RuleAt W := by
  rw [MakeChecks.laidMetH_plain _ _ _ (by kernel_rfl)] at h
  obtain ⟨g, t, cs, fuel, p, hg, hty, hvar, hd⟩ := Lib.laidMet.reads h (.head _)
  obtain rfl : 0 = g := Option.some.inj ((show Tryd.prog.globalNamed "nameplan/record.rules" = some 0 by kernel_rfl).symm.trans hg)
  obtain rfl : 63 = t := Option.some.inj ((show (Tryd.prog.globals[0]?).map (·.type) = some 63 by kernel_rfl).symm.trans hty)
  unfold Rows.laid_nameplan_record_rules at hd
  obtain ⟨fuel', d, q, hdi, he⟩ := Lib.array_elem Tryd.underlying63 hd 1 (by decide)
  rw [show Tryd.prog.cellsOf 62 = 7 by kernel_rfl] at he
  simp only [List.getElem?_cons_succ, List.getElem?_cons_zero, Option.some.injEq] at hdi
  subst hdi
  obtain ⟨xs, m, rfl, hx, hl, hxl, hall⟩ := DataW.trod_struct Tryd.underlying62 he
  have hm := congrArg Prod.fst hx
  simp only [DataW.agg.injEq] at hm
  have hcell : ∀ k, W.cell? ⟨0, k, none⟩ = cs[k]? := fun k => World.var?_cell hg hvar k
  have fi : ∀ (i : Nat) (z : Int), i < 7 → (xs.map (·.1))[i]? = some (.lit (.int .i64 z)) → (∀ x, DataW.trod (fun _ => ()) Tryd.prog W 0 (fun _ => true) false m 3 ((((cs.toList.drop (1 * 7)).take 7).drop i).take 1) = some x → x.1 = .lit (.int .i64 z) → W.cell? ⟨0, 7 + i, none⟩ = some (.int .i64 z)) := fun i z hi _ x hx hx1 => by
    obtain ⟨z', h1, rfl, _⟩ := DataW.trod_int Tryd.underlying3 hx
    simp at hx1
    subst hx1
    have h2 := congrArg (·[0]?) h1
    simp only [List.getElem?_take, List.getElem?_drop] at h2
    rw [hcell, ← Array.getElem?_toList]
    simpa [hi, Nat.add_comm] using h2
  have fb : ∀ (i : Nat) (z : Bool), i < 7 → (∀ x, DataW.trod (fun _ => ()) Tryd.prog W 0 (fun _ => true) false m 4 ((((cs.toList.drop (1 * 7)).take 7).drop i).take 1) = some x → x.1 = .lit (.bool z) → W.cell? ⟨0, 7 + i, none⟩ = some (.bool z)) := fun i z hi x hx hx1 => by
    obtain ⟨z', h1, rfl⟩ := DataW.trod_bool Tryd.underlying4 hx
    simp at hx1
    subst hx1
    have h2 := congrArg (·[0]?) h1
    simp only [List.getElem?_take, List.getElem?_drop] at h2
    rw [hcell, ← Array.getElem?_toList]
    simpa [hi, Nat.add_comm] using h2
  have c3 : Tryd.prog.cellsOf 3 = 1 := by kernel_rfl
  have c4 : Tryd.prog.cellsOf 4 = 1 := by kernel_rfl
  have at_ : ∀ i (v : DataW Unit), (xs.map (·.1))[i]? = some v → ∃ x : DataW Unit × List MemPlace, xs[i]? = some x ∧ x.1 = v := fun i v hv => by
    rw [List.getElem?_map, Option.map_eq_some_iff] at hv
    exact hv
  have k0 : (xs.map (·.1))[0]? = some (.lit (.int .i64 0)) := by rw [← hm]; rfl
  obtain ⟨x0, e0, v0⟩ := at_ 0 _ k0
  have t0 : DataW.trod (fun _ => ()) Tryd.prog W 0 (fun _ => true) false m 3 ((((cs.toList.drop (1 * 7)).take 7).drop 0).take (Tryd.prog.cellsOf 3)) = xs[0]? := hall 0 _ rfl
  rw [e0] at t0
  rw [c3] at t0
  have k1 : (xs.map (·.1))[1]? = some (.lit (.int .i64 1)) := by rw [← hm]; rfl
  obtain ⟨x1, e1, v1⟩ := at_ 1 _ k1
  have t1 : DataW.trod (fun _ => ()) Tryd.prog W 0 (fun _ => true) false m 3 ((((cs.toList.drop (1 * 7)).take 7).drop 1).take (Tryd.prog.cellsOf 3)) = xs[1]? := hall 1 _ rfl
  rw [e1] at t1
  rw [c3] at t1
  have k2 : (xs.map (·.1))[2]? = some (.lit (.int .i64 1000000)) := by rw [← hm]; rfl
  obtain ⟨x2, e2, v2⟩ := at_ 2 _ k2
  have t2 : DataW.trod (fun _ => ()) Tryd.prog W 0 (fun _ => true) false m 3 ((((cs.toList.drop (1 * 7)).take 7).drop 2).take (Tryd.prog.cellsOf 3)) = xs[2]? := hall 2 _ rfl
  rw [e2] at t2
  rw [c3] at t2
  have k3 : (xs.map (·.1))[3]? = some (.lit (.int .i64 0)) := by rw [← hm]; rfl
  obtain ⟨x3, e3, v3⟩ := at_ 3 _ k3
  have t3 : DataW.trod (fun _ => ()) Tryd.prog W 0 (fun _ => true) false m 3 ((((cs.toList.drop (1 * 7)).take 7).drop 3).take (Tryd.prog.cellsOf 3)) = xs[3]? := hall 3 _ rfl
  rw [e3] at t3
  rw [c3] at t3
  have k4 : (xs.map (·.1))[4]? = some (.lit (.int .i64 0)) := by rw [← hm]; rfl
  obtain ⟨x4, e4, v4⟩ := at_ 4 _ k4
  have t4 : DataW.trod (fun _ => ()) Tryd.prog W 0 (fun _ => true) false m 3 ((((cs.toList.drop (1 * 7)).take 7).drop 4).take (Tryd.prog.cellsOf 3)) = xs[4]? := hall 4 _ rfl
  rw [e4] at t4
  rw [c3] at t4
  have k5 : (xs.map (·.1))[5]? = some (.lit (.bool false)) := by rw [← hm]; rfl
  obtain ⟨x5, e5, v5⟩ := at_ 5 _ k5
  have t5 : DataW.trod (fun _ => ()) Tryd.prog W 0 (fun _ => true) false m 4 ((((cs.toList.drop (1 * 7)).take 7).drop 5).take (Tryd.prog.cellsOf 4)) = xs[5]? := hall 5 _ rfl
  rw [e5] at t5
  rw [c4] at t5
  have k6 : (xs.map (·.1))[6]? = some (.lit (.bool true)) := by rw [← hm]; rfl
  obtain ⟨x6, e6, v6⟩ := at_ 6 _ k6
  have t6 : DataW.trod (fun _ => ()) Tryd.prog W 0 (fun _ => true) false m 4 ((((cs.toList.drop (1 * 7)).take 7).drop 6).take (Tryd.prog.cellsOf 4)) = xs[6]? := hall 6 _ rfl
  rw [e6] at t6
  rw [c4] at t6
  exact ⟨fi 0 _ (by decide) k0 x0 t0 v0, fi 1 _ (by decide) k1 x1 t1 v1, fi 2 _ (by decide) k2 x2 t2 v2, fi 3 _ (by decide) k3 x3 t3 v3, fi 4 _ (by decide) k4 x4 t4 v4, fb 5 _ (by decide) x5 t5 v5, fb 6 _ (by decide) x6 t6 v6⟩

set_option maxRecDepth 100000 in
theorem body (H : Type) (enc : TypeId × Value → H) (W : World) (base : Nat) (args : Array Value) (ds gs : List (DataW H)) (before : List MemPlace)
    (hval0 : ∀ (j : Nat) t v, Tryd.f3.params[j]? = some t → args[j]? = some v → Value.okWide Tryd.prog W .any base t v)
    (hW : DataW.Whole enc Tryd.prog Tryd.f3.params.toList Rows.resignMoreSpec.vars false W args.toList ds gs before) (hL : laidMetH Tryd.prog Rows.resignMoreRow.laid W) :
    Calls Tryd.prog 3 args W fun e W' => ∃ v, e = .returned v ∧ Rows.resignMoreSpec.post enc Tryd.prog Tryd.f3 false true false false W args v W' := by
  have hval : ∀ (j : Nat) t v, Tryd.f3.params[j]? = some t → args[j]? = some v → Value.okWide Tryd.prog W .any base t v := hval0
  have hW' := hW
  obtain ⟨p, q, hA0, hV, rfl, hfz, hnd⟩ := hW
  have hA : DataW.TrodAll enc Tryd.prog W 0 (fun _ => true) true Tryd.f3.params.toList args.toList ds p := hA0
  rw [Tryd.params3] at hA hval
  obtain ⟨v0, vs0, d0, ds0, p0, q0, hargs, rfl, rfl, h0, r0⟩ := trodAll_cons hA
  obtain ⟨v1, vs1, d1, ds1, p1, q1, rfl, rfl, rfl, h1, r1⟩ := trodAll_cons r0
  obtain ⟨v2, vs2, d2, ds2, p2, q2, rfl, rfl, rfl, h2, r2⟩ := trodAll_cons r1
  obtain ⟨v3, vs3, d3, ds3, p3, q3, rfl, rfl, rfl, h3, r3⟩ := trodAll_cons r2
  obtain ⟨v4, vs4, d4, ds4, p4, q4, rfl, rfl, rfl, h4, r4⟩ := trodAll_cons r3
  obtain ⟨v5, vs5, d5, ds5, p5, q5, rfl, rfl, rfl, h5, r5⟩ := trodAll_cons r4
  obtain ⟨v6, vs6, d6, ds6, p6, q6, rfl, rfl, rfl, h6, r6⟩ := trodAll_cons r5
  obtain ⟨rfl, rfl, rfl⟩ := trodAll_nil r6
  obtain rfl : args = #[v0, v1, v2, v3, v4, v5, v6] := by cases args; simp_all
  obtain ⟨rfl, rfl⟩ := trodVars_none hV
  have k0 := h0
  have lt0 : ∀ x ∈ p0, x.block < W.heap.size := by obtain ⟨m, hm⟩ := k0; exact DataW.trod_lt m _ _ _ hm
  have k1 := h1
  have lt1 : ∀ x ∈ p1, x.block < W.heap.size := by obtain ⟨m, hm⟩ := k1; exact DataW.trod_lt m _ _ _ hm
  have k2 := h2
  have lt2 : ∀ x ∈ p2, x.block < W.heap.size := by obtain ⟨m, hm⟩ := k2; exact DataW.trod_lt m _ _ _ hm
  have k3 := h3
  have lt3 : ∀ x ∈ p3, x.block < W.heap.size := by obtain ⟨m, hm⟩ := k3; exact DataW.trod_lt m _ _ _ hm
  have k4 := h4
  have lt4 : ∀ x ∈ p4, x.block < W.heap.size := by obtain ⟨m, hm⟩ := k4; exact DataW.trod_lt m _ _ _ hm
  have k5 := h5
  have lt5 : ∀ x ∈ p5, x.block < W.heap.size := by obtain ⟨m, hm⟩ := k5; exact DataW.trod_lt m _ _ _ hm
  have k6 := h6
  have lt6 : ∀ x ∈ p6, x.block < W.heap.size := by obtain ⟨m, hm⟩ := k6; exact DataW.trod_lt m _ _ _ hm
  obtain ⟨a0, rfl, rfl, rfl, w0⟩ := open_int Tryd.underlying3 (hval 0 3 v0 rfl rfl) h0
  obtain ⟨a1, rfl, rfl, rfl, w1⟩ := open_int Tryd.underlying3 (hval 1 3 v1 rfl rfl) h1
  obtain ⟨a2, rfl, rfl, rfl, w2⟩ := open_int Tryd.underlying3 (hval 2 3 v2 rfl rfl) h2
  obtain ⟨a3, rfl, rfl, rfl, w3⟩ := open_int Tryd.underlying3 (hval 3 3 v3 rfl rfl) h3
  obtain ⟨a4, rfl, rfl, rfl, w4⟩ := open_int Tryd.underlying3 (hval 4 3 v4 rfl rfl) h4
  obtain ⟨a5, rfl, rfl, rfl, w5⟩ := open_int Tryd.underlying22 (hval 5 22 v5 rfl rfl) h5
  obtain ⟨a6, rfl, rfl, rfl, w6⟩ := open_int Tryd.underlying22 (hval 6 22 v6 rfl rfl) h6
  have b5 : 0 ≤ a5 ∧ a5 ≤ 65535 := by simpa [Lit.wf, IntKind.min, IntKind.max, IntKind.signed, IntKind.bits] using w5
  have b6 : 0 ≤ a6 ∧ a6 ≤ 65535 := by simpa [Lit.wf, IntKind.min, IntKind.max, IntKind.signed, IntKind.bits] using w6
  clear hA0 hval0
  refine (walk a0 a1 a2 a3 a4 a5 a6 W (rule_of_laid hL) b5.1 b5.2 b6.1 b6.2).mono fun e W' ⟨he, bel⟩ => ?_
  subst he
  exact ⟨_, rfl, _, _, _, [], _, [], hW', trodAll_mk1 (shut_bool Tryd.underlying4 _), (trodAll_cons_mk (Below.trod laidOut (by kernel_rfl) (of_decide_eq_true (by kernel_rfl)) k0 bel lt0) (trodAll_cons_mk (Below.trod laidOut (by kernel_rfl) (of_decide_eq_true (by kernel_rfl)) k1 bel lt1) (trodAll_cons_mk (Below.trod laidOut (by kernel_rfl) (of_decide_eq_true (by kernel_rfl)) k2 bel lt2) (trodAll_cons_mk (Below.trod laidOut (by kernel_rfl) (of_decide_eq_true (by kernel_rfl)) k3 bel lt3) (trodAll_cons_mk (Below.trod laidOut (by kernel_rfl) (of_decide_eq_true (by kernel_rfl)) k4 bel lt4) (trodAll_cons_mk (Below.trod laidOut (by kernel_rfl) (of_decide_eq_true (by kernel_rfl)) k5 bel lt5) (trodAll_cons_mk (Below.trod laidOut (by kernel_rfl) (of_decide_eq_true (by kernel_rfl)) k6 bel lt6) trodAll_mk0))))))), rfl, bel.frame _, fun h => by cases h⟩

set_option maxRecDepth 100000 in
theorem lifted (os : Os) (started : os.Started) (H : Type) (enc : TypeId × Value → H) :
    ReturnsInHanded {} Tryd.checked os 3 .any (fun w args => (Rows.resignMoreSpec.pre enc Tryd.prog Tryd.f3 [] false w args ∧ laidMetH Tryd.prog Rows.resignMoreRow.laid w) ∧ sizedMet enc Tryd.prog Tryd.f3 (OpenSpec.ofChange Rows.resignMoreSpec) false w args)
      (Rows.resignMoreSpec.post enc Tryd.prog Tryd.f3 false true false false) := by
  refine returnsInHanded_of_change_and (C := Tryd.checked) (X := fun w _ => laidMetH Tryd.prog Rows.resignMoreRow.laid w) (fun _ _ _ hh h => h.of_heap hh) own started (by kernel_rfl) Tryd.func3
    (ChangeSpec.witness_shaped (enc := enc) (C := Tryd.checked) (os := os) (X := fun w _ => laidMetH Tryd.prog Rows.resignMoreRow.laid w) false (World.laidAll Tryd.prog os Rows.resignMoreRow.laid) #[.int .i64 0, .int .i64 0, .int .i64 0, .int .i64 0, .int .i64 0, .int .u16 0, .int .u16 0] 8 (World.laidAll_os _ _ _)
      (World.shaped_of_ZipB (by kernel_rfl) (by kernel_rfl)) (by kernel_rfl) (by kernel_rfl) (by kernel_rfl)
      (by rw [MakeChecks.laidMetH_plain _ _ _ (by kernel_rfl)]; exact laidMet_laidAll _ (by kernel_rfl) (by kernel_rfl))) ?_
  intro W base args ds gs before hval hW _ _ hL _
  exact body H enc W base args ds gs before hval hW hL

theorem over : Rows.ResignMoreSaid :=
  OpenClaim.holds_of_wide 3 Tryd.f3 rfl rfl rfl rfl rfl rfl rfl ⟨rfl, rfl, rfl, rfl, rfl⟩ rfl rfl rfl rfl rfl (by kernel_rfl) Tryd.func3 (by kernel_rfl)
    (of_decide_eq_true (by kernel_rfl)) (by unfold Func.isWrapper; rw [if_neg (of_decide_eq_false (by kernel_rfl))]; exact ⟨rfl, rfl⟩)
    (fun os started H enc _ => lifted os started H enc)
end More

theorem resignMoreCard_holds : Rows.ResignMoreCardSaid :=
  Claim7.holds_tied_plain_at .later [] [.data] true (true, "ee2756dc0ed21c19845e1e12e093e53132d1c29280f2efa832dacbf3ae06fbce") false More.over (fun _ h => by cases h) (by kernel_rfl) (fun _ h => by cases h) resignMore_row_tie rfl ⟨rfl, rfl⟩ (by kernel_rfl) rfl
    (fun f fn hf hfn => by
      obtain rfl : f = 3 := Option.some.inj ((show Tryd.prog.funcNamed "nameplan/nameplanlaw25.ResignMore" = some 3 by kernel_rfl).symm.trans hf) |>.symm
      obtain rfl : fn = Tryd.f3 := (Option.some.inj (Tryd.func3.symm.trans hfn)).symm
      exact ⟨by kernel_rfl, fun j t ht => by
        rw [Tryd.params3] at ht
        have hm : t ∈ [3, 3, 3, 3, 3, 22, 22] := by simpa using Array.mem_of_getElem? ht
        have hall : ([3, 3, 3, 3, 3, 22, 22].all fun u => !Tryd.prog.wantsStandIn u) = true := by kernel_rfl
        exact (show Tryd.prog.wantsStandIn t = false by simpa using List.all_eq_true.1 hall t hm)⟩)
    (by kernel_rfl)
end Go.Proofs.YtahbnhdalimdpaaDoor
