/- Contracts of search, Times and Within of package clock, and of the examples that each statement of layer 24 begins with; no condition beyond those that each theorem names. -/
import Derived.Test.YtllobkppehlgbabC2
namespace Go.Proofs.Ytllobkppehlgbab
open Go.RowKit

/-- What stands in a block that was just laid, seen later. -/
theorem cell_new (W : World) (v : Value) (t : TypeId) : (W.alloc (.cells #[v] t)).cell? ⟨W.heap.size, 0, none⟩ = some v := by
  rw [World.cell?_alloc_at _ _ _ _ (by simp)]; rfl
theorem cell_new2 (W : World) (v u : Value) (t : TypeId) : (W.alloc (.cells #[v, u] t)).cell? ⟨W.heap.size, 0, none⟩ = some v ∧ (W.alloc (.cells #[v, u] t)).cell? ⟨W.heap.size, 1, none⟩ = some u := by
  constructor
  · rw [World.cell?_alloc_at _ _ _ _ (by simp)]; rfl
  · rw [World.cell?_alloc_at _ _ _ _ (by simp)]; rfl
theorem cell_keep {W : World} {b k : Nat} {v : Value} (o : Obj) (h : W.cell? ⟨b, k, none⟩ = some v) : (W.alloc o).cell? ⟨b, k, none⟩ = some v :=
  (((Below.refl W.heap.size W).alloc (Nat.le_refl _) o).cell (World.block_lt_of_cell? _ _ h)).trans h

set_option maxHeartbeats 1000000 in
theorem search1_any (n : Nat) (off ev shown : Int) (b : Nat) (w : World) (hn : n ≤ 20000000) (hv : vldB off ev = true) (hc : w.cell? ⟨b, 0, none⟩ = some (.int .i64 shown)) :
    Calls Try.prog 24 #[.func (.func 22) #[.agg #[.int .i64 off, .int .i64 ev]] #[], .int .i64 n, .func (.func 25) #[] #[.pointer (some ⟨b, 0, none⟩)]] w
      fun e w' => (∃ r : Nat, r ≤ n ∧ (∀ t : Nat, t < r → shw off ev t < shown) ∧ (∀ t : Nat, r ≤ t → t < n → shown ≤ shw off ev t) ∧ e = .returned (.int .i64 r)) ∧ Below w.heap.size w w' := by
  have hv2 := vld_off hv
  obtain ⟨W0, hW0⟩ : ∃ W0, W0 = (w.alloc (.cells #[.func (.func 22) #[.agg #[.int .i64 off, .int .i64 ev]] #[]] 37)).alloc (.cells #[.func (.func 25) #[] #[.pointer (some ⟨b, 0, none⟩)]] 25) := ⟨_, rfl⟩
  have cs : W0.cell? ⟨w.heap.size, 0, none⟩ = some (.func (.func 22) #[.agg #[.int .i64 off, .int .i64 ev]] #[]) := by rw [hW0]; exact cell_keep _ (cell_new w _ _)
  have ci : W0.cell? ⟨w.heap.size + 1, 0, none⟩ = some (.func (.func 25) #[] #[.pointer (some ⟨b, 0, none⟩)]) := by
    rw [hW0]; have := cell_new (w.alloc (.cells #[.func (.func 22) #[.agg #[.int .i64 off, .int .i64 ev]] #[]] 37)) (.func (.func 25) #[] #[.pointer (some ⟨b, 0, none⟩)]) 25; rwa [World.size_alloc] at this
  have cb : W0.cell? ⟨b, 0, none⟩ = some (.int .i64 shown) := by rw [hW0]; exact cell_keep _ (cell_keep _ hc)
  have hS := search_any #[.pointer (some ⟨w.heap.size + 1, 0, none⟩), .pointer (some ⟨w.heap.size, 0, none⟩)] n (fun i => decide (shown ≤ shw off ev i)) W0 hn
    (fun W i hi hB => close1_any i off ev shown (w.heap.size + 1) w.heap.size b W (by omega) (by omega) hv2.1 hv2.2
      ((hB.cell (World.block_lt_of_cell? _ _ ci)).trans ci) ((hB.cell (World.block_lt_of_cell? _ _ cs)).trans cs) ((hB.cell (World.block_lt_of_cell? _ _ cb)).trans cb))
    (fun a c hac _ h => by have := shw_mono off ev a c hv (by omega) (by omega); simp at h ⊢; omega)
  have hB0 : Below w.heap.size w W0 := by rw [hW0]; exact ((Below.refl _ w).alloc (Nat.le_refl _) _).alloc (by simp) _
  have HS := Lib.hid hS
  clear hS cs ci cb hc
  go_enter Try.func24, Try.ntmps24
  go_wp2_with fail
  rw [← hW0]
  refine HS.out.mono ?_
  rintro e w' ⟨⟨r, hr, hlo, hhi, rfl⟩, hb⟩
  have H1 := Lib.hid (And.intro hlo hhi)
  clear hlo hhi
  have hW1 := Lib.hid hW0
  clear hW0
  go_wp2
  go_ret
  exact ⟨⟨r, hr, fun t ht => by have := H1.out.1 t ht; simp at this; omega, fun t h1 h2 => by have := H1.out.2 t h1 h2; simp at this; omega, rfl⟩, hB0.trans (hb.mono hB0.size)⟩
set_option maxHeartbeats 1000000 in
theorem search2_any (n : Nat) (off ev shown : Int) (b : Nat) (w : World) (hn : n ≤ 20000000) (hv : vldB off ev = true) (hc : w.cell? ⟨b, 0, none⟩ = some (.int .i64 shown)) :
    Calls Try.prog 24 #[.func (.func 22) #[.agg #[.int .i64 off, .int .i64 ev]] #[], .int .i64 n, .func (.func 26) #[] #[.pointer (some ⟨b, 0, none⟩)]] w
      fun e w' => (∃ r : Nat, r ≤ n ∧ (∀ t : Nat, t < r → shw off ev t ≤ shown) ∧ (∀ t : Nat, r ≤ t → t < n → shown < shw off ev t) ∧ e = .returned (.int .i64 r)) ∧ Below w.heap.size w w' := by
  have hv2 := vld_off hv
  obtain ⟨W0, hW0⟩ : ∃ W0, W0 = (w.alloc (.cells #[.func (.func 22) #[.agg #[.int .i64 off, .int .i64 ev]] #[]] 37)).alloc (.cells #[.func (.func 26) #[] #[.pointer (some ⟨b, 0, none⟩)]] 25) := ⟨_, rfl⟩
  have cs : W0.cell? ⟨w.heap.size, 0, none⟩ = some (.func (.func 22) #[.agg #[.int .i64 off, .int .i64 ev]] #[]) := by rw [hW0]; exact cell_keep _ (cell_new w _ _)
  have ci : W0.cell? ⟨w.heap.size + 1, 0, none⟩ = some (.func (.func 26) #[] #[.pointer (some ⟨b, 0, none⟩)]) := by
    rw [hW0]; have := cell_new (w.alloc (.cells #[.func (.func 22) #[.agg #[.int .i64 off, .int .i64 ev]] #[]] 37)) (.func (.func 26) #[] #[.pointer (some ⟨b, 0, none⟩)]) 25; rwa [World.size_alloc] at this
  have cb : W0.cell? ⟨b, 0, none⟩ = some (.int .i64 shown) := by rw [hW0]; exact cell_keep _ (cell_keep _ hc)
  have hS := search_any #[.pointer (some ⟨w.heap.size + 1, 0, none⟩), .pointer (some ⟨w.heap.size, 0, none⟩)] n (fun i => decide (shown < shw off ev i)) W0 hn
    (fun W i hi hB => close2_any i off ev shown (w.heap.size + 1) w.heap.size b W (by omega) (by omega) hv2.1 hv2.2
      ((hB.cell (World.block_lt_of_cell? _ _ ci)).trans ci) ((hB.cell (World.block_lt_of_cell? _ _ cs)).trans cs) ((hB.cell (World.block_lt_of_cell? _ _ cb)).trans cb))
    (fun a c hac _ h => by have := shw_mono off ev a c hv (by omega) (by omega); simp at h ⊢; omega)
  have hB0 : Below w.heap.size w W0 := by rw [hW0]; exact ((Below.refl _ w).alloc (Nat.le_refl _) _).alloc (by simp) _
  have HS := Lib.hid hS
  clear hS cs ci cb hc
  go_enter Try.func24, Try.ntmps24
  go_wp2_with fail
  rw [← hW0]
  refine HS.out.mono ?_
  rintro e w' ⟨⟨r, hr, hlo, hhi, rfl⟩, hb⟩
  have H1 := Lib.hid (And.intro hlo hhi)
  clear hlo hhi
  have hW1 := Lib.hid hW0
  clear hW0
  go_wp2
  go_ret
  exact ⟨⟨r, hr, fun t ht => by have := H1.out.1 t ht; simp at this; omega, fun t h1 h2 => by have := H1.out.2 t h1 h2; simp at this; omega, rfl⟩, hB0.trans (hb.mono hB0.size)⟩

theorem results_tmp4 {fn : Func} {t u v x : Tmp} (h : fn.results = #[.tmp t, .tmp u, .tmp v, .tmp x]) (tmps : Array Value) (P : Program) (w : World) :
    (results fn tmps).run P w = .ok (.tuple #[tmps.getD t undef, tmps.getD u undef, tmps.getD v undef, tmps.getD x undef]) w := by
  simp [results, h]

set_option maxHeartbeats 1000000 in
theorem times_err (off ev shown fin : Int) (w : World) (h : ¬ (vldB off ev = true ∧ 1 ≤ fin ∧ fin ≤ 20000000)) :
    Calls Try.prog 13 #[.agg #[.int .i64 off, .int .i64 ev], .int .i64 shown, .int .i64 fin] w fun e w' => e = .returned (.tuple #[.int .i64 0, .int .i64 0, .bool false, .int .i64 1]) ∧ Below w.heap.size w w' := by
  cases hv : vldB off ev
  · have hc := valid_any off ev
    rw [hv] at hc
    clear h
    go_enter Try.func13, Try.ntmps13
    go_wp2_with (go_at_call 17; refine (hc _).mono ?_; rintro e w' ⟨rfl, hb⟩)
    refine bodyPost_ret (results_tmp4 rfl _ _ _) rfl ?_
    exact ⟨rfl, (((Below.refl _ _).alloc (Nat.le_refl _) _).alloc (by simp) _).trans (hb.mono (by simp; omega))⟩
  · have hc := valid_any off ev
    rw [hv] at hc
    by_cases h1 : fin < 1
    · clear h
      go_enter Try.func13, Try.ntmps13
      go_wp2_with (go_at_call 17; refine (hc _).mono ?_; rintro e w' ⟨rfl, hb⟩)
      refine bodyPost_ret (results_tmp4 rfl _ _ _) rfl ?_
      exact ⟨rfl, (((Below.refl _ _).alloc (Nat.le_refl _) _).alloc (by simp) _).trans (hb.mono (by simp; omega))⟩
    · have h2 : 20000000 < fin := Int.not_le.1 fun q => h ⟨hv, by omega, q⟩
      clear h
      go_enter Try.func13, Try.ntmps13
      go_wp2_with (go_at_call 17; refine (hc _).mono ?_; rintro e w' ⟨rfl, hb⟩)
      refine bodyPost_ret (results_tmp4 rfl _ _ _) rfl ?_
      exact ⟨rfl, (((Below.refl _ _).alloc (Nat.le_refl _) _).alloc (by simp) _).trans (hb.mono (by simp; omega))⟩

/-- What Times answers: the first time from which the number is reached, and the first one at which it is passed. -/
def timesIs (off ev shown : Int) (n : Nat) (e : Ending) : Prop := ∃ f b : Nat, f ≤ n ∧ b ≤ n ∧ (∀ t : Nat, t < f → shw off ev t < shown) ∧ (∀ t : Nat, f ≤ t → t < n → shown ≤ shw off ev t) ∧ (∀ t : Nat, t < b → shw off ev t ≤ shown) ∧ (∀ t : Nat, b ≤ t → t < n → shown < shw off ev t) ∧
  e = .returned (.tuple (if f = b then #[.int .i64 0, .int .i64 0, .bool false, .int .i64 0] else #[.int .i64 f, .int .i64 b, .bool true, .int .i64 0]))

set_option maxHeartbeats 1000000 in
theorem times_ok (n : Nat) (off ev shown : Int) (w : World) (hv : vldB off ev = true) (h1 : 1 ≤ n) (hn : n ≤ 20000000) :
    Calls Try.prog 13 #[.agg #[.int .i64 off, .int .i64 ev], .int .i64 shown, .int .i64 n] w fun e w' => timesIs off ev shown n e ∧ Below w.heap.size w w' := by
  have hc := valid_any off ev
  rw [hv] at hc
  go_enter Try.func13, Try.ntmps13
  go_wp2_with (go_at_call 17; refine (hc _).mono ?_; rintro e w1 ⟨rfl, hb⟩; obtain ⟨hcell, hfr⟩ := bcell hb)
  have hz : w.heap.size + 1 < w1.heap.size := by have := hb.size; simp at this; omega
  have e1 : w1.cell? ⟨w.heap.size + 1, 0, none⟩ = some (.int .i64 shown) := by
    rw [hcell _ _ (by simp)]
    have := cell_new (w.alloc (.cells #[.int .i64 off, .int .i64 ev] 23)) (.int .i64 shown) 3
    rwa [World.size_alloc] at this
  have n2 := cell_new2 w (.int .i64 off) (.int .i64 ev) 23
  have a1 : w1.cell? ⟨w.heap.size, 0, none⟩ = some (.int .i64 off) := (hcell _ _ (by simp; omega)).trans (cell_keep _ n2.1)
  have b1 : w1.cell? ⟨w.heap.size, 1, none⟩ = some (.int .i64 ev) := (hcell _ _ (by simp; omega)).trans (cell_keep _ n2.2)
  clear n2 hcell hfr
  refine (search1_any n off ev shown (w.heap.size + 1) w1 hn hv e1).mono ?_
  rintro e w2 ⟨⟨r, hr, hlo, hhi, rfl⟩, hb2⟩
  have H1 := Lib.hid (And.intro hlo hhi)
  clear hlo hhi
  obtain ⟨hcell2, hfr2⟩ := bcell hb2
  have hz2 : w.heap.size + 1 < w2.heap.size := by have := hb2.size; omega
  have e2 : w2.cell? ⟨w.heap.size + 1, 0, none⟩ = some (.int .i64 shown) := (hcell2 _ _ hz).trans e1
  have a2 : w2.cell? ⟨w.heap.size, 0, none⟩ = some (.int .i64 off) := (hcell2 _ _ (by omega)).trans a1
  have b2 : w2.cell? ⟨w.heap.size, 1, none⟩ = some (.int .i64 ev) := (hcell2 _ _ (by omega)).trans b1
  clear hcell2 hfr2
  go_wp2_with fail
  refine (search2_any n off ev shown (w.heap.size + 1) w2 hn hv e2).mono ?_
  rintro e w3 ⟨⟨r2, hr2, hlo, hhi, rfl⟩, hb3⟩
  have H2 := Lib.hid (And.intro hlo hhi)
  clear hlo hhi
  have hbelow : Below w.heap.size w w3 := ((((Below.refl _ _).alloc (Nat.le_refl _) _).alloc (by simp) _).trans (hb.mono (by simp; omega))).trans ((hb2.mono (by omega)).trans (hb3.mono (by omega)))
  clear e1 e2 a1 b1 a2 b2 hc
  by_cases hq : r = r2
  · subst hq
    go_wp2
    refine bodyPost_ret (results_tmp4 rfl _ _ _) rfl ?_
    exact ⟨⟨r, r, hr, hr, H1.out.1, H1.out.2, H2.out.1, H2.out.2, by rw [if_pos rfl]; rfl⟩, hbelow⟩
  · have hq2 : ((r : Int) == (r2 : Int)) = false := beq_eq_false_iff_ne.2 (by omega)
    go_wp2
    refine bodyPost_ret (results_tmp4 rfl _ _ _) rfl ?_
    exact ⟨⟨r, r2, hr, hr2, H1.out.1, H1.out.2, H2.out.1, H2.out.2, by rw [if_neg hq]; rfl⟩, hbelow⟩

/-- Is the clock within a drift at a time? -/
def inB (off ev drift t : Int) : Bool := decide (-drift ≤ shw off ev t - t ∧ shw off ev t - t ≤ drift)

set_option maxHeartbeats 1000000 in
theorem good_any (off ev drift t : Int) (bc bd : Nat) (w : World) (hv : vldB off ev = true) (h0 : 0 ≤ t) (h1 : t ≤ 20000000) (h2 : 0 ≤ drift) (h3 : drift ≤ 1000)
    (ho : w.cell? ⟨bc, 0, none⟩ = some (.int .i64 off)) (he : w.cell? ⟨bc, 1, none⟩ = some (.int .i64 ev)) (hd : w.cell? ⟨bd, 0, none⟩ = some (.int .i64 drift)) :
    Calls Try.prog 27 #[.int .i64 t, .pointer (some ⟨bc, 0, none⟩), .pointer (some ⟨bd, 0, none⟩)] w fun e w' => e = .returned (.bool (inB off ev drift t)) ∧ Below w.heap.size w w' := by
  have hv2 := vld_off hv
  have hq : -30000000 ≤ shw off ev t ∧ shw off ev t ≤ 50000000 := by
    have := Int.natAbs_tdiv_le_natAbs t ev
    unfold shw; split <;> omega
  have z3 := World.block_lt_of_cell? _ _ hd
  have hs := dial_any off ev t
  generalize hx : shw off ev t = x at *
  have HX := Lib.hid hx
  clear hx
  go_enter Try.func27, Try.ntmps27
  go_wp2_with (go_at_call 22; refine (hs _ h0 h1 hv2.1 hv2.2).mono ?_; rintro e w' ⟨rfl, hb⟩; have e3 := ((bcell hb).1 bd 0 z3).trans hd)
  all_goals go_ret
  all_goals refine ⟨ret_bool ?_, hb⟩
  all_goals (rw [Bool.eq_iff_iff]; simp [inB, HX.out]; try omega)

theorem within_err1 (off ev drift fin : Int) (w : World) (hv : vldB off ev = false) :
    Calls Try.prog 15 #[.agg #[.int .i64 off, .int .i64 ev], .int .i64 drift, .int .i64 fin] w fun e w' => e = .returned (.tuple #[.bool false, .int .i64 1]) ∧ Below w.heap.size w w' := by
  have hc := valid_any off ev
  rw [hv] at hc
  go_enter Try.func15, Try.ntmps15
  go_wp2_with (go_at_call 17; refine (hc _).mono ?_; rintro e w' ⟨rfl, hb⟩)
  go_ret2
  exact ⟨rfl, (((Below.refl _ _).alloc (Nat.le_refl _) _).alloc (by simp) _).trans (hb.mono (by simp; omega))⟩

set_option maxHeartbeats 1000000 in
theorem within_err2 (off ev drift fin : Int) (w : World) (hv : vldB off ev = true) (h : drift < 0 ∨ 1000 < drift ∨ fin < 1 ∨ 20000000 < fin) :
    Calls Try.prog 15 #[.agg #[.int .i64 off, .int .i64 ev], .int .i64 drift, .int .i64 fin] w fun e w' => e = .returned (.tuple #[.bool false, .int .i64 1]) ∧ Below w.heap.size w w' := by
  have hc := valid_any off ev
  rw [hv] at hc
  go_enter Try.func15, Try.ntmps15
  go_wp2_with (go_at_call 17; refine (hc _).mono ?_; rintro e w1 ⟨rfl, hb⟩; have e1 := ((bcell hb).1 (w.heap.size + 1) 0 (by simp)).trans (show _ = some (.int .i64 drift) from by have := cell_new (w.alloc (.cells #[.int .i64 off, .int .i64 ev] 23)) (.int .i64 drift) 3; rwa [World.size_alloc] at this))
  all_goals go_ret2
  all_goals exact ⟨rfl, (((Below.refl _ _).alloc (Nat.le_refl _) _).alloc (by simp) _).trans (hb.mono (by simp; omega))⟩

theorem within_err (off ev drift fin : Int) (w : World) (h : ¬ (vldB off ev = true ∧ 0 ≤ drift ∧ drift ≤ 1000 ∧ 1 ≤ fin ∧ fin ≤ 20000000)) :
    Calls Try.prog 15 #[.agg #[.int .i64 off, .int .i64 ev], .int .i64 drift, .int .i64 fin] w fun e w' => e = .returned (.tuple #[.bool false, .int .i64 1]) ∧ Below w.heap.size w w' := by
  cases hv : vldB off ev
  · exact within_err1 off ev drift fin w hv
  · refine within_err2 off ev drift fin w hv ?_
    have h2 : ¬ (0 ≤ drift ∧ drift ≤ 1000 ∧ 1 ≤ fin ∧ fin ≤ 20000000) := fun q => h ⟨hv, q⟩
    omega

set_option maxHeartbeats 1000000 in
theorem within_ok (off ev drift fin : Int) (w : World) (hv : vldB off ev = true) (h0 : 0 ≤ drift) (h1 : drift ≤ 1000) (h2 : 1 ≤ fin) (h3 : fin ≤ 20000000) :
    Calls Try.prog 15 #[.agg #[.int .i64 off, .int .i64 ev], .int .i64 drift, .int .i64 fin] w fun e w' => e = .returned (.tuple #[.bool (inB off ev drift 0 && inB off ev drift (fin - 1)), .int .i64 0]) ∧ Below w.heap.size w w' := by
  have hc := valid_any off ev
  rw [hv] at hc
  have n2 := cell_new2 w (.int .i64 off) (.int .i64 ev) 23
  have n1 : ((w.alloc (.cells #[.int .i64 off, .int .i64 ev] 23)).alloc (.cells #[.int .i64 drift] 3)).cell? ⟨w.heap.size + 1, 0, none⟩ = some (.int .i64 drift) := by
    have := cell_new (w.alloc (.cells #[.int .i64 off, .int .i64 ev] 23)) (.int .i64 drift) 3; rwa [World.size_alloc] at this
  have N := Lib.hid (And.intro n1 (And.intro (cell_keep (.cells #[.int .i64 drift] 3) n2.1) (cell_keep (.cells #[.int .i64 drift] 3) n2.2)))
  clear n1 n2
  have hg0 := good_any off ev drift 0 w.heap.size (w.heap.size + 1)
  have hg1 := good_any off ev drift (fin - 1) w.heap.size (w.heap.size + 1)
  generalize hx : inB off ev drift 0 = x at *
  generalize hy : inB off ev drift (fin - 1) = y at *
  clear hx hy
  have HC := Lib.hid hc
  have HG0 := Lib.hid hg0
  have HG1 := Lib.hid hg1
  have HV := Lib.hid hv
  clear hc hg0 hg1 hv
  go_enter Try.func15, Try.ntmps15
  go_wp2_with (go_at_call 17; refine (HC.out _).mono ?_; rintro e w1 ⟨rfl, hb⟩; have e1 := ((bcell hb).1 (w.heap.size + 1) 0 (by simp)).trans N.out.1)
  have a1 := ((bcell hb).1 w.heap.size 0 (by simp; omega)).trans N.out.2.1
  have b1 := ((bcell hb).1 w.heap.size 1 (by simp; omega)).trans N.out.2.2
  have hz : w.heap.size + 1 < w1.heap.size := by have := hb.size; simp at this; omega
  have hbw : Below w.heap.size w w1 := (((Below.refl _ _).alloc (Nat.le_refl _) _).alloc (by simp) _).trans (hb.mono (by simp; omega))
  refine (HG0.out w1 HV.out (by omega) (by omega) h0 h1 a1 b1 e1).mono ?_
  rintro e w2 ⟨rfl, hb2⟩
  have e2 := ((bcell hb2).1 _ _ hz).trans e1
  have a2 := ((bcell hb2).1 _ _ (by omega)).trans a1
  have b2 := ((bcell hb2).1 _ _ (by omega)).trans b1
  have hbw2 : Below w.heap.size w w2 := hbw.trans (hb2.mono (by omega))
  cases x
  · clear e1 e2 a1 a2 b1 b2
    go_wp2
    go_ret2
    exact ⟨rfl, hbw2⟩
  · go_wp2_with fail
    refine (HG1.out w2 HV.out (by omega) (by omega) h0 h1 a2 b2 e2).mono ?_
    rintro e w3 ⟨rfl, hb3⟩
    have hz2 : w.heap.size + 1 < w2.heap.size := by have := hb2.size; omega
    clear e1 e2 a1 a2 b1 b2
    go_wp2
    go_ret2
    exact ⟨rfl, hbw2.trans (hb3.mono (by omega))⟩

end Go.Proofs.Ytllobkppehlgbab
