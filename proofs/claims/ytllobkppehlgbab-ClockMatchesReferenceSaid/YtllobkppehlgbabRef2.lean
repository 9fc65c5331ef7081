/- The reference implementation's Times, and that the examples and all functions of package clock answer as it does; no condition beyond those that each theorem names. -/
import Derived.Test.YtllobkppehlgbabRef
namespace Go.Proofs.Ytllobkppehlgbab
open Go.RowKit
namespace Ref

theorem split_at (p : Nat → Bool) : ∀ n : Nat, (∀ a b, a ≤ b → b < n → p a = true → p b = true) → ∃ f, f ≤ n ∧ (∀ t, t < f → p t = false) ∧ (∀ t, f ≤ t → t < n → p t = true)
  | 0, _ => ⟨0, Nat.le_refl _, fun t h => absurd h (Nat.not_lt_zero _), fun t _ h => absurd h (Nat.not_lt_zero _)⟩
  | n + 1, hm => by
    obtain ⟨f, hf, h1, h2⟩ := split_at p n (fun a b hab hb => hm a b hab (by omega))
    cases hp : p n
    · refine ⟨n + 1, Nat.le_refl _, fun t ht => ?_, fun t h h' => by omega⟩
      cases ht2 : p t
      · rfl
      · have := hm t n (by omega) (by omega) ht2
        rw [hp] at this
        cases this
    · refine ⟨f, by omega, h1, fun t h h' => ?_⟩
      rcases Nat.lt_or_eq_of_le (Nat.le_of_lt_succ h') with h3 | h3
      · exact h2 t h h3
      · rw [h3, hp]

theorem times_fix (n : Nat) (off ev s : Int) (hv : vldB off ev = true) (h1 : 1 ≤ n) (hn : n ≤ 20000000) :
    ∃ f b : Nat, f ≤ n ∧ b ≤ n ∧ (∀ t : Nat, t < f → shw off ev t < s) ∧ (∀ t : Nat, f ≤ t → t < n → s ≤ shw off ev t) ∧ (∀ t : Nat, t < b → shw off ev t ≤ s) ∧ (∀ t : Nat, b ≤ t → t < n → s < shw off ev t) ∧
      ∀ W, Calls Try.prog 13 #[.agg #[.int .i64 off, .int .i64 ev], .int .i64 s, .int .i64 n] W fun e w' => e = .returned (.tuple (if f = b then #[.int .i64 0, .int .i64 0, .bool false, .int .i64 0] else #[.int .i64 f, .int .i64 b, .bool true, .int .i64 0])) ∧ Below W.heap.size W w' := by
  obtain ⟨f, hf, f1, f2⟩ := split_at (fun t => decide (s ≤ shw off ev t)) n (fun a b hab hb h => by have := shw_mono off ev a b hv (by omega) (by omega); simp at h ⊢; omega)
  obtain ⟨b, hb, b1, b2⟩ := split_at (fun t => decide (s < shw off ev t)) n (fun a b hab hb h => by have := shw_mono off ev a b hv (by omega) (by omega); simp at h ⊢; omega)
  simp at f1 f2 b1 b2
  refine ⟨f, b, hf, hb, f1, f2, b1, b2, fun W => (times_ok n off ev s W hv h1 hn).mono ?_⟩
  rintro e w' ⟨⟨f', b', hf', hb', i1, i2, i3, i4, rfl⟩, hB⟩
  obtain rfl : f = f' := by
    rcases Nat.lt_trichotomy f f' with h | h | h
    · have := f2 f (Nat.le_refl _) (by omega); have := i1 f h; omega
    · exact h
    · have := f1 f' h; have := i2 f' (Nat.le_refl _) (by omega); omega
  obtain rfl : b = b' := by
    rcases Nat.lt_trichotomy b b' with h | h | h
    · have := b2 b (Nat.le_refl _) (by omega); have := i3 b h; omega
    · exact h
    · have := b1 b' h; have := i4 b' (Nat.le_refl _) (by omega); omega
  exact ⟨rfl, hB⟩


set_option maxHeartbeats 1000000 in
theorem rtimes_err (off ev s fin : Int) (w : World) (h : vldB off ev = false ∨ fin < 1 ∨ 20000000 < fin) :
    Calls Try.prog 14 #[.agg #[.int .i64 off, .int .i64 ev], .int .i64 s, .int .i64 fin] w fun e w' => e = .returned (.tuple #[.int .i64 0, .int .i64 0, .bool false, .int .i64 1]) ∧ Below w.heap.size w w' := by
  have hc := rvalid_any off ev
  cases hv : vldB off ev <;> rw [hv] at hc h
  · clear h
    go_enter Try.func14, Try.ntmps14
    go_wp2_with (go_at_call 18; refine (hc _).mono ?_; rintro e w' ⟨rfl, hb⟩)
    all_goals refine bodyPost_ret (results_tmp4 rfl _ _ _) rfl ?_
    all_goals exact ⟨rfl, ((Below.refl _ _).alloc (Nat.le_refl _) _).trans (hb.mono (by simp))⟩
  · have h : fin < 1 ∨ 20000000 < fin := by simpa using h
    go_enter Try.func14, Try.ntmps14
    go_wp2_with (go_at_call 18; refine (hc _).mono ?_; rintro e w' ⟨rfl, hb⟩)
    all_goals refine bodyPost_ret (results_tmp4 rfl _ _ _) rfl ?_
    all_goals exact ⟨rfl, ((Below.refl _ _).alloc (Nat.le_refl _) _).trans (hb.mono (by simp))⟩

/-- What f and b are: the first time at which the number is reached, and the first one at which it is passed. -/
def Marks (off ev s : Int) (n f b : Nat) : Prop := f ≤ n ∧ b ≤ n ∧ (∀ t : Nat, t < f → shw off ev t < s) ∧ (∀ t : Nat, f ≤ t → t < n → s ≤ shw off ev t) ∧ (∀ t : Nat, t < b → shw off ev t ≤ s) ∧ (∀ t : Nat, b ≤ t → t < n → s < shw off ev t)
theorem Marks.none {off ev s : Int} {n f b : Nat} (m : Marks off ev s n f b) (h : ∀ j : Nat, j < n → shw off ev j ≠ s) : f = b := by
  obtain ⟨hf, hb, i1, i2, i3, i4⟩ := m
  rcases Nat.lt_trichotomy f b with g | g | g
  · have := i2 f (Nat.le_refl _) (by omega); have := i3 f g; exact absurd (by omega) (h f (by omega))
  · exact g
  · have := i1 b g; have := i4 b (Nat.le_refl _) (by omega); omega
theorem Marks.found {off ev s : Int} {n f b t u : Nat} (m : Marks off ev s n f b) (ht : t < n) (h : ∀ j : Nat, j < t → shw off ev j ≠ s) (e : shw off ev t = s) (htu : t < u) (hun : u ≤ n) (g : ∀ j : Nat, t ≤ j → j < u → shw off ev j = s) (x : u < n → shw off ev u ≠ s) : f = t ∧ b = u := by
  obtain ⟨hf, hb, i1, i2, i3, i4⟩ := m
  have c1 : f ≤ t := by
    rcases Nat.lt_or_ge t f with q | q
    · have := i1 t q; omega
    · exact q
  have c2 : t < b := by
    rcases Nat.lt_or_ge t b with q | q
    · exact q
    · have := i4 t q ht; omega
  have c3 : f = t := by
    rcases Nat.lt_or_ge f t with q | q
    · have := i2 f (Nat.le_refl _) (by omega); have := i3 f (by omega); exact absurd (by omega) (h f q)
    · omega
  refine ⟨c3, ?_⟩
  rcases Nat.lt_trichotomy b u with q | q | q
  · have := g b (by omega) q; have := i4 b (Nat.le_refl _) (by omega); omega
  · exact q
  · have := i2 u (by omega) (by omega); have := i3 u q; exact absurd (by omega) (x (by omega))

def timesV (f b : Nat) : Ending := .returned (.tuple (if f = b then #[.int .i64 0, .int .i64 0, .bool false, .int .i64 0] else #[.int .i64 f, .int .i64 b, .bool true, .int .i64 0]))
theorem timesV_none {f b : Nat} (h : f = b) : timesV f b = .returned (.tuple #[.int .i64 0, .int .i64 0, .bool false, .int .i64 0]) := by unfold timesV; rw [if_pos h]
theorem timesV_some {f b : Nat} (h : f ≠ b) : timesV f b = .returned (.tuple #[.int .i64 f, .int .i64 b, .bool true, .int .i64 0]) := by unfold timesV; rw [if_neg h]
set_option maxHeartbeats 1000000 in
theorem rtimes_ok (off ev s : Int) (n f b : Nat) (w : World) (hv : vldB off ev = true) (h2 : 1 ≤ n) (h3 : n ≤ 20000000) (hm : Marks off ev s n f b) :
    Calls Try.prog 14 #[.agg #[.int .i64 off, .int .i64 ev], .int .i64 s, .int .i64 n] w fun e w' => e = timesV f b ∧ Below w.heap.size w w' := by
  have k := startC off ev w
  have hc := rvalid_any off ev
  rw [hv] at hc
  have HC := Lib.hid hc
  have HV := Lib.hid hv
  have HM := Lib.hid hm
  clear hc hv hm
  go_enter Try.func14, Try.ntmps14
  go_wp2_with (go_at_call 18; refine (HC.out _).mono ?_; rintro e w' ⟨rfl, hb⟩; obtain ⟨k, p, q⟩ := nextC k.out hb; clear hb)
  go_loopw [10] (fun s10 wr => ∃ i : Nat, i ≤ n ∧ s10 = .int .i64 i ∧ Hid (KeptC off ev w wr) ∧ Hid (∀ j : Nat, j < i → shw off ev j ≠ s)) (fun s10 _ => n - (intOf s10).toNat)
  case atStart => exact ⟨0, by omega, rfl, k, Lib.hid (fun j hj => absurd hj (Nat.not_lt_zero _))⟩
  case round =>
    obtain ⟨i, hi, rfl, k2, HA⟩ := hrel
    have p2 := k2.out.2.2.1
    have q2 := k2.out.2.2.2
    by_cases hlt : i < n
    · have hs := fun W => rshows_any off ev i W HV.out (by omega) (by omega)
      have HX : Hid (shw off ev (i : Int) = shw off ev (i : Int)) := Lib.hid rfl
      obtain ⟨x, hx⟩ : ∃ x, x = shw off ev (i : Int) := ⟨_, rfl⟩
      rw [← hx] at hs
      have HS := Lib.hid hs
      have HE := Lib.hid hx
      clear hs hx HX
      by_cases hq : x = s
      · have hq1 : (x == s) = true := beq_iff_eq.2 hq
        have HQ := Lib.hid hq
        clear hq
        go_wp2_with (go_at_call 23; refine (HS.out _).mono ?_; rintro e w' ⟨rfl, hb⟩; obtain ⟨k2, p2, q2⟩ := nextC k2.out hb; clear hb)
        go_loopw [11] (fun s11 wr => ∃ u : Nat, i ≤ u ∧ u ≤ n ∧ s11 = .int .i64 u ∧ Hid (KeptC off ev w wr) ∧ Hid (∀ j : Nat, i ≤ j → j < u → shw off ev j = s)) (fun s11 _ => n - (intOf s11).toNat)
        case atStart => exact ⟨i, Nat.le_refl _, by omega, rfl, k2, Lib.hid (fun j h1 h2 => absurd h2 (by omega))⟩
        case round =>
          obtain ⟨u, hu1, hu2, rfl, k3, HG⟩ := hrel
          have p3 := k3.out.2.2.1
          have q3 := k3.out.2.2.2
          by_cases hun : u < n
          · have hs2 := fun W => rshows_any off ev u W HV.out (by omega) (by omega)
            obtain ⟨y, hy⟩ : ∃ y, y = shw off ev (u : Int) := ⟨_, rfl⟩
            rw [← hy] at hs2
            have HS2 := Lib.hid hs2
            have HE2 := Lib.hid hy
            clear hs2 hy
            by_cases hq2 : y = s
            · have hq3 : (y == s) = true := beq_iff_eq.2 hq2
              have HQ2 := Lib.hid hq2
              clear hq2
              go_wp2_with (go_at_call 23; refine (HS2.out _).mono ?_; rintro e w' ⟨rfl, hb⟩; obtain ⟨k3, p3, q3⟩ := nextC k3.out hb; clear hb)
              go_roundw
              case rel => exact ⟨u + 1, by omega, by omega, by go_num, k3, Lib.hid (fun j h1 h2 => by
                rcases Nat.lt_or_ge j u with h | h
                · exact HG.out j h1 h
                · obtain rfl : j = u := by omega
                  rw [← HE2.out]; exact HQ2.out)⟩
              case measure => simp [intOf]; omega
            · have hq3 : (y == s) = false := beq_eq_false_iff_ne.2 hq2
              have hiu : i < u := by
                rcases Nat.lt_or_eq_of_le hu1 with h | h
                · exact h
                · exact absurd (by rw [HE2.out, ← h, ← HE.out]; exact HQ.out) hq2
              have HF := Lib.hid (HM.out.found hlt HA.out (by rw [← HE.out]; exact HQ.out) hiu (by omega) HG.out (fun _ => by rw [← HE2.out]; exact hq2))
              clear hq2
              go_wp2_with (go_at_call 23; refine (HS2.out _).mono ?_; rintro e w' ⟨rfl, hb⟩; obtain ⟨k3, p3, q3⟩ := nextC k3.out hb; clear hb)
              refine bodyPost_ret (results_tmp4 rfl _ _ _) rfl ?_
              refine ⟨?_, k3.out.1⟩
              rw [timesV_some (by have := HF.out; omega), HF.out.1, HF.out.2]
              rfl
          · obtain rfl : u = n := by omega
            have HF := Lib.hid (HM.out.found hlt HA.out (by rw [← HE.out]; exact HQ.out) (by omega) (Nat.le_refl _) HG.out (fun h => absurd h (Nat.lt_irrefl _)))
            go_wp2
            refine bodyPost_ret (results_tmp4 rfl _ _ _) rfl ?_
            refine ⟨?_, k3.out.1⟩
            rw [timesV_some (by have := HF.out; omega), HF.out.1, HF.out.2]
            rfl
      · have hq1 : (x == s) = false := beq_eq_false_iff_ne.2 hq
        have HQ := Lib.hid hq
        clear hq
        go_wp2_with (go_at_call 23; refine (HS.out _).mono ?_; rintro e w' ⟨rfl, hb⟩; obtain ⟨k2, p2, q2⟩ := nextC k2.out hb; clear hb)
        go_roundw
        case rel => exact ⟨i + 1, by omega, by go_num, k2, Lib.hid (fun j hj => by
          rcases Nat.lt_or_ge j i with h | h
          · exact HA.out j h
          · obtain rfl : j = i := by omega
            rw [← HE.out]; exact HQ.out)⟩
        case measure => simp [intOf]; omega
    · obtain rfl : i = n := by omega
      have hfb := HM.out.none HA.out
      have HF := Lib.hid hfb
      clear hfb
      go_wp2
      refine bodyPost_ret (results_tmp4 rfl _ _ _) rfl ?_
      refine ⟨?_, k2.out.1⟩
      rw [timesV_none HF.out]
      rfl
end Ref
end Go.Proofs.Ytllobkppehlgbab
