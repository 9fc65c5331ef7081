/- The contracts of Known and Few of the reference of package trust; no condition beyond those that each theorem names. -/
import Derived.Test.YtkhckgknldiheaaDoorT9
namespace Go.Proofs.YtkhckgknldiheaaDoor
set_option linter.unusedSimpArgs false
set_option linter.unusedVariables false
open Go.RowKit
open NmP SpP

theorem idxS_shift (P : Sd → Bool) : ∀ (l : List Sd) (i : Nat), idxS P i l = -1 ∨ (i : Int) ≤ idxS P i l
  | [], _ => .inl rfl
  | k :: r, i => by
    unfold idxS
    split
    · exact .inr (Int.le_refl _)
    · rcases idxS_shift P r (i + 1) with h | h
      · exact .inl h
      · exact .inr (by omega)
/-- The index of the first one is that of what is found. -/
theorem idxS_find (P : Sd → Bool) : ∀ (l : List Sd) (i : Nat), (l.find? P = none ∧ idxS P i l = -1) ∨ ∃ (k : Nat) (s : Sd), l.find? P = some s ∧ idxS P i l = ((i + k : Nat) : Int) ∧ l[k]? = some s
  | [], _ => .inl ⟨rfl, rfl⟩
  | a :: r, i => by
    unfold idxS
    rw [List.find?_cons]
    cases h : P a
    · simp only [Bool.false_eq_true, ↓reduceIte]
      rcases idxS_find P r (i + 1) with ⟨h1, h2⟩ | ⟨k, s, h1, h2, h3⟩
      · exact .inl ⟨h1, h2⟩
      · exact .inr ⟨k + 1, s, h1, by rw [h2, show i + 1 + k = i + (k + 1) by omega], by simpa using h3⟩
    · simp only [↓reduceIte]
      exact .inr ⟨0, a, rfl, by simp, rfl⟩
/-- The index that Known returns. -/
def knownI (l : List Sd) (z : ByteArray) (k : Int) : Int := idxS (isQ z k) 0 l
theorem knownI_none {l : List Sd} {z : ByteArray} {k : Int} (h : findK l z k = none) : knownI l z k = -1 := by
  rcases idxS_find (isQ z k) l 0 with ⟨_, h2⟩ | ⟨j, s, h1, _⟩
  · exact h2
  · unfold findK at h
    rw [h] at h1
    cases h1
theorem knownI_some {l : List Sd} {z : ByteArray} {k : Int} {s : Sd} (h : findK l z k = some s) : ∃ j : Nat, knownI l z k = j ∧ l[j]? = some s := by
  rcases idxS_find (isQ z k) l 0 with ⟨h1, _⟩ | ⟨j, s', h1, h2, h3⟩
  · unfold findK at h
    rw [h] at h1
    cases h1
  · unfold findK at h
    rw [h] at h1
    cases h1
    exact ⟨j, by unfold knownI; rw [h2, Nat.zero_add], h3⟩
theorem knownI_ge {l : List Sd} {z : ByteArray} {k : Int} : decide (0 ≤ knownI l z k) = (findK l z k).isSome := by
  cases h : findK l z k
  · rw [knownI_none h]; rfl
  · obtain ⟨j, h1, _⟩ := knownI_some h
    rw [h1]
    simp

set_option maxHeartbeats 2000000 in
set_option maxRecDepth 100000 in
theorem rknown_any (v : Value) (l : List Sd) (z : ByteArray) (k : Int) (w : World) (hv : SlK v l w) (hn : l.length ≤ maxLen) :
    Calls Tryd.prog 23 #[v, .string z, .int .i64 k] w fun e w' => e = .returned (.int .i64 (knownI l z k)) ∧ w = w' := by
  obtain ⟨p, c, rfl⟩ := hv.form
  obtain ⟨n, hm⟩ : ∃ m, l.length = m := ⟨_, rfl⟩
  rw [hm] at hv hn ⊢
  unfold maxLen at hn
  have HL := Lib.hid hm
  have HV := Lib.hid hv
  obtain ⟨R, hR⟩ : ∃ R, knownI l z k = R := ⟨_, rfl⟩
  rw [hR]
  have HR := Lib.hid hR
  clear hv hm hR
  go_enter Tryd.func23, Tryd.ntmps23
  go_wp2
  go_loop [7] (fun s7 => ∃ i : Nat, i ≤ n ∧ s7 = .int .i64 i ∧ Hid (idxS (isQ z k) i (l.drop i) = R)) (fun s7 => n - (intOf s7).toNat)
  case atStart => exact ⟨0, Nat.zero_le _, rfl, HR⟩
  case round =>
    obtain ⟨i, hi, rfl, H1⟩ := hrel
    by_cases hlt : i < n
    · have ia : i < l.length := by rw [HL.out]; exact hlt
      have ga : l[i]? = some l[i] := List.getElem?_eq_getElem ia
      obtain ⟨b, off, rfl, hb, hR1⟩ := HV.out.at_ (by omega)
      obtain ⟨a0, a1, a2, a3, a4⟩ := hR1.at_ ga
      have h1 := H1.out
      rw [List.drop_eq_getElem_cons ia] at h1
      unfold idxS isQ at h1
      have hi1 : (i : Int) < (n : Int) := by omega
      generalize l[i] = g at *
      obtain ⟨x, t, f, sp, sn, sc, sq, sm, sd, dl, gl⟩ := g
      simp only at a0 a1 a2 a3 a4 h1
      clear ga hR1 a2 a3 a4 HR
      by_cases q1 : x = z
      · have e1 : (x.toList == z.toList) = true := by rw [q1]; simp
        by_cases q2 : t = k
        · have e2 : (t == k) = true := by rw [q2]; simp
          rw [if_pos (by simp [q1, q2])] at h1
          clear q1 q2
          subst h1
          go_wp2
          go_ret
          exact ⟨rfl, rfl⟩
        · have e2 : (t == k) = false := by simpa using q2
          rw [if_neg (by simp [q2])] at h1
          have HF : Hid (idxS (isQ z k) (i + 1) (l.drop (i + 1)) = R) := Lib.hid h1
          clear h1 q1 q2
          go_wp2
          go_round
          case rel => exact ⟨i + 1, by omega, by go_num, HF⟩
          case measure => simp [intOf]; omega
      · have e1 : (x.toList == z.toList) = false := by
          rw [beq_eq_false_iff_ne]
          intro h
          exact q1 (ba_eqT h)
        rw [if_neg (by simp [q1])] at h1
        have HF : Hid (idxS (isQ z k) (i + 1) (l.drop (i + 1)) = R) := Lib.hid h1
        clear h1 q1
        go_wp2
        go_round
        case rel => exact ⟨i + 1, by omega, by go_num, HF⟩
        case measure => simp [intOf]; omega
    · obtain rfl : i = n := by omega
      have h1 := H1.out
      rw [List.drop_eq_nil_of_le (by rw [HL.out]; exact Nat.le_refl _)] at h1
      have HF := Lib.hid h1
      clear h1
      go_wp2
      go_ret
      exact ⟨by rw [← HF.out]; rfl, rfl⟩
/-- A set with few data and signatures. -/
def smallS (s : Sd) : Bool := decide (s.n ≤ 20) && decide (s.m ≤ 20) && decide (s.x.size ≤ 100)
def fewB (l : List Sd) : Bool := (l.take 61).all smallS && decide (l.length ≤ 60)
theorem few_facts {l : List Sd} (h : fewB l = true) : l.length ≤ 60 ∧ ∀ s ∈ l, s.n ≤ 20 ∧ s.m ≤ 20 ∧ s.x.size ≤ 100 := by
  unfold fewB at h
  rw [Bool.and_eq_true, decide_eq_true_eq] at h
  refine ⟨h.2, fun s hs => ?_⟩
  rw [List.take_of_length_le (by omega)] at h
  have := List.all_eq_true.1 h.1 s hs
  unfold smallS at this
  simp only [Bool.and_eq_true, decide_eq_true_eq] at this
  omega

set_option maxHeartbeats 2000000 in
set_option maxRecDepth 100000 in
theorem rfew_any (v : Value) (l : List Sd) (w : World) (hv : SlK v l w) (hn : l.length ≤ maxLen) :
    Calls Tryd.prog 10 #[v] w fun e w' => e = .returned (.bool (fewB l)) ∧ w = w' := by
  obtain ⟨p, c, rfl⟩ := hv.form
  obtain ⟨n, hm⟩ : ∃ m, l.length = m := ⟨_, rfl⟩
  rw [hm] at hv hn ⊢
  unfold maxLen at hn
  have HL := Lib.hid hm
  have HV := Lib.hid hv
  obtain ⟨R, hR⟩ : ∃ R, fewB l = R := ⟨_, rfl⟩
  rw [hR]
  unfold fewB at hR
  rw [hm] at hR
  have HR : Hid ((((l.take 61).drop 0).all smallS && decide (n ≤ 60)) = R) := Lib.hid hR
  clear hv hm hR
  go_enter Tryd.func10, Tryd.ntmps10
  go_wp2
  go_loop [3] (fun s3 => ∃ i : Nat, i ≤ n ∧ i ≤ 61 ∧ s3 = .int .i64 i ∧ Hid ((((l.take 61).drop i).all smallS && decide (n ≤ 60)) = R)) (fun s3 => n - (intOf s3).toNat)
  case atStart => exact ⟨0, Nat.zero_le _, Nat.zero_le _, rfl, HR⟩
  case round =>
    obtain ⟨i, hi, hi6, rfl, H1⟩ := hrel
    by_cases hlt : i < n
    · by_cases h6 : i ≤ 60
      · have ia : i < l.length := by rw [HL.out]; exact hlt
        have ga : l[i]? = some l[i] := List.getElem?_eq_getElem ia
        obtain ⟨b, off, rfl, hb, hR1⟩ := HV.out.at_ (by omega)
        obtain ⟨a0, a1, a2, a3, a4⟩ := hR1.at_ ga
        have h1 := H1.out
        have it : i < (l.take 61).length := by rw [List.length_take]; omega
        rw [List.drop_eq_getElem_cons it, List.all_cons, List.getElem_take] at h1
        have hi1 : (i : Int) < (n : Int) := by omega
        have hi2 : (i : Int) ≤ 60 := by omega
        have hxs := (HV.out.2 l[i] (List.getElem_mem ia)).hs.hx
        generalize l[i] = g at *
        obtain ⟨x, t, f, sp, sn, sc, sq, sm, sd, dl, gl⟩ := g
        unfold smallS at h1
        simp only [Sd.st] at a0 a1 a2 a3 a4 h1 hxs
        unfold maxLen at hxs
        clear ga hR1 a1 a2 HR it
        by_cases q1 : sn ≤ 20
        · by_cases q2 : sm ≤ 20
          · by_cases q3 : x.size ≤ 100
            · rw [decide_eq_true q1, decide_eq_true q2, decide_eq_true q3] at h1
              have HF : Hid ((((l.take 61).drop (i + 1)).all smallS && decide (n ≤ 60)) = R) := Lib.hid h1
              clear h1
              go_wp2
              go_round
              case rel => exact ⟨i + 1, by omega, by omega, by go_num, HF⟩
              case measure => simp [intOf]; omega
            · rw [decide_eq_false q3, Bool.and_false, Bool.false_and, Bool.false_and] at h1
              subst h1
              go_wp2
              go_ret
              exact ⟨rfl, rfl⟩
          · rw [decide_eq_false q2, Bool.and_false, Bool.false_and, Bool.false_and, Bool.false_and] at h1
            subst h1
            go_wp2
            go_ret
            exact ⟨rfl, rfl⟩
        · rw [decide_eq_false q1, Bool.false_and, Bool.false_and, Bool.false_and, Bool.false_and] at h1
          subst h1
          go_wp2
          go_ret
          exact ⟨rfl, rfl⟩
      · have h1 := H1.out
        rw [decide_eq_false (by omega : ¬ n ≤ 60), Bool.and_false] at h1
        subst h1
        clear HR H1
        have hn6 : ¬ (n : Int) ≤ 60 := by omega
        have hi2 : ¬ (i : Int) ≤ 60 := by omega
        have hi1 : (i : Int) < (n : Int) := by omega
        go_wp2
        go_ret
        exact ⟨rfl, rfl⟩
    · obtain rfl : i = n := by omega
      have h1 := H1.out
      rw [List.drop_eq_nil_of_le (by rw [List.length_take, HL.out]; omega), List.all_nil, Bool.true_and] at h1
      by_cases h6 : i ≤ 60
      · rw [decide_eq_true h6] at h1
        subst h1
        clear HR H1
        have hd : decide ((i : Int) ≤ 60) = true := decide_eq_true (by omega)
        go_wp2
        go_ret
        exact ⟨rfl, rfl⟩
      · rw [decide_eq_false h6] at h1
        subst h1
        clear HR H1
        have hd : decide ((i : Int) ≤ 60) = false := decide_eq_false (by omega)
        go_wp2
        go_ret
        exact ⟨rfl, rfl⟩
end Go.Proofs.YtkhckgknldiheaaDoor
