/- Further known sets change neither keys nor what is not trusted: plain facts; no condition beyond those that each theorem names. -/
import Derived.Test.YtkhckgknldiheaaDoorPA
namespace Go.Proofs.YtkhckgknldiheaaDoor
set_option linter.unusedSimpArgs false
set_option linter.unusedVariables false
open Go.RowKit
open NmP SpP

theorem findK_append (a b : List Sd) (z : ByteArray) (k : Int) : findK (a ++ b) z k = (findK a z k).or (findK b z k) := by
  unfold findK
  exact List.find?_append
theorem way_miss (known : List Sd) : ∀ n z y, wayR known n z = .miss y → findK known y 6 = none
  | 0, z, y, h => by cases h
  | n + 1, z, y, h => by
    unfold wayR at h
    split at h
    · cases h
    · split at h
      · rename_i hf
        cases h
        exact hf
      · rename_i s hf
        split at h
        · cases h
        · rename_i g r hg
          split at h
          · cases hr : wayR known n g.z with
            | good l => rw [hr] at h; cases h
            | miss x =>
              rw [hr] at h
              cases h
              exact way_miss known n _ _ hr
            | bad => rw [hr] at h; cases h
          · cases h
theorem way_more (a b : List Sd) : ∀ n z, wayR (a ++ b) n z = wayR a n z ∨ ∃ y, wayR a n z = .miss y ∧ (findK b y 6).isSome = true
  | 0, z => .inl rfl
  | n + 1, z => by
    unfold wayR
    split
    · exact .inl rfl
    · rw [findK_append]
      cases hf : findK a z 6 with
      | none =>
        simp only [Option.none_or]
        cases hb : findK b z 6 with
        | none => exact .inl rfl
        | some s => exact .inr ⟨z, rfl, by rw [hb]; rfl⟩
      | some s =>
        simp only [Option.some_or]
        cases hg : s.g with
        | nil => exact .inl rfl
        | cons g r =>
          simp only
          split
          · rcases way_more a b n g.z with h | ⟨y, h1, h2⟩
            · exact .inl (by rw [h])
            · exact .inr ⟨y, by rw [h1]; rfl, h2⟩
          · exact .inl rfl
theorem stepF_miss {known : List Sd} {root : St} {t d : Int} {p : Stp} {keys : List Sp} {ab y : ByteArray} (h : stepF known root t d p keys ab = .miss y) : findK known y 7 = none := by
  unfold stepF at h
  split at h
  · cases h
  · split at h
    · rename_i hf
      cases h
      exact hf
    · rename_i s hf
      cases hm : matchB (if p.1 = dotB then root else p.2.st) s t d <;> rw [hm] at h <;> simp at h
theorem folF_miss_of (known : List Sd) (root : St) (t d : Int) : ∀ (l : List Stp) (k : List Sp) (a y : ByteArray), folF known root t d l (.run k a) = .miss y → findK known y 7 = none
  | [], k, a, y, h => by
    have h' : FR.run k a = FR.miss y := h
    cases h'
  | p :: r, k, a, y, h => by
    have h1 : folF known root t d r (stepF known root t d p k a) = .miss y := h
    cases hs : stepF known root t d p k a with
    | run k' a' =>
      rw [hs] at h1
      exact folF_miss_of known root t d r k' a' y h1
    | miss z =>
      rw [hs, folF_miss] at h1
      cases h1
      exact stepF_miss hs
    | bad =>
      rw [hs, folF_bad] at h1
      cases h1
theorem stepF_more (a b : List Sd) (root : St) (t d : Int) (p : Stp) (keys : List Sp) (ab : ByteArray) :
    stepF (a ++ b) root t d p keys ab = stepF a root t d p keys ab ∨ ∃ y, stepF a root t d p keys ab = .miss y ∧ (findK b y 7).isSome = true := by
  unfold stepF
  split
  · exact .inl rfl
  · rw [findK_append]
    cases hf : findK a p.1 7 with
    | none =>
      simp only [Option.none_or]
      cases hb : findK b p.1 7 with
      | none => exact .inl rfl
      | some s => exact .inr ⟨p.1, rfl, by rw [hb]; rfl⟩
    | some s => exact .inl rfl
theorem folF_more (a b : List Sd) (root : St) (t d : Int) : ∀ (l : List Stp) (k : List Sp) (ab : ByteArray), folF (a ++ b) root t d l (.run k ab) = folF a root t d l (.run k ab) ∨ ∃ y, folF a root t d l (.run k ab) = .miss y ∧ (findK b y 7).isSome = true
  | [], k, ab => .inl rfl
  | p :: r, k, ab => by
    show folF (a ++ b) root t d r (stepF (a ++ b) root t d p k ab) = folF a root t d r (stepF a root t d p k ab) ∨ ∃ y, folF a root t d r (stepF a root t d p k ab) = .miss y ∧ (findK b y 7).isSome = true
    rcases stepF_more a b root t d p k ab with h | ⟨y, h1, h2⟩
    · rw [h]
      cases hs : stepF a root t d p k ab with
      | run k' a' => exact folF_more a b root t d r k' a'
      | miss z => exact .inl (by rw [folF_miss, folF_miss])
      | bad => exact .inl (by rw [folF_bad, folF_bad])
    · exact .inr ⟨y, by rw [h1, folF_miss], h2⟩
theorem args_more {a b : List Sd} {s : St} {z : ByteArray} {t d : Int} (h : argsB (a ++ b) s z t d = true) : argsB a s z t d = true := by
  unfold argsB knownB at h ⊢
  simp only [List.length_append, List.any_append, Bool.and_eq_true, Bool.not_eq_true', Bool.or_eq_false_iff, decide_eq_true_eq] at h ⊢
  refine ⟨⟨⟨⟨⟨?_, ?_⟩, ?_⟩, ?_⟩, ?_⟩, ?_⟩
  · omega
  · exact h.1.1.1.1.2.1
  · exact h.1.1.1.2
  · exact h.1.1.2
  · exact h.1.2
  · exact h.2
theorem path_miss {known : List Sd} {a : St} {z : ByteArray} {t d : Int} {y : ByteArray} {c : Int} (h : pathR known a z t d = .miss y c) : findK known y c = none ∧ (c = 6 ∨ c = 7) := by
  unfold pathR at h
  split at h
  · unfold pathW at h
    cases hw : wayR known 63 z with
    | good l =>
      rw [hw] at h
      simp only at h
      unfold downF atF at h
      cases hf : folF known a t d ((revI (l ++ [(dotB, zSd)])).map (·.2)) (.run [] ⟨#[]⟩) with
      | run k ab => rw [hf] at h; cases h
      | miss x =>
        rw [hf] at h
        cases h
        exact ⟨folF_miss_of _ _ _ _ _ _ _ _ hf, .inr rfl⟩
      | bad => rw [hf] at h; cases h
    | miss x =>
      rw [hw] at h
      cases h
      exact ⟨way_miss _ _ _ _ hw, .inl rfl⟩
    | bad => rw [hw] at h; cases h
  · cases h
theorem path_more {a b : List Sd} {s : St} {z : ByteArray} {t d : Int} : pathR (a ++ b) s z t d = .arg ∨ pathR (a ++ b) s z t d = pathR a s z t d ∨ ∃ y c, pathR a s z t d = .miss y c ∧ (findK b y c).isSome = true := by
  by_cases h : argsB (a ++ b) s z t d = true
  · right
    have h2 := args_more h
    unfold pathR
    rw [if_pos h, if_pos h2]
    unfold pathW
    rcases way_more a b 63 z with hw | ⟨y, h1, h3⟩
    · rw [hw]
      cases wayR a 63 z with
      | good l =>
        simp only
        unfold downF atF
        rcases folF_more a b s t d ((revI (l ++ [(dotB, zSd)])).map (·.2)) [] ⟨#[]⟩ with hf | ⟨y, h1, h3⟩
        · rw [hf]; exact .inl rfl
        · rw [h1]; exact .inr ⟨y, 7, rfl, h3⟩
      | miss x => exact .inl rfl
      | bad => exact .inl rfl
    · rw [h1]
      exact .inr ⟨y, 6, rfl, h3⟩
  · left
    unfold pathR
    rw [if_neg h]
theorem path_arg {a b : List Sd} {s : St} {z : ByteArray} {t d : Int} (h : pathR a s z t d = .arg) : pathR (a ++ b) s z t d = .arg := by
  unfold pathR at h ⊢
  split at h
  · unfold pathW at h
    split at h
    · unfold pathD at h
      split at h <;> cases h
    · cases h
    · cases h
  · rename_i hn
    rw [if_neg (fun q => hn (args_more q))]
end Go.Proofs.YtkhckgknldiheaaDoor
