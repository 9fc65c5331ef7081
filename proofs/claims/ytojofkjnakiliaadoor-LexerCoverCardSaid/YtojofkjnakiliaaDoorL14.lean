/- The contracts of Same and Alike of the reference of package lexer, over rows of tokens; no condition beyond those that each theorem names. -/
import Derived.Test.YtojofkjnakiliaaDoorL13
namespace Go.Proofs.YtojofkjnakiliaaDoor
set_option linter.unusedSimpArgs false
set_option linter.unusedVariables false
open Go.RowKit Go.Maps Go.Shelf
open NmP

/-- The cells from a place on hold tokens. -/
def RT (b off : Nat) (l : List Tok) (W : World) : Prop := ∀ m u, (rowT l)[m]? = some u → W.cell? ⟨b, off + m, none⟩ = some u
theorem rowT_cons (t : Tok) (l : List Tok) : rowT (t :: l) = t.vals ++ rowT l := rfl
theorem rowT_get : ∀ (l : List Tok) (i f : Nat) (t : Tok), l[i]? = some t → f < 4 → (rowT l)[i * 4 + f]? = t.vals[f]?
  | [], _, _, _, h, _ => by simp at h
  | a :: r, 0, f, t, h, hf => by
    simp at h; subst h
    rw [rowT_cons, List.getElem?_append_left (by simp [Tok.vals]; omega), Nat.zero_mul, Nat.zero_add]
  | a :: r, i + 1, f, t, h, hf => by
    rw [rowT_cons, List.getElem?_append_right (by simp [Tok.vals]; omega), show (i + 1) * 4 + f - a.vals.length = i * 4 + f by simp [Tok.vals]; omega]
    exact rowT_get r i f t (by simpa using h) hf
theorem rowT_append (a b : List Tok) : rowT (a ++ b) = rowT a ++ rowT b := by simp [rowT]
theorem RT.at_ {b off : Nat} {l : List Tok} {W : World} (h : RT b off l W) {i : Nat} {t : Tok} (hi : l[i]? = some t) :
    W.cell? ⟨b, off + i * 4, none⟩ = some (.int .i64 (t.k : Int)) ∧ W.cell? ⟨b, off + i * 4 + 1, none⟩ = some (.string t.x) ∧ W.cell? ⟨b, off + i * 4 + 2, none⟩ = some (.int .i64 (t.n : Int)) ∧ W.cell? ⟨b, off + i * 4 + 3, none⟩ = some (.int .i64 (t.a : Int)) := by
  have g := fun f hf => rowT_get l i f t hi hf
  refine ⟨h (i * 4) _ (g 0 (by omega)), ?_, ?_, ?_⟩
  · have := h (i * 4 + 1) _ (g 1 (by omega)); rwa [← Nat.add_assoc] at this
  · have := h (i * 4 + 2) _ (g 2 (by omega)); rwa [← Nat.add_assoc] at this
  · have := h (i * 4 + 3) _ (g 3 (by omega)); rwa [← Nat.add_assoc] at this
theorem RT.keep {b off : Nat} {l : List Tok} {W W' : World} (h : RT b off l W) (hl : b < W.heap.size) (hb : Below W.heap.size W W') : RT b off l W' :=
  fun m u hm => (hb.cell (p := ⟨b, off + m, none⟩) hl).trans (h m u hm)
theorem RT.part {b off : Nat} {x y : List Tok} {W : World} (h : RT b off (x ++ y) W) : RT b off x W ∧ RT b (off + x.length * 4) y W := by
  constructor
  · intro m u hm
    refine h m u ?_
    rw [rowT_append, List.getElem?_append_left (List.getElem?_eq_some_iff.1 hm).1]
    exact hm
  · intro m u hm
    rw [Nat.add_assoc]
    refine h _ u ?_
    rw [rowT_append, List.getElem?_append_right (by rw [rowT_len]; omega), rowT_len, Nat.add_sub_cancel_left]
    exact hm
theorem RT.owned {W : World} {base g n cap : Nat} {l : List Tok} (h : W.ownsRow base 28 4 (.slice (some ⟨g, 0, none⟩) n cap) n (rowT l)) : RT g 0 l W := by
  intro m u hm
  have := h.cells (g := g) rfl m u hm
  rwa [Go.WideShapes.add_plain] at this

def same1 (a b : Tok) (y : Nat) : Bool := decide (a.k = b.k) && (a.x.toList == b.x.toList) && decide (a.n = b.n) && decide (a.a + y = b.a)
def sameT : List Tok → List Tok → Nat → Bool
  | [], [], _ => true
  | a :: r, b :: q, y => same1 a b y && sameT r q y
  | _, _, _ => false
theorem sameT_len : ∀ {a b : List Tok} {y : Nat}, a.length ≠ b.length → sameT a b y = false
  | [], [], _, h => absurd rfl h
  | [], _ :: _, _, _ => rfl
  | _ :: _, [], _, _ => rfl
  | a :: r, b :: q, y, h => by unfold sameT; rw [sameT_len (by simpa using h), Bool.and_false]
theorem sameT_next {a b : List Tok} {y i : Nat} (ha : i < a.length) (hb : i < b.length) : sameT (a.drop i) (b.drop i) y = (same1 a[i] b[i] y && sameT (a.drop (i + 1)) (b.drop (i + 1)) y) := by
  rw [List.drop_eq_getElem_cons ha, List.drop_eq_getElem_cons hb]; rfl

def alike1 (a b : Tok) : Bool := decide (a.k = b.k) && (a.x.toList == b.x.toList) && decide (a.n = b.n)
def alikeT : List Tok → List Tok → Bool
  | [], [] => true
  | a :: r, b :: q => alike1 a b && alikeT r q
  | _, _ => false

theorem same_diff (p q : Option Addr) (n m c d : Nat) (y : Int) (w : World) (hn : n ≤ maxLen) (hm : m ≤ maxLen) (h : n ≠ m) :
    Calls Tryd.prog 11 #[.slice p n c, .slice q m d, .int .i64 y] w fun e w' => e = .returned (.bool false) ∧ Below w.heap.size w w' := by
  unfold maxLen at hn hm
  have hq : ((n : Int) == (m : Int)) = false := beq_eq_false_iff_ne.2 (by omega)
  go_enter Tryd.func11, Tryd.ntmps11
  go_wp2
  go_ret
  exact ⟨rfl, Below.refl _ _⟩
theorem same_none (p q : Option Addr) (c d : Nat) (y : Int) (w : World) :
    Calls Tryd.prog 11 #[.slice p 0 c, .slice q 0 d, .int .i64 y] w fun e w' => e = .returned (.bool true) ∧ Below w.heap.size w w' := by
  go_enter Tryd.func11, Tryd.ntmps11
  go_wp2
  refine wp_loop_rounds 1 ?_
  rw [rounds_succ]
  go_wp2
  go_ret
  exact ⟨rfl, Below.refl _ _⟩

set_option maxHeartbeats 2000000 in
set_option maxRecDepth 100000 in
theorem same_row (la lb : List Tok) (y : Nat) (ba oa ca bb ob cb : Nat) (w : World) (hn : la.length ≤ 100000) (hl : la.length = lb.length) (hy : y ≤ 1000000) (hk : ∀ t ∈ la, t.a ≤ 1000000)
    (ha : ba < w.heap.size) (hb : bb < w.heap.size) (hA : RT ba oa la w) (hB : RT bb ob lb w) :
    Calls Tryd.prog 11 #[.slice (some ⟨ba, oa, none⟩) la.length ca, .slice (some ⟨bb, ob, none⟩) lb.length cb, .int .i64 (y : Int)] w fun e w' => e = .returned (.bool (sameT la lb y)) ∧ Below w.heap.size w w' := by
  obtain ⟨n, hln⟩ : ∃ n, la.length = n := ⟨_, rfl⟩
  have hlm : lb.length = n := by omega
  rw [hln, hlm]
  have HL := Lib.hid hln
  have HM := Lib.hid hlm
  have HA := Lib.hid hA
  have HB := Lib.hid hB
  have HK := Lib.hid hk
  generalize hR : sameT la lb y = R
  have HR := Lib.hid hR
  have hn' : n ≤ 100000 := by omega
  clear hA hB hR hl hln hlm hn hk
  go_enter Tryd.func11, Tryd.ntmps11
  go_wp2
  go_loopw [7] (fun s7 wr => ∃ i : Nat, i ≤ n ∧ s7 = .int .i64 i ∧ Hid (sameT (la.drop i) (lb.drop i) y = R) ∧ Hid (Below w.heap.size w wr)) (fun s7 _ => n - (intOf s7).toNat)
  case atStart => exact ⟨0, Nat.zero_le _, rfl, HR, Lib.hid (Below.refl _ _)⟩
  case round =>
    obtain ⟨i, hi, rfl, HS, HW⟩ := hrel
    by_cases h1 : i < n
    · have ia : i < la.length := by rw [HL.out]; exact h1
      have ib : i < lb.length := by rw [HM.out]; exact h1
      have hnx := sameT_next (y := y) ia ib
      have ga : la[i]? = some la[i] := List.getElem?_eq_getElem ia
      have gb : lb[i]? = some lb[i] := List.getElem?_eq_getElem ib
      obtain ⟨a0, a1, a2, a3⟩ := (HA.out.keep ha HW.out).at_ ga
      obtain ⟨b0, b1, b2, b3⟩ := (HB.out.keep hb HW.out).at_ gb
      have hka := HK.out _ (List.mem_of_getElem? ga)
      generalize la[i] = ta at *
      generalize lb[i] = tb at *
      unfold same1 at hnx
      have HN := Lib.hid (HS.out.symm.trans hnx)
      clear hnx ga gb
      have hi1 : (i : Int) < (n : Int) := by omega
      have hi0 : (0 : Int) ≤ (i : Int) := by omega
      by_cases q0 : ta.k = tb.k
      · have z0 : ((ta.k : Int) == (tb.k : Int)) = true := by rw [q0]; simp
        cases z1 : (ta.x.toList == tb.x.toList)
        · have HF : Hid (R = false) := Lib.hid (by rw [HN.out, z1]; simp)
          go_wp2
          go_quiet (fail)
          go_wp2
          go_ret
          exact ⟨by rw [HF.out]; rfl, below_drewN HW.out _⟩
        · by_cases q2 : ta.n = tb.n
          · have z2 : ((ta.n : Int) == (tb.n : Int)) = true := by rw [q2]; simp
            by_cases q3 : ta.a + y = tb.a
            · have z3 : ((ta.a : Int) + (y : Int) == (tb.a : Int)) = true := by rw [beq_iff_eq]; omega
              have HF : Hid (sameT (la.drop (i + 1)) (lb.drop (i + 1)) y = R) := Lib.hid (by rw [HN.out, z1]; simp [q0, q2, q3])
              go_wp2
              go_quiet (fail)
              go_wp2
              go_roundw
              case rel => exact ⟨i + 1, by omega, by go_num, HF, Lib.hid (below_drewN HW.out _)⟩
              case measure => simp [intOf]; omega
            · have z3 : ((ta.a : Int) + (y : Int) == (tb.a : Int)) = false := beq_eq_false_iff_ne.2 (by omega)
              have HF : Hid (R = false) := Lib.hid (by rw [HN.out]; simp [q3])
              go_wp2
              go_quiet (fail)
              go_wp2
              go_ret
              exact ⟨by rw [HF.out]; rfl, below_drewN HW.out _⟩
          · have z2 : ((ta.n : Int) == (tb.n : Int)) = false := beq_eq_false_iff_ne.2 (by omega)
            have HF : Hid (R = false) := Lib.hid (by rw [HN.out]; simp [q2])
            clear HN
            generalize (ta.n : Int) = A at *
            generalize (tb.n : Int) = B at *
            have zz : (A != B) = true := by simp only [bne, z2]; rfl
            go_wp2
            go_quiet (fail)
            go_wp2
            go_ret
            exact ⟨by rw [HF.out]; rfl, below_drewN HW.out _⟩
      · have z0 : ((ta.k : Int) == (tb.k : Int)) = false := beq_eq_false_iff_ne.2 (by omega)
        have HF : Hid (R = false) := Lib.hid (by rw [HN.out]; simp [q0])
        clear HN
        generalize (ta.k : Int) = A at *
        generalize (tb.k : Int) = B at *
        have zz : (A != B) = true := by simp only [bne, z0]; rfl
        go_wp2
        go_quiet (fail)
        go_wp2
        go_ret
        exact ⟨by rw [HF.out]; rfl, below_drewN HW.out _⟩
    · obtain rfl : i = n := by omega
      have hT : R = true := by
        have := HS.out
        rw [List.drop_eq_nil_of_le (by rw [HL.out]; exact Nat.le_refl _), List.drop_eq_nil_of_le (by rw [HM.out]; exact Nat.le_refl _)] at this
        exact this.symm
      subst hT
      go_wp2
      go_ret
      exact ⟨rfl, HW.out⟩
end Go.Proofs.YtojofkjnakiliaaDoor
