/- Plain facts on data of sets, their rules and their order, and slices that hold data; no condition beyond those that each theorem names. -/
import Derived.Test.YtkhckgknldiheaaDoorR6
namespace Go.Proofs.YtkhckgknldiheaaDoor
set_option linter.unusedSimpArgs false
set_option linter.unusedVariables false
open Go.RowKit
open NmP

/-- A datum: Text, N, M. -/
abbrev Dt := ByteArray × Int × Int
def valsD (d : Dt) : List Value := [.string d.1, .int .i64 d.2.1, .int .i64 d.2.2]
def rowD (l : List Dt) : List Value := l.flatMap valsD
def RD (b off : Nat) (l : List Dt) (W : World) : Prop := ∀ m u, (rowD l)[m]? = some u → W.cell? ⟨b, off + m, none⟩ = some u
theorem rowD_cons (t : Dt) (l : List Dt) : rowD (t :: l) = valsD t ++ rowD l := rfl
theorem rowD_append (a b : List Dt) : rowD (a ++ b) = rowD a ++ rowD b := by simp [rowD]
theorem rowD_len (l : List Dt) : (rowD l).length = 3 * l.length := by
  induction l with
  | nil => rfl
  | cons s r ih => rw [rowD_cons, List.length_append, ih]; simp [valsD]; omega
theorem rowD_get : ∀ (l : List Dt) (i f : Nat) (t : Dt), l[i]? = some t → f < 3 → (rowD l)[i * 3 + f]? = (valsD t)[f]?
  | [], _, _, _, h, _ => by simp at h
  | a :: r, 0, f, t, h, hf => by
    simp at h; subst h
    rw [rowD_cons, List.getElem?_append_left (by simp [valsD]; omega), Nat.zero_mul, Nat.zero_add]
  | a :: r, i + 1, f, t, h, hf => by
    rw [rowD_cons, List.getElem?_append_right (by simp [valsD]; omega), show (i + 1) * 3 + f - (valsD a).length = i * 3 + f by simp [valsD]; omega]
    exact rowD_get r i f t (by simpa using h) hf
theorem RD.at_ {b off : Nat} {l : List Dt} {W : World} (h : RD b off l W) {i : Nat} {t : Dt} (hi : l[i]? = some t) :
    W.cell? ⟨b, off + i * 3, none⟩ = some (.string t.1) ∧ W.cell? ⟨b, off + i * 3 + 1, none⟩ = some (.int .i64 t.2.1) ∧ W.cell? ⟨b, off + i * 3 + 2, none⟩ = some (.int .i64 t.2.2) := by
  have h0 := h (i * 3 + 0) (.string t.1) (by rw [rowD_get l i 0 t hi (by omega)]; rfl)
  have h1 := h (i * 3 + 1) (.int .i64 t.2.1) (by rw [rowD_get l i 1 t hi (by omega)]; rfl)
  have h2 := h (i * 3 + 2) (.int .i64 t.2.2) (by rw [rowD_get l i 2 t hi (by omega)]; rfl)
  exact ⟨h0, by rw [← Nat.add_assoc] at h1; exact h1, by rw [← Nat.add_assoc] at h2; exact h2⟩
theorem RD.keep {b off : Nat} {l : List Dt} {W W' : World} (h : RD b off l W) (hb : b < W.heap.size) (hB : Below W.heap.size W W') : RD b off l W' := fun m u hm =>
  (hB.cell (p := ⟨b, off + m, none⟩) hb).trans (h m u hm)
/-- A slice that holds data. -/
def SlD (v : Value) (l : List Dt) (W : World) : Prop := (l = [] ∧ ∃ p c, v = .slice p 0 c) ∨ ∃ b off c, v = .slice (some ⟨b, off, none⟩) l.length c ∧ b < W.heap.size ∧ RD b off l W
theorem SlD.keep {v : Value} {l : List Dt} {W W' : World} (h : SlD v l W) (hb : Below W.heap.size W W') : SlD v l W' := by
  rcases h with h | ⟨b, off, c, h1, h2, h3⟩
  · exact .inl h
  · exact .inr ⟨b, off, c, h1, Nat.lt_of_lt_of_le h2 hb.size, h3.keep h2 hb⟩
theorem SlD.form {v : Value} {l : List Dt} {W : World} (h : SlD v l W) : ∃ p c, v = .slice p l.length c := by
  rcases h with ⟨h, p, c, h2⟩ | ⟨b, off, c, h1, _⟩
  · exact ⟨p, c, by rw [h2, h]; rfl⟩
  · exact ⟨_, c, h1⟩
theorem SlD.at_ {p : Option Addr} {n c : Nat} {l : List Dt} {W : World} (h : SlD (.slice p n c) l W) (h1 : 0 < l.length) : ∃ b off, p = some ⟨b, off, none⟩ ∧ b < W.heap.size ∧ RD b off l W := by
  rcases h with ⟨h, _⟩ | ⟨b, off, c, h2, h3, h4⟩
  · rw [h] at h1; cases h1
  · cases h2; exact ⟨b, off, rfl, h3, h4⟩
theorem below_drewD {W W' : World} {b : Nat} (h : Below b W W') (n : Nat) : Below b W (W'.drewN n) := h.trans ⟨rfl, rfl, rfl, Nat.le_refl _, fun _ _ => rfl⟩

/-- How two data compare. -/
def lessI (a b : Dt) : Int := orI (cmpS a.1.toList b.1.toList) (cmpI a.2.1 b.2.1) (cmpI a.2.2 b.2.2)
/-- What is valid for a type: its text's kind, the ranges of N and M, one datum alone, wildcards. -/
structure Rule where
  k : Int
  lN : Int
  mN : Int
  lM : Int
  mM : Int
  one : Bool
  wild : Bool
def ruleOf : Nat → Rule
  | 1 => ⟨0, 1, 1000000, 0, 0, false, true⟩
  | 2 => ⟨1, 0, 0, 0, 0, false, false⟩
  | 3 => ⟨1, 0, 0, 0, 0, true, false⟩
  | 4 => ⟨0, 0, 65535, 0, 100000, true, false⟩
  | 5 => ⟨2, 0, 0, 0, 0, false, true⟩
  | 6 => ⟨0, 1, 1000000, 1, 3, false, false⟩
  | 7 => ⟨0, 1, 1000000, 1, 3, false, false⟩
  | 8 => ⟨3, 2, 510, 0, 0, false, true⟩
  | _ => ⟨0, 0, 0, 0, 0, false, false⟩
def okD (t : Nat) (d : Dt) : Bool := fitsB (ruleOf t).k (ruleOf t).lN (ruleOf t).mN (ruleOf t).lM (ruleOf t).mM t d.1.toList d.2.1 d.2.2
/-- The data from one on are valid, and each is less than the next. -/
def okFrom (t : Nat) : Option Dt → List Dt → Bool
  | _, [] => true
  | o, d :: r => okD t d && (match o with | none => true | some p => decide (lessI p d < 0)) && okFrom t (some d) r
/-- A set is valid. -/
def setB (x : Bs) (typ life : Int) (l : List Dt) : Bool :=
  validB x && (decide (1 ≤ typ) && decide (typ ≤ 8)) && (decide (0 ≤ life) && decide (life ≤ 100000)) && (decide (1 ≤ (l.length : Int)) && decide ((l.length : Int) ≤ 8)) && !((ruleOf typ.toNat).one && decide (1 < l.length)) && !(!(ruleOf typ.toNat).wild && wildB x) && okFrom typ.toNat none l
/-- The rules lie in the variable. -/
def RulesAt (w : World) : Prop := ∀ t : Nat, 1 ≤ t → t ≤ 8 →
  w.cell? ⟨0, t * 7, none⟩ = some (.int .i64 (ruleOf t).k) ∧ w.cell? ⟨0, t * 7 + 1, none⟩ = some (.int .i64 (ruleOf t).lN) ∧ w.cell? ⟨0, t * 7 + 2, none⟩ = some (.int .i64 (ruleOf t).mN) ∧
  w.cell? ⟨0, t * 7 + 3, none⟩ = some (.int .i64 (ruleOf t).lM) ∧ w.cell? ⟨0, t * 7 + 4, none⟩ = some (.int .i64 (ruleOf t).mM) ∧ w.cell? ⟨0, t * 7 + 5, none⟩ = some (.bool (ruleOf t).one) ∧ w.cell? ⟨0, t * 7 + 6, none⟩ = some (.bool (ruleOf t).wild)
theorem RulesAt.lt {w : World} (h : RulesAt w) : 0 < w.heap.size := World.block_lt_of_cell? w _ (h 1 (by omega) (by omega)).1
theorem RulesAt.keep {w w' : World} (h : RulesAt w) (hb : Below w.heap.size w w') : RulesAt w' := fun t h1 h2 => by
  obtain ⟨a0, a1, a2, a3, a4, a5, a6⟩ := h t h1 h2
  exact ⟨(hb.cell h.lt).trans a0, (hb.cell h.lt).trans a1, (hb.cell h.lt).trans a2, (hb.cell h.lt).trans a3, (hb.cell h.lt).trans a4, (hb.cell h.lt).trans a5, (hb.cell h.lt).trans a6⟩
theorem ruleOf_lN (t : Nat) : 0 ≤ (ruleOf t).lN := by
  unfold ruleOf
  split <;> decide
end Go.Proofs.YtkhckgknldiheaaDoor
