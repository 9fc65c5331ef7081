/- The contracts of Has of package span and of its reference; no condition beyond those that each theorem names. -/
import Derived.Test.YtojofkjnakiliaaS4
import Derived.Test.YtojofkjnakiliaaShelf
import Derived.Lib.SliceRun
namespace Go.Proofs.Ytojofkjnakiliaa
open Go.RowKit Go.Shelf
open SpP

def inS (t : Int) (s : Sp) : Bool := decide (s.1 ≤ t) && decide (t < s.2)
theorem hasS_any (l : List Sp) (t : Int) : hasS l t = l.any (inS t) := rfl
theorem pred_has (t : Int) (B : Nat) (w : World) (hB : B < w.heap.size) (hcell : w.cell? ⟨B, 0, none⟩ = some (.int .i64 t)) :
    PredBelow Try.prog 42 #[.pointer (some ⟨B, 0, none⟩)] (fun x => .agg (valsS x).toArray) (inS t) w := fun W x hb => by
  have hc : W.cell? ⟨B, 0, none⟩ = some (.int .i64 t) := (hb.cell (p := ⟨B, 0, none⟩) hB).trans hcell
  have hBW : B < W.heap.size := Nat.lt_of_lt_of_le hB hb.size
  have hne : B ≠ W.heap.size := by omega
  obtain ⟨x, y⟩ := x
  show Calls Try.prog 42 #[.agg #[.int .i64 x, .int .i64 y], .pointer (some ⟨B, 0, none⟩)] W _
  unfold inS
  simp only
  clear hcell
  by_cases q0 : x ≤ t
  · have d0 : decide (x ≤ t) = true := by simpa using q0
    by_cases q1 : t < y
    · have d1 : decide (t < y) = true := by simpa using q1
      rw [d0, d1]
      go_enter Try.func42, Try.ntmps42
      go_wp2
      go_ret
      exact ⟨rfl, hb.alloc hb.size _⟩
    · have d1 : decide (t < y) = false := by simpa using q1
      rw [d0, d1]
      go_enter Try.func42, Try.ntmps42
      go_wp2
      go_ret
      exact ⟨rfl, hb.alloc hb.size _⟩
  · have d0 : decide (x ≤ t) = false := by simpa using q0
    rw [d0, Bool.false_and]
    go_enter Try.func42, Try.ntmps42
    go_wp2
    go_ret
    exact ⟨rfl, hb.alloc hb.size _⟩

theorem contains_none (p : Option Addr) (c : Nat) (fv : Value) (w : World) : Calls Try.prog 41 #[.slice p 0 c, fv] w fun e w' => e = .returned (.bool false) ∧ Below w.heap.size w w' := by
  have h47 : ∀ W : World, Calls Try.prog 47 #[.slice p 0 c, fv] W fun e w' => e = .returned (.int .i64 (-1)) ∧ W = w' := fun W => by
    go_enter Try.func47, Try.ntmps47
    go_wp2
    refine wp_loop_rounds 1 ?_
    rw [rounds_succ]
    go_wp2
    go_ret
    exact ⟨rfl, rfl⟩
  go_enter Try.func41, Try.ntmps41
  go_wp2_with (go_at_call 47; refine (h47 _).mono ?_; rintro e w' ⟨rfl, rfl⟩)
  go_ret
  exact ⟨rfl, Below.refl _ _⟩

set_option maxHeartbeats 1000000 in
theorem has_any {v : Value} {l : List Sp} {w : World} (h : SlS v l w) (hn : l.length ≤ maxLen) (t : Int) :
    Calls Try.prog 24 #[v, .int .i64 t] w fun e w' => e = .returned (.bool (hasS l t)) ∧ Below w.heap.size w w' := by
  have hcon : Calls Try.prog 41 #[v, .func (.func 42) #[] #[.pointer (some ⟨w.heap.size, 0, none⟩)]] (w.alloc (.cells #[.int .i64 t] 3)) fun e w' => e = .returned (.bool (hasS l t)) ∧ Below (w.alloc (.cells #[.int .i64 t] 3)).heap.size (w.alloc (.cells #[.int .i64 t] 3)) w' := by
    rcases h with ⟨rfl, p, c, rfl⟩ | ⟨b, off, c, rfl, h1, h2⟩
    · exact contains_none p c _ _
    · have eg : ∀ args w, (callFunc 42 args).run Try.prog w = .ok (.enter 42 args) w := enters_of Try.func42 (by kernel_rfl) rfl
      unfold maxLen at hn
      have := AnyQ.slices_ContainsFunc Try.hasAny 2 Try.isAgg34 Try.sizeOf34 valsS (fun _ => rfl) (inS t) 42 #[.pointer (some ⟨w.heap.size, 0, none⟩)] eg b off l.length c l (w.alloc (.cells #[.int .i64 t] 3))
        (pred_has t w.heap.size _ (by simp) (by simp)) (Nat.le_refl _) (by omega) (by simp; omega) (fun j hj i v hi => by
          refine Lib.cell?_alloc_some _ ?_
          have hi2 : i < 2 := (List.getElem?_eq_some_iff.1 hi).1
          have hg : l[j]? = some l[j] := List.getElem?_eq_getElem hj
          have he : l[j]! = l[j] := by simp [hj]
          rw [he] at hi
          rw [Nat.add_assoc]
          exact h2 (j * 2 + i) v (by rw [rowS_get l j i _ hg hi2]; exact hi))
      rw [List.take_length] at this
      exact this
  have HC := Lib.hid hcon
  obtain ⟨p, c, rfl⟩ := h.form
  clear hcon h
  go_enter Try.func24, Try.ntmps24
  go_wp2_with (go_at_call 41; refine HC.out.mono ?_; rintro e w' ⟨rfl, hb'⟩)
  go_ret
  exact ⟨rfl, ((Below.refl _ w).alloc (Nat.le_refl _) _).trans (hb'.mono (by simp))⟩

theorem rhas_none (p : Option Addr) (c : Nat) (t : Int) (w : World) : Calls Try.prog 25 #[.slice p 0 c, .int .i64 t] w fun e w' => e = .returned (.bool false) ∧ Below w.heap.size w w' := by
  go_enter Try.func25, Try.ntmps25
  go_wp2
  refine wp_loop_rounds 1 ?_
  rw [rounds_succ]
  go_wp2
  go_ret
  exact ⟨rfl, Below.refl _ _⟩
set_option maxHeartbeats 1000000 in
theorem rhas_row (l : List Sp) (b off c : Nat) (t : Int) (w : World) (hn : l.length ≤ maxLen) (hb : b < w.heap.size) (hA : RS b off l w) :
    Calls Try.prog 25 #[.slice (some ⟨b, off, none⟩) l.length c, .int .i64 t] w fun e w' => e = .returned (.bool (hasS l t)) ∧ Below w.heap.size w w' := by
  unfold maxLen at hn
  obtain ⟨n, hln⟩ : ∃ n, l.length = n := ⟨_, rfl⟩
  rw [hln]
  rw [hln] at hn
  have HL := Lib.hid hln
  have HA := Lib.hid hA
  generalize hR : hasS l t = R
  have HR := Lib.hid hR
  clear hA hR hln
  go_enter Try.func25, Try.ntmps25
  go_wp2
  go_loopw [5] (fun s5 wr => ∃ i : Nat, i ≤ n ∧ s5 = .int .i64 i ∧ Hid (hasS (l.drop i) t = R) ∧ Hid (Below w.heap.size w wr)) (fun s5 _ => n - (intOf s5).toNat)
  case atStart => exact ⟨0, Nat.zero_le _, rfl, HR, Lib.hid (Below.refl _ _)⟩
  case round =>
    obtain ⟨i, hi, rfl, HS, HW⟩ := hrel
    by_cases h1 : i < n
    · have ia : i < l.length := by rw [HL.out]; exact h1
      have ga : l[i]? = some l[i] := List.getElem?_eq_getElem ia
      obtain ⟨a0, a1⟩ := (HA.out.keep hb HW.out).at_ ga
      have hS := HS.out
      rw [drop_of ga, hasS_cons] at hS
      have h10 : (i : Int) < (n : Int) := by omega
      have h13 : (0 : Int) ≤ (i : Int) := by omega
      generalize l[i] = s at *
      obtain ⟨x, y⟩ := s
      simp only at a0 a1 hS
      clear ga HR
      by_cases q0 : x ≤ t
      · have d0 : decide (x ≤ t) = true := by simpa using q0
        by_cases q1 : t < y
        · have d1 : decide (t < y) = true := by simpa using q1
          obtain rfl : R = true := by rw [← hS, d0, d1]; rfl
          clear hS
          go_wp2
          go_ret
          exact ⟨rfl, HW.out⟩
        · have d1 : decide (t < y) = false := by simpa using q1
          have HF : Hid (hasS (l.drop (i + 1)) t = R) := Lib.hid (by rw [← hS, d1]; simp)
          clear hS
          go_wp2
          go_roundw
          case rel => exact ⟨i + 1, by omega, by go_num, HF, Lib.hid HW.out⟩
          case measure => simp [intOf]; omega
      · have d0 : decide (x ≤ t) = false := by simpa using q0
        have HF : Hid (hasS (l.drop (i + 1)) t = R) := Lib.hid (by rw [← hS, d0]; simp)
        clear hS
        go_wp2
        go_roundw
        case rel => exact ⟨i + 1, by omega, by go_num, HF, Lib.hid HW.out⟩
        case measure => simp [intOf]; omega
    · obtain rfl : i = n := by omega
      have hT : R = false := by
        have := HS.out
        rw [List.drop_eq_nil_of_le (by rw [HL.out]; exact Nat.le_refl _)] at this
        exact this.symm
      subst hT
      go_wp2
      go_ret
      exact ⟨rfl, HW.out⟩
theorem rhas_any {v : Value} {l : List Sp} {w : World} (h : SlS v l w) (hn : l.length ≤ maxLen) (t : Int) :
    Calls Try.prog 25 #[v, .int .i64 t] w fun e w' => e = .returned (.bool (hasS l t)) ∧ Below w.heap.size w w' := by
  rcases h with ⟨rfl, p, c, rfl⟩ | ⟨b, off, c, rfl, h1, h2⟩
  · exact rhas_none p c t w
  · exact rhas_row l b off c t w hn h1 h2
end Go.Proofs.Ytojofkjnakiliaa
