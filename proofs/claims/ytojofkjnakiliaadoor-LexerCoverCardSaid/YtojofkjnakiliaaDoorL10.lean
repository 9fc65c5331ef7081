/- The contract of endings of package lexer: the map of six closures that it lays, and what a look-up in it gives; no condition beyond those that each theorem names. -/
import Derived.Test.YtojofkjnakiliaaDoorL9
import Derived.Laws.EntriesVeiled
import Derived.Maps.Own
import Derived.RangeFuncOwn
namespace Go.Proofs.YtojofkjnakiliaaDoor
open Go.RowKit Go.Maps
open Go.Maps (Keyed)
open NmP

/-- A value of the map, read as itself. -/
def Rf (v : Value) : Option (DataW Value × List MemPlace) := some (.held v, [])

/-- What the lexer owns: the classes at b, the closure of runs at c, the map at m. -/
def MS (w0 : World) (b c m n : Nat) (D : DataW Value) (W : World) : Prop :=
  KC b W ∧ RC c b W ∧ W.ownsMap Tryd.prog 3 Rf m n D ∧ Below w0.heap.size w0 W ∧ w0.heap.size ≤ m

theorem keyed3 : Keyed Tryd.prog 3 := int_keyed Tryd.underlying3

theorem MS.step {w0 W W' : World} {b c m n : Nat} {D D' : DataW Value} {n' : Nat} (h : MS w0 b c m n D W) (ho : W'.ownsMap Tryd.prog 3 Rf m n' D') (hg : W.grownBy W' (some m)) : MS w0 b c m n' D' W' := by
  obtain ⟨hK, hC, ⟨es, ck, hb, _⟩, hB, hm⟩ := h
  have hr : ∀ r, some m = some r → ∃ o : Obj, W.heap[r]? = some o ∧ o.isCells = false := fun r e => by
    cases e; exact ⟨_, hb, rfl⟩
  exact ⟨fun k hk => cell_kept (hK k hk) hg hr, cell_kept hC hg hr, ho, hB.grown hg hB.size (fun k e => by cases e; exact hm), hm⟩

theorem wpList_ins {w0 w : World} {ops : Array Oper} {rest : List Oper} {o : Oper} {a : Act} {Q : Exit → Act → World → Prop}
    (hg : o.guard = none) (m x v : Operand) (hop : o.op = Op.insert 37 m x v) {b c p n : Nat} {D : DataW Value}
    (hm : a.eval m = .map (some p)) (h : MS w0 b c p n D w) (hn : n < maxLen) (key : Int) (hx : a.eval x = .int .i64 key) (hkey : (Lit.int .i64 key).wf = true) (val : Value) (hv : a.eval v = val)
    (hK : ∀ w', MS w0 b c p (n + 1) (D.put (.int .i64 key) (.held val)) w' → wpList Tryd.prog ops Q rest (a.put o.dst undef) w') :
    wpList Tryd.prog ops Q (o :: rest) a w := by
  refine wpList_plain hg fun K' hK' => ?_
  obtain ⟨w', hrun, r1, r2⟩ := h.2.2.1.update (val := val) keyed3 Tryd.underlying37 hn (keyOf_int_mk Tryd.underlying3 hkey) (show Rf val = some (.held val, []) from rfl)
  unfold Oper.wp
  simp [execOp, hop, hm, hx, hv, hrun, Result.andThen]
  exact hK' _ _ (hK w' (h.step r1 r2))

def fWord (c : Nat) : Value := .func (.func 22) #[] #[.pointer (some ⟨c, 0, none⟩)]
def fMark (c : Nat) : Value := .func (.func 24) #[] #[.pointer (some ⟨c, 0, none⟩)]
def fDigit (b c : Nat) : Value := .func (.func 25) #[] #[.pointer (some ⟨c, 0, none⟩), .pointer (some ⟨b, 0, none⟩)]
def fText : Value := .func (.func 27) #[] #[]
def fSign : Value := .func (.func 28) #[] #[]
def Dfin (b c : Nat) : DataW Value :=
  ((((((DataW.map []).put (.int .i64 4) (.held (fWord c))).put (.int .i64 6) (.held (fWord c))).put (.int .i64 5) (.held (fMark c))).put (.int .i64 3) (.held (fDigit b c))).put (.int .i64 7) (.held fText)).put (.int .i64 8) (.held fSign)

set_option maxHeartbeats 1000000 in
set_option maxRecDepth 100000 in
theorem endings_any (w : World) :
    Calls Tryd.prog 14 #[.agg kindsA] w fun e w' => ∃ b c m, e = .returned (.map (some m)) ∧ MS w b c m 6 (Dfin b c) w' := by
  have hmm := @run_makeMap Tryd.prog
  have hM : MS w w.heap.size (w.heap.size + 1) (w.heap.size + 1 + 1) 0 (.map []) (((w.alloc (.cells kindsA 35)).alloc (.cells #[.func (.func 21) #[] #[.pointer (some ⟨w.heap.size, 0, none⟩)]] 50)).alloc (.map #[] 0)) := by
    have hB0 : Below w.heap.size w (w.alloc (.cells kindsA 35)) := (Below.refl _ w).alloc (Nat.le_refl _) _
    have hB1 := hB0.alloc (by simp) (.cells #[.func (.func 21) #[] #[.pointer (some ⟨w.heap.size, 0, none⟩)]] 50)
    have hK := KC_alloc w 35
    have e1 : (w.alloc (.cells kindsA 35)).heap.size = w.heap.size + 1 := by simp
    have hC : RC (w.heap.size + 1) w.heap.size ((w.alloc (.cells kindsA 35)).alloc (.cells #[.func (.func 21) #[] #[.pointer (some ⟨w.heap.size, 0, none⟩)]] 50)) := by
      unfold RC
      rw [World.cell?_alloc_at _ _ _ _ e1.symm]
      rfl
    have g1 := World.grownBy_alloc (w.alloc (.cells kindsA 35)) (.cells #[.func (.func 21) #[] #[.pointer (some ⟨w.heap.size, 0, none⟩)]] 50) none
    have g2 := World.grownBy_alloc ((w.alloc (.cells kindsA 35)).alloc (.cells #[.func (.func 21) #[] #[.pointer (some ⟨w.heap.size, 0, none⟩)]] 50)) (.map #[] 0) none
    refine ⟨fun k hk => cell_kept (cell_kept (hK k hk) g1 (fun r e => by cases e)) g2 (fun r e => by cases e), cell_kept hC g2 (fun r e => by cases e), ?_, hB1.alloc (by simp; omega) _, by omega⟩
    have := World.ownsMap_made ((w.alloc (.cells kindsA 35)).alloc (.cells #[.func (.func 21) #[] #[.pointer (some ⟨w.heap.size, 0, none⟩)]] 50)) Tryd.prog 3 Rf
    simpa using this
  have HM := Lib.hid hM
  clear hM
  go_enter Tryd.func14, Tryd.ntmps14
  go_wp2_with (first | (with_reducible refine wpList_ins (by with_unfolding_all rfl) _ _ _ (by with_unfolding_all rfl) (by with_unfolding_all rfl) HM.out (by unfold maxLen; omega) _ (by with_unfolding_all rfl) (by decide) _ (by with_unfolding_all rfl) ?_; intro w1 hM1; have HM := Lib.hid hM1; clear hM1) | go_in)
  go_ret
  exact ⟨w.heap.size, w.heap.size + 1, w.heap.size + 1 + 1, rfl, HM.out⟩

/-- What the map gives for a class, and whether it has one. -/
def fnOf (b c : Nat) (k : Nat) : Value × Bool :=
  if k = 3 then (fDigit b c, true) else if k = 4 then (fWord c, true) else if k = 5 then (fMark c, true) else if k = 6 then (fWord c, true) else if k = 7 then (fText, true)
  else if k = 8 then (fSign, true) else (.nilFunc, false)
theorem look_at (b c k : Nat) (hk : k < 9) : (Dfin b c).atKey (.int .i64 (k : Int)) .nil = if (fnOf b c k).2 = true then .held (fnOf b c k).1 else .nil := by
  have : k = 0 ∨ k = 1 ∨ k = 2 ∨ k = 3 ∨ k = 4 ∨ k = 5 ∨ k = 6 ∨ k = 7 ∨ k = 8 := by omega
  rcases this with rfl | rfl | rfl | rfl | rfl | rfl | rfl | rfl | rfl <;> rfl
theorem zero64 (w : World) : (zeroValue 41).run Tryd.prog w = .ok .nilFunc w := by kernel_rfl
theorem look_any {n b c m : Nat} {W : World} (h : W.ownsMap Tryd.prog 3 Rf m n (Dfin b c)) (k : Nat) (hk : k < 9) :
    (Instr.lookup 37 (.map (some m)) (.int .i64 (k : Int)) true).run Tryd.prog W = .ok (.tuple #[(fnOf b c k).1, .bool (fnOf b c k).2]) W := by
  obtain ⟨es, clock, hb, F, _, hD⟩ := h
  have hl := look_at b c k hk
  have hkey : keyOf Tryd.prog 3 (.int .i64 (k : Int)) = some (.int .i64 (k : Int)) := keyOf_int_mk Tryd.underlying3 (by
    have : k = 0 ∨ k = 1 ∨ k = 2 ∨ k = 3 ∨ k = 4 ∨ k = 5 ∨ k = 6 ∨ k = 7 ∨ k = 8 := by omega
    rcases this with rfl | rfl | rfl | rfl | rfl | rfl | rfl | rfl | rfl <;> rfl)
  rcases Maps.fit_look true keyed3 Tryd.underlying37 (zero64 W) hb F hkey with ⟨hrun, _, hat⟩ | ⟨e0, y, _, _, hrun, hRv, hat, _⟩
  · have h2 := hat .nil
    rw [← hD, hl] at h2
    have h3 : (fnOf b c k).2 = false := by
      cases q : (fnOf b c k).2
      · rfl
      · rw [q] at h2; simp at h2
    have h4 : (fnOf b c k).1 = .nilFunc := by
      unfold fnOf at h3 ⊢
      repeat' split at h3
      all_goals simp_all
    rw [hrun, h3, h4]
    rfl
  · have h2 := hat .nil
    rw [← hD, hl] at h2
    unfold Rf at hRv
    have h5 : y = (.held e0.val, []) := (Option.some.inj hRv).symm
    rw [h5] at h2
    cases q : (fnOf b c k).2
    · rw [q] at h2; simp at h2
    · rw [q] at h2
      simp at h2
      rw [hrun, ← h2]
      rfl
end Go.Proofs.YtojofkjnakiliaaDoor
