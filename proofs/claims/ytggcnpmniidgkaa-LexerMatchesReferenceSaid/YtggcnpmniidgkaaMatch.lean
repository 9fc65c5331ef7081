/- LexerMatchesReference of layer 3 is true for every text, and leaves its argument as it was; no condition. -/
import Derived.Test.YtggcnpmniidgkaaM4
import Derived.ProofKit
import Derived.OpenShut
import Derived.ShutString
import Derived.ChangeOld
import Derived.Lib.SmallJoins
namespace Go.Proofs.Ytggcnpmniidgkaa
open Go.ChangeShapes Go.WideShapes Go.ChangeAt Go.RowKit Go.Joins Go.Shelf
open Go.ChangeMaps (open_string shut_string)
open NmP
namespace Match
set_option linter.unusedVariables false

theorem small_lex (l : Bs) : Small (lexR l).1 := by
  by_cases h : (lexR l).2.1 = 0
  · obtain ⟨ts, h8, hO, hl, hr⟩ := lexR_ok h
    rw [hr]
    exact small_of hO h8
  · have : (lexR l).1 = [] := by
      unfold lexR at h ⊢
      split
      · rfl
      · rename_i h8
        rw [if_neg h8] at h
        unfold res at h ⊢
        split
        · rename_i ts _
          split
          · rename_i q
            rw [‹lexO _ l 0 = Out.ok ts›] at h
            simp only [if_pos q] at h
            simp at h
          · rfl
        · repeat' split
          all_goals rfl
    rw [this]
    exact ⟨Nat.zero_le _, fun t ht => by cases ht⟩
theorem Lex_sl (s : ByteArray) (w : World) (hs : s.size ≤ maxLen) (ts : List Tok) (er k : Nat) (h : lexR s.toList = (ts, er, k)) :
    Calls Try.prog 15 #[.string s] w fun e w' => ∃ sl, e = .returned (.tuple #[sl, .int .i64 (er : Int), .int .i64 (k : Int)]) ∧ SlT sl ts w' ∧ Below w.heap.size w w' := by
  have := Lex_all s w hs
  rw [h] at this
  exact this.mono fun e w' ⟨sl, he, ho, hb⟩ => ⟨sl, he, SlT.owned ho, hb⟩

set_option maxHeartbeats 2000000 in
set_option maxRecDepth 100000 in
theorem walk (s : ByteArray) (w : World) (hs : s.size ≤ maxLen) :
    Calls Try.prog 3 #[.string s] w fun e w' => e = .returned (.bool true) ∧ Below w.heap.size w w' := by
  obtain ⟨ts, er, k, hr⟩ : ∃ t e k, lexR s.toList = (t, e, k) := ⟨_, _, _, rfl⟩
  have hsm := small_lex s.toList
  rw [hr] at hsm
  have HA := Lib.hid (fun W => Lex_sl s W hs ts er k hr)
  have HB := Lib.hid (fun W => rlex_all s W hs ts er k hr)
  have HM := Lib.hid hsm
  clear hsm hr
  unfold maxLen at hs
  by_cases h8 : 8100 < s.size
  · have q : (8100 : Int) < (s.size : Int) := by omega
    go_enter Try.func3, Try.ntmps3
    go_wp2_with (go_at_call 14; refine (head_any _).mono ?_; rintro e w1 ⟨rfl, hb1⟩; have HW := Lib.hid hb1; clear hb1)
    go_ret
    exact ⟨rfl, HW.out⟩
  · have q : ¬ (8100 : Int) < (s.size : Int) := by omega
    go_enter Try.func3, Try.ntmps3
    go_wp2_with (first | (go_at_call 14; refine (head_any _).mono ?_; rintro e w1 ⟨rfl, hb1⟩; have HW := Lib.hid hb1; clear hb1) | (go_at_call 15; fail))
    refine (HA.out _).mono ?_
    rintro e w2 ⟨va, rfl, sa, hb2⟩
    have SA := Lib.hid sa
    replace HW := Lib.hid (HW.out.trans (hb2.mono HW.out.size))
    clear sa hb2
    go_wp2_with (go_at_call 16; fail)
    refine (HB.out _).mono ?_
    rintro e w3 ⟨vb, rfl, sb, hb3⟩
    have SB := Lib.hid sb
    replace SA := Lib.hid (SA.out.keep hb3)
    replace HW := Lib.hid (HW.out.trans (hb3.mono HW.out.size))
    clear sb hb3
    go_wp2_with (go_at_call 17; refine (same_lit SA.out SB.out HM.out).mono ?_; rintro e w4 ⟨rfl, hb4⟩; replace HW := Lib.hid (HW.out.trans (hb4.mono HW.out.size)); clear hb4)
    go_ret
    exact ⟨rfl, HW.out⟩

theorem own : ownKnob Try.prog.godebug = none := by kernel_rfl
theorem laidOut : laidOutB Try.prog = true := by kernel_rfl

set_option maxRecDepth 100000 in
theorem lifted (os : Os) (started : os.Started) (H : Type) (enc : TypeId × Value → H) :
    ReturnsInHanded {} Try.checked os 3 .any (Rows.lexerMatchesReferenceSpec.pre6 enc Try.prog Try.f3 Rows.lexerMatchesReferenceRow.domain false) (Rows.lexerMatchesReferenceSpec.post enc Try.prog Try.f3 false true false false) := by
  refine returnsInHanded_of_change (C := Try.checked) own started (by kernel_rfl) Try.func3
    (ChangeSpec.witness6 (enc := enc) (C := Try.checked) false ⟨#[], #[.string ⟨#[]⟩], []⟩ 8 (by kernel_rfl) (by kernel_rfl) (by kernel_rfl) (by kernel_rfl)) ?_
  intro W base args ds gs before hval0 hW hcnd _
  have hval : ∀ (j : Nat) t v, Try.f3.params[j]? = some t → args[j]? = some v → Value.okWide Try.prog W .any base t v := hval0
  have hW' := hW
  obtain ⟨p, q, hA0, hV, rfl, hfz, hnd⟩ := hW
  have hA : DataW.TrodAll enc Try.prog W 0 (fun _ => true) true Try.f3.params.toList args.toList ds p := hA0
  rw [Try.params3] at hA hval
  obtain ⟨v0, vs0, d0, ds0, p0, q0, hargs, rfl, rfl, h0, r0⟩ := trodAll_cons hA
  obtain ⟨rfl, rfl, rfl⟩ := trodAll_nil r0
  obtain rfl : args = #[v0] := by cases args; simp_all
  obtain ⟨rfl, rfl⟩ := trodVars_none hV
  have k0 := h0
  have lt0 : ∀ x ∈ p0, x.block < W.heap.size := by obtain ⟨m, hm⟩ := k0; exact DataW.trod_lt m _ _ _ hm
  obtain ⟨s0, rfl, rfl, rfl, ws0⟩ := open_string Try.underlying9 (hval 0 9 v0 rfl rfl) h0
  clear hA0 hval0
  refine (walk s0 W ws0).mono fun e W' ⟨he, bel⟩ => ?_
  subst he
  exact ⟨_, rfl, _, _, _, [], _, [], hW', trodAll_mk1 (shut_bool Try.underlying4 _), (trodAll_cons_mk (Below.trod laidOut (by kernel_rfl) (of_decide_eq_true (by kernel_rfl)) k0 bel lt0) trodAll_mk0), rfl, bel.frame _, fun h => by cases h⟩

theorem over : Rows.LexerMatchesReferenceSaid :=
  OpenClaim.holds_of_wide 3 Try.f3 rfl rfl rfl rfl rfl rfl rfl ⟨rfl, rfl, rfl, rfl, rfl⟩ rfl rfl rfl rfl rfl (by kernel_rfl) Try.func3 (by kernel_rfl)
    (of_decide_eq_true (by kernel_rfl)) (by unfold Func.isWrapper; rw [if_neg (of_decide_eq_false (by kernel_rfl))]; exact ⟨rfl, rfl⟩)
    (fun os started H enc _ => lifted os started H enc)

end Match
theorem lexerMatches_holds : Rows.LexerMatchesReferenceSaid := Match.over
end Go.Proofs.Ytggcnpmniidgkaa
