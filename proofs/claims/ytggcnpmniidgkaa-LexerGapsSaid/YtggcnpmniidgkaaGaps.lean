/- LexerGaps of layer 3 is true for every text and all numbers, and leaves its arguments as they were; no condition. -/
import Derived.Test.YtggcnpmniidgkaaG3
import Derived.Test.YtggcnpmniidgkaaG4
import Derived.Test.YtggcnpmniidgkaaG5
import Derived.Test.YtggcnpmniidgkaaG6
import Derived.Test.YtggcnpmniidgkaaG7
import Derived.Test.YtggcnpmniidgkaaG8
import Derived.Test.YtggcnpmniidgkaaG9
import Derived.ProofKit
import Derived.OpenShut
import Derived.ShutString
import Derived.ChangeOld
import Derived.Lib.SmallJoins
namespace Go.Proofs.Ytggcnpmniidgkaa
open Go.ChangeShapes Go.WideShapes Go.ChangeAt Go.RowKit Go.Joins Go.Shelf
open Go.ChangeMaps (open_string shut_string)
open NmP
namespace Gaps
set_option linter.unusedVariables false

set_option maxHeartbeats 2000000 in
set_option maxRecDepth 100000 in
theorem walk_err (s : ByteArray) (wh kd : Int) (w : World) (hs : s.size ≤ maxLen) (ts : List Tok) (er k : Nat) (hr : lexR s.toList = (ts, er, k)) (he : er ≠ 0) :
    Calls Try.prog 4 #[.string s, .int .u8 wh, .int .u8 kd] w fun e w' => e = .returned (.bool true) ∧ Below w.heap.size w w' := by
  have q1 : ((er : Int) == 0) = false := beq_eq_false_iff_ne.2 (by omega)
  have q1b : ((er : Int) != 0) = true := by simp only [bne, q1]; rfl
  have HA := Lib.hid (fun W => Lex_sl s W hs ts er k hr)
  clear hr he
  go_enter Try.func4, Try.ntmps4
  go_wp2_with (first | (go_at_call 14; refine (head_any _).mono ?_; rintro e w1 ⟨rfl, hb1⟩; have HW := Lib.hid hb1; clear hb1) | (go_at_call 15; fail))
  refine (HA.out _).mono ?_
  rintro e w2 ⟨va, rfl, sa, hb2⟩
  obtain ⟨pa, ca, rfl⟩ := sa.form
  replace HW := Lib.hid (HW.out.trans (hb2.mono HW.out.size))
  clear sa hb2
  go_wp2
  go_ret
  exact ⟨rfl, HW.out⟩

theorem small_part {l m : List Tok} (h : Small (l ++ m)) : Small l ∧ Small m :=
  ⟨⟨by have := h.1; simp at this; omega, fun t ht => h.2 t (by simp [ht])⟩, ⟨by have := h.1; simp at this; omega, fun t ht => h.2 t (by simp [ht])⟩⟩
theorem walkN (s : ByteArray) (wh kd : Nat) (w : World) (hs : s.size ≤ maxLen) (hwh : wh < 256) (hkd : kd < 256) :
    Calls Try.prog 4 #[.string s, .int .u8 wh, .int .u8 kd] w fun e w' => e = .returned (.bool true) ∧ Below w.heap.size w w' := by
  by_cases h : (lexR s.toList).2.1 = 0
  · obtain ⟨ts, h8, hO, hl, hr⟩ := lexR_ok h
    have hsm := small_of hO h8
    have h8s : s.size ≤ 8000 := by rw [tl_len] at h8; exact h8
    have hG := gapK_gap (kd % 5)
    have hgl : (gapK (kd % 5)).toList.length = (gapK (kd % 5)).size := tl_len _
    obtain ⟨k, hk⟩ : ∃ k, wh % (ts.length + 1) = k := ⟨_, rfl⟩
    have hkl : k ≤ ts.length := by
      have := Nat.mod_lt wh (show 0 < ts.length + 1 by omega)
      omega
    by_cases hkn : k < ts.length
    · -- ahead of a token
      have hd : ts.drop k = ts[k] :: ts.drop (k + 1) := List.drop_eq_getElem_cons hkn
      have hsplit : ts.map PTok.tok = (ts.take k).map PTok.tok ++ (ts[k]).tok :: (ts.drop (k + 1)).map PTok.tok := by
        have := congrArg (List.map PTok.tok) (List.take_append_drop k ts)
        rw [hd, List.map_append, List.map_cons] at this
        exact this.symm
      have hpl : placeOf ts k 0 s.toList.length = (ts[k]).tok.a := by
        unfold placeOf
        rw [List.getElem?_eq_getElem hkn]
        rfl
      have hpa := (lexO_ok _ _ _ _ (Nat.lt_succ_self _) hO).2 ts[k] (List.getElem_mem hkn)
      have hps : (ts[k]).tok.a ≤ s.size := by
        rw [tl_len] at hpa
        show (ts[k]).a ≤ _
        omega
      rw [hsplit] at hsm hr
      have hm := small_part hsm
      refine walk_in s wh kd w h8s hwh hkd _ _ _ hr ts.length (by rw [← hsplit]; simp) hl k (by simp; omega) hk (kd % 5) rfl hps hm.1 hm.2 fun h9 s' hs' => ?_
      have hin := (ins_at hG hO hl k hkl (by rw [tl_len, hgl]; exact h9) s'.toList (by rw [hs', hpl])).2
      rw [hin, hgl, hd]
      rfl
    · obtain rfl : k = ts.length := by omega
      have hpl : placeOf ts ts.length 0 s.toList.length = s.toList.length := by
        unfold placeOf
        rw [List.getElem?_eq_none (Nat.le_refl _)]
      have hend : ∀ G : ByteArray, Gap G.toList → s.size + G.size ≤ 8000 → ∀ s' : ByteArray, s'.toList = s.toList ++ G.toList → lexR s'.toList = (ts.map PTok.tok, 0, 0) := fun G hGG h9 s' hs' => by
        have hin := (ins_at hGG hO hl ts.length hkl (by rw [tl_len, tl_len]; exact h9) s'.toList (by rw [hs', hpl, List.take_length, List.drop_length, List.append_nil])).2
        rw [hin, List.take_length, List.drop_length]
        simp
      have hgy : ((⟨#[10]⟩ : ByteArray) ++ gapK (kd % 5)).toList = 10 :: (gapK (kd % 5)).toList := by
        simp only [tl, ByteArray.data_append]
        simp
      have hgs := gapK_size (kd % 5)
      have hq12 : ((⟨#[10]⟩ : ByteArray) ++ gapK (kd % 5)).size ≤ 12 := by
        rw [ByteArray.size_append]
        show 1 + _ ≤ 12
        omega
      have hGy : Gap ((⟨#[10]⟩ : ByteArray) ++ gapK (kd % 5)).toList := by rw [hgy]; exact gap_line hG
      obtain ⟨m0, hm0, hli⟩ := lib_idx s
      by_cases hn0 : ts = []
      · subst hn0
        by_cases hr3 : kd % 5 < 3
        · cases hc : decide (0 ≤ Lib.indexByte (s.extract m0 s.size).data.toList 35)
          · exact walk_no0 s wh kd w hwh hkd hr (kd % 5) rfl hr3 m0 hm0 hli hc s.size rfl h8s (fun h9 s' hs' => hend _ hG h9 s' hs')
          · exact walk_yes0 s wh kd w hwh hkd hr (kd % 5) rfl hr3 m0 hm0 hli hc s.size rfl h8s _ rfl hq12 (fun h9 s' hs' => hend _ hGy h9 s' hs')
        · exact walk_hi0 s wh kd w hwh hkd hr (kd % 5) rfl (by omega) s.size rfl h8s (fun h9 s' hs' => hend _ hG h9 s' hs')
      · have hpos : 0 < ts.length := List.length_pos_iff.2 hn0
        by_cases hr3 : kd % 5 < 3
        · cases hc : decide (0 ≤ Lib.indexByte (s.extract m0 s.size).data.toList 35)
          · exact walk_no s wh kd w hwh hkd _ hr ts.length (by simp) hl hpos ts.length rfl hk (kd % 5) rfl hsm hr3 m0 hm0 hli hc s.size rfl h8s (fun h9 s' hs' => hend _ hG h9 s' hs')
          · exact walk_yes s wh kd w hwh hkd _ hr ts.length (by simp) hl hpos ts.length rfl hk (kd % 5) rfl hsm hr3 m0 hm0 hli hc s.size rfl h8s _ rfl hq12 (fun h9 s' hs' => hend _ hGy h9 s' hs')
        · exact walk_hi s wh kd w hwh hkd _ hr ts.length (by simp) hl hpos ts.length rfl hk (kd % 5) rfl hsm (by omega) s.size rfl h8s (fun h9 s' hs' => hend _ hG h9 s' hs')
  · exact walk_err s _ _ w hs _ _ _ rfl h
theorem u8_nat {a : Int} (h : (Lit.int .u8 a).wf = true) : ∃ n : Nat, a = n ∧ n < 256 := by
  have h2 : 0 ≤ a ∧ a ≤ 255 := by
    have e1 : IntKind.u8.min = 0 := rfl
    have e2 : IntKind.u8.max = 255 := rfl
    simp [Lit.wf] at h
    omega
  exact ⟨a.toNat, by omega, by omega⟩
theorem walk (s : ByteArray) (wh kd : Int) (w : World) (hs : s.size ≤ maxLen) (h1 : (Lit.int .u8 wh).wf = true) (h2 : (Lit.int .u8 kd).wf = true) :
    Calls Try.prog 4 #[.string s, .int .u8 wh, .int .u8 kd] w fun e w' => e = .returned (.bool true) ∧ Below w.heap.size w w' := by
  obtain ⟨n, rfl, hn⟩ := u8_nat h1
  obtain ⟨m, rfl, hm⟩ := u8_nat h2
  exact walkN s n m w hs hn hm

theorem own : ownKnob Try.prog.godebug = none := by kernel_rfl
theorem laidOut : laidOutB Try.prog = true := by kernel_rfl

set_option maxRecDepth 100000 in
theorem lifted (os : Os) (started : os.Started) (H : Type) (enc : TypeId × Value → H) :
    ReturnsInHanded {} Try.checked os 4 .any (Rows.lexerGapsSpec.pre6 enc Try.prog Try.f4 Rows.lexerGapsRow.domain false) (Rows.lexerGapsSpec.post enc Try.prog Try.f4 false true false false) := by
  refine returnsInHanded_of_change (C := Try.checked) own started (by kernel_rfl) Try.func4
    (ChangeSpec.witness6 (enc := enc) (C := Try.checked) false ⟨#[], #[.string ⟨#[]⟩, .int .u8 0, .int .u8 0], []⟩ 8 (by kernel_rfl) (by kernel_rfl) (by kernel_rfl) (by kernel_rfl)) ?_
  intro W base args ds gs before hval0 hW hcnd _
  have hval : ∀ (j : Nat) t v, Try.f4.params[j]? = some t → args[j]? = some v → Value.okWide Try.prog W .any base t v := hval0
  have hW' := hW
  obtain ⟨p, q, hA0, hV, rfl, hfz, hnd⟩ := hW
  have hA : DataW.TrodAll enc Try.prog W 0 (fun _ => true) true Try.f4.params.toList args.toList ds p := hA0
  rw [Try.params4] at hA hval
  obtain ⟨v0, vs0, d0, ds0, p0, q0, hargs, rfl, rfl, h0, r0⟩ := trodAll_cons hA
  obtain ⟨v1, vs1, d1, ds1, p1, q1, rfl, rfl, rfl, h1, r1⟩ := trodAll_cons r0
  obtain ⟨v2, vs2, d2, ds2, p2, q2, rfl, rfl, rfl, h2, r2⟩ := trodAll_cons r1
  obtain ⟨rfl, rfl, rfl⟩ := trodAll_nil r2
  obtain rfl : args = #[v0, v1, v2] := by cases args; simp_all
  obtain ⟨rfl, rfl⟩ := trodVars_none hV
  have k0 := h0
  have lt0 : ∀ x ∈ p0, x.block < W.heap.size := by obtain ⟨m, hm⟩ := k0; exact DataW.trod_lt m _ _ _ hm
  have k1 := h1
  have lt1 : ∀ x ∈ p1, x.block < W.heap.size := by obtain ⟨m, hm⟩ := k1; exact DataW.trod_lt m _ _ _ hm
  have k2 := h2
  have lt2 : ∀ x ∈ p2, x.block < W.heap.size := by obtain ⟨m, hm⟩ := k2; exact DataW.trod_lt m _ _ _ hm
  obtain ⟨s0, rfl, rfl, rfl, ws0⟩ := open_string Try.underlying9 (hval 0 9 v0 rfl rfl) h0
  obtain ⟨a1, rfl, rfl, rfl, w1⟩ := open_int Try.underlying5 (hval 1 5 v1 rfl rfl) h1
  obtain ⟨a2, rfl, rfl, rfl, w2⟩ := open_int Try.underlying5 (hval 2 5 v2 rfl rfl) h2
  clear hA0 hval0
  refine (walk s0 a1 a2 W ws0 w1 w2).mono fun e W' ⟨he, bel⟩ => ?_
  subst he
  exact ⟨_, rfl, _, _, _, [], _, [], hW', trodAll_mk1 (shut_bool Try.underlying4 _), (trodAll_cons_mk (Below.trod laidOut (by kernel_rfl) (of_decide_eq_true (by kernel_rfl)) k0 bel lt0) (trodAll_cons_mk (Below.trod laidOut (by kernel_rfl) (of_decide_eq_true (by kernel_rfl)) k1 bel lt1) (trodAll_cons_mk (Below.trod laidOut (by kernel_rfl) (of_decide_eq_true (by kernel_rfl)) k2 bel lt2) trodAll_mk0))), rfl, bel.frame _, fun h => by cases h⟩

theorem over : Rows.LexerGapsSaid :=
  OpenClaim.holds_of_wide 4 Try.f4 rfl rfl rfl rfl rfl rfl rfl ⟨rfl, rfl, rfl, rfl, rfl⟩ rfl rfl rfl rfl rfl (by kernel_rfl) Try.func4 (by kernel_rfl)
    (of_decide_eq_true (by kernel_rfl)) (by unfold Func.isWrapper; rw [if_neg (of_decide_eq_false (by kernel_rfl))]; exact ⟨rfl, rfl⟩)
    (fun os started H enc _ => lifted os started H enc)

end Gaps
theorem lexerGaps_holds : Rows.LexerGapsSaid := Gaps.over
end Go.Proofs.Ytggcnpmniidgkaa
