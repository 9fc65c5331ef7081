/- The head of layer 8's laws is true; no condition beyond those that each theorem names. -/
import Derived.Test.YtpkjpogkimjpoaaGreatDoorD1
import Derived.Deep.CutRange
import Derived.Deep.RegionWith
import Derived.BigRegion
import Derived.Deep.RegionHeld3
namespace Go.Proofs.YtpkjpogkimjpoaaGreatDoor
set_option linter.unusedSimpArgs false
set_option linter.unusedVariables false
open Go.RowKit
open NmP

def setA (v : Value) : St := ⟨⟨#[97, 46, 120]⟩, 1, 5, v, [(⟨#[]⟩, 7, 0)]⟩
def setY (v : Value) : St := ⟨⟨#[97, 46, 121]⟩, 1, 5, v, [(⟨#[]⟩, 7, 0)]⟩
theorem ok7 : okFrom 1 none [((⟨#[]⟩ : ByteArray), 7, 0)] = true := by simp [okFrom, okD, fitsB, ruleOf, textB]
theorem sgA (v : Value) : signB (setA v) ⟨#[120]⟩ 3 1 10 20 = true := by
  simp only [signB, setA, St.ok, tl, setB]
  rw [show (1 : Int).toNat = 1 from rfl, ok7]
  rfl
theorem sgY (v : Value) : signB (setY v) ⟨#[120]⟩ 3 1 10 20 = false := by
  simp only [signB, setY, St.ok, tl, setB]
  rw [show (1 : Int).toNat = 1 from rfl, ok7]
  rfl
theorem sgW (v : Value) : signB (setA v) ⟨#[120]⟩ 3 1 20 10 = false := by
  unfold signB
  rw [show winB 20 10 = false by decide]
  simp
def sumA : Int := sigSum (setA (.int .i64 0)) ⟨#[120]⟩ 3 1 10 20
theorem sumA_eq (v : Value) : sigSum (setA v) ⟨#[120]⟩ 3 1 10 20 = sumA := rfl
theorem chA (v : Value) : checkB (setA v) ⟨⟨#[120]⟩, 3, 1, 10, 20, sumA⟩ 3 1 = true := by
  unfold checkB
  rw [sgA, sumA_eq]
  simp
theorem chB (v : Value) : checkB (setA v) ⟨⟨#[120]⟩, 3, 1, 10, 20, sumA⟩ 4 1 = false := by
  unfold checkB
  simp
theorem dig0 : digN 14695981039346656037 [.int .u8 0] = 12638153115695167455 := by
  show (14695981039346656037 ^^^ 0) * 1099511628211 % 18446744073709551616 = 12638153115695167455
  decide
theorem addr_in {s : ByteArray} {n : Int} {v : Value} {w : World} (h : SlD v [(⟨#[]⟩, n, 0)] w) (hs : s.size ≤ maxLen) : (St.mk s 1 5 v [(⟨#[]⟩, n, 0)]).In w := ⟨hs, fun d hd => by simp at hd; subst hd; exact Nat.zero_le _, h⟩

theorem csA (m : Int) (hm : sumA = m) (v : Value) (W : World) (h : SlD v [(⟨#[]⟩, 7, 0)] W) (hr : RulesAt W) :
    Calls Tryz.prog 7 #[.agg #[.string ⟨#[97, 46, 120]⟩, .int .i64 1, .int .i64 5, v], .string ⟨#[120]⟩, .agg #[.int .i64 3, .int .i64 1], .int .i64 10, .int .i64 20] W fun e w' => e = .returned (.tuple #[.agg #[.string ⟨#[120]⟩, .int .i64 3, .int .i64 1, .int .i64 10, .int .i64 20, .int .u64 m], .int .i64 0]) ∧ Below W.heap.size W w' := by
  have a := sign_any (setA v) ⟨#[120]⟩ 3 1 10 20 W (addr_in h (by decide)) hr (by decide)
  unfold signV at a
  rw [if_pos (sgA v), sumA_eq, hm] at a
  exact a
theorem csY (v : Value) (W : World) (h : SlD v [(⟨#[]⟩, 7, 0)] W) (hr : RulesAt W) :
    Calls Tryz.prog 7 #[.agg #[.string ⟨#[97, 46, 121]⟩, .int .i64 1, .int .i64 5, v], .string ⟨#[120]⟩, .agg #[.int .i64 3, .int .i64 1], .int .i64 10, .int .i64 20] W fun e w' => e = .returned (.tuple #[.agg #[.string ⟨#[]⟩, .int .i64 0, .int .i64 0, .int .i64 0, .int .i64 0, .int .u64 0], .int .i64 1]) ∧ Below W.heap.size W w' := by
  have a := sign_any (setY v) ⟨#[120]⟩ 3 1 10 20 W (addr_in h (by decide)) hr (by decide)
  unfold signV at a
  rw [if_neg (by rw [sgY v]; simp)] at a
  exact a
theorem csW (v : Value) (W : World) (h : SlD v [(⟨#[]⟩, 7, 0)] W) (hr : RulesAt W) :
    Calls Tryz.prog 7 #[.agg #[.string ⟨#[97, 46, 120]⟩, .int .i64 1, .int .i64 5, v], .string ⟨#[120]⟩, .agg #[.int .i64 3, .int .i64 1], .int .i64 20, .int .i64 10] W fun e w' => e = .returned (.tuple #[.agg #[.string ⟨#[]⟩, .int .i64 0, .int .i64 0, .int .i64 0, .int .i64 0, .int .u64 0], .int .i64 1]) ∧ Below W.heap.size W w' := by
  have a := sign_any (setA v) ⟨#[120]⟩ 3 1 20 10 W (addr_in h (by decide)) hr (by decide)
  unfold signV at a
  rw [if_neg (by rw [sgW v]; simp)] at a
  exact a
theorem frozen_keep {W W' : World} {n : Nat} (h : Below n W W') {a : Addr} (hl : a.block < n) : W'.frozen? a = W.frozen? a := by
  simp only [World.frozen?, h.block _ hl]
/-- What lies there in the head. -/
structure HeadG (m : Int) (w : World) (q : Nat) (W : World) : Prop where
  bel : Below w.heap.size w W
  ky : W.heap[w.heap.size]? = some (Obj.cells #[.int .i64 3, .int .i64 1] 26 (0, 0))
  sg : W.heap[q]? = some (Obj.cells #[.string ⟨#[120]⟩, .int .i64 3, .int .i64 1, .int .i64 10, .int .i64 20, .int .u64 m] 29 (0, 0))
theorem headA {m : Int} {w w2 w3 : World} (hx : Below w.heap.size w w2) (hk : w2.heap[w.heap.size]? = some (Obj.cells #[.int .i64 3, .int .i64 1] 26 (0, 0))) (h3 : Below w2.heap.size w2 w3) :
    HeadG m w w3.heap.size (w3.alloc (.cells #[.string ⟨#[120]⟩, .int .i64 3, .int .i64 1, .int .i64 10, .int .i64 20, .int .u64 m] 29)) := by
  have h4 := hx.trans (h3.mono hx.size)
  have h5 := (Array.getElem?_eq_some_iff.1 hk).1
  have h6 := (h3.block _ h5).trans hk
  exact ⟨h4.alloc h4.size _, (heap_alloc_old _ _ (Array.getElem?_eq_some_iff.1 h6).1).trans h6, heap_alloc_new w3 _⟩
theorem headB {m : Int} {w W : World} {q : Nat} (hx : Below w.heap.size w W) (hk : W.heap[w.heap.size]? = some (Obj.cells #[.int .i64 3, .int .i64 1] 26 (0, 0)))
    (hq : W.heap[q]? = some (Obj.cells #[.string ⟨#[]⟩, .int .i64 0, .int .i64 0, .int .i64 0, .int .i64 0, .int .u64 0] 29 (0, 0))) (hl : w.heap.size < q) :
    HeadG m w q ((((((W.setCell ⟨q, 0, none⟩ (.string ⟨#[120]⟩)).setCell ⟨q, 1, none⟩ (.int .i64 3)).setCell ⟨q, 2, none⟩ (.int .i64 1)).setCell ⟨q, 3, none⟩ (.int .i64 10)).setCell ⟨q, 4, none⟩ (.int .i64 20)).setCell ⟨q, 5, none⟩ (.int .u64 m)) := by
  have h1 := below_six (n := w.heap.size) hx (Nat.le_of_lt hl) (.string ⟨#[120]⟩) (.int .i64 3) (.int .i64 1) (.int .i64 10) (.int .i64 20) (.int .u64 m)
  have h2 := below_six (n := w.heap.size + 1) (Below.refl _ W) hl (.string ⟨#[120]⟩) (.int .i64 3) (.int .i64 1) (.int .i64 10) (.int .i64 20) (.int .u64 m)
  exact ⟨h1, (h2.block _ (Nat.lt_succ_self _)).trans hk, six_set _ _ _ _ _ _ hq⟩

theorem ckA (m : Int) (hm : sumA = m) (v : Value) (W : World) (h : SlD v [(⟨#[]⟩, 7, 0)] W) (hr : RulesAt W) :
    Calls Tryz.prog 8 #[.agg #[.string ⟨#[97, 46, 120]⟩, .int .i64 1, .int .i64 5, v], .agg #[.string ⟨#[120]⟩, .int .i64 3, .int .i64 1, .int .i64 10, .int .i64 20, .int .u64 m], .agg #[.int .i64 3, .int .i64 1]] W fun e w' => e = .returned (.bool true) ∧ Below W.heap.size W w' := by
  have a := check_any (setA v) ⟨⟨#[120]⟩, 3, 1, 10, 20, sumA⟩ 3 1 W (addr_in h (by decide)) hr (by decide)
  rw [chA v] at a
  subst hm
  exact a
theorem ckB (m : Int) (hm : sumA = m) (v : Value) (W : World) (h : SlD v [(⟨#[]⟩, 7, 0)] W) (hr : RulesAt W) :
    Calls Tryz.prog 8 #[.agg #[.string ⟨#[97, 46, 120]⟩, .int .i64 1, .int .i64 5, v], .agg #[.string ⟨#[120]⟩, .int .i64 3, .int .i64 1, .int .i64 10, .int .i64 20, .int .u64 m], .agg #[.int .i64 4, .int .i64 1]] W fun e w' => e = .returned (.bool false) ∧ Below W.heap.size W w' := by
  have a := check_any (setA v) ⟨⟨#[120]⟩, 3, 1, 10, 20, sumA⟩ 4 1 W (addr_in h (by decide)) hr (by decide)
  rw [chB v] at a
  subst hm
  exact a
theorem dig_nil (W : World) : Calls Tryz.prog 11 #[.slice none 0 0] W fun e w' => e = .returned (.int .u64 14695981039346656037) ∧ Below W.heap.size W w' :=
  digest_any (.slice none 0 0) [] W (.inl ⟨rfl, _, _, rfl⟩) (fun v hv => absurd hv List.not_mem_nil) (by simp)
theorem dig_zero (W : World) : Calls Tryz.prog 11 #[.slice (some ⟨W.heap.size, 0, none⟩) 1 1] (W.alloc (.cells #[.int .u8 0] 5)) fun e w' => e = .returned (.int .u64 12638153115695167455) ∧ Below (W.heap.size + 1) (W.alloc (.cells #[.int .u8 0] 5)) w' := by
  have h : (W.alloc (.cells #[.int .u8 0] 5)).heap[W.heap.size]? = some (Obj.cells #[.int .u8 0] 5 (0, 0)) := heap_alloc_new W _
  have hs : (W.alloc (.cells #[.int .u8 0] 5)).heap.size = W.heap.size + 1 := by simp
  have h2 : ((W.alloc (.cells #[.int .u8 0] 5)).alloc (.cells #[.int .u64 14695981039346656037] 61)).heap[W.heap.size]? = some (Obj.cells #[.int .u8 0] 5 (0, 0)) := (heap_alloc_old _ _ (by omega)).trans h
  have a := digest_any (.slice (some ⟨W.heap.size, 0, none⟩) 1 1) [.int .u8 0] (W.alloc (.cells #[.int .u8 0] 5)) (.inr ⟨W.heap.size, 0, 1, rfl, by omega, fun j u hj => by
    match j, hj with
    | 0, hj => simp at hj; subst hj; exact cell_of_blk h2 0 _ rfl
    | (j + 1), hj => simp at hj⟩) (isB_one 0 (by decide)) (by simp)
  rw [dig0, hs] at a
  exact a
theorem HeadG.keep {m : Int} {w W W' : World} {q : Nat} (h : HeadG m w q W) (hb : Below W.heap.size W W') : HeadG m w q W' :=
  ⟨h.bel.trans (hb.mono h.bel.size), (hb.block _ (Array.getElem?_eq_some_iff.1 h.ky).1).trans h.ky, (hb.block _ (Array.getElem?_eq_some_iff.1 h.sg).1).trans h.sg⟩
theorem closeA {m : Int} {w W w2 w3 : World} {q : Nat} {o : Obj} (h : HeadG m w q W) (h2 : Below W.heap.size W w2) (h3 : Below w2.heap.size w2 w3) : HeadG m w q (w3.alloc o) :=
  ((h.keep h2).keep h3).keep ((Below.refl _ w3).alloc (Nat.le_refl _) o)
theorem closeB {m : Int} {w W w3 : World} {q r : Nat} {a b c d e f : Value} (h : HeadG m w q W) (h3 : Below W.heap.size W w3) (hr : W.heap.size ≤ r) :
    HeadG m w q ((((((w3.setCell ⟨r, 0, none⟩ a).setCell ⟨r, 1, none⟩ b).setCell ⟨r, 2, none⟩ c).setCell ⟨r, 3, none⟩ d).setCell ⟨r, 4, none⟩ e).setCell ⟨r, 5, none⟩ f) :=
  h.keep (below_six h3 hr a b c d e f)

set_option maxHeartbeats 4000000 in
set_option maxRecDepth 100000 in
theorem head_any (w : World) (hr : RulesAt w) : Calls Tryz.prog 5 #[] w fun e w' => e = .returned (.bool true) ∧ Below w.heap.size w w' := by
  have HR := Lib.hid hr
  clear hr
  have AA := Lib.hid (fun W => address_any ⟨#[97, 46, 120]⟩ 7 W)
  have AY := Lib.hid (fun W => address_any ⟨#[97, 46, 121]⟩ 7 W)
  obtain ⟨m, hm⟩ : ∃ m, sumA = m := ⟨_, rfl⟩
  have CA := Lib.hid (csA m hm)
  have HM := Lib.hid hm
  have CY := Lib.hid csY
  have K1 := Lib.hid (ckA m HM.out)
  have K2 := Lib.hid (ckB m HM.out)
  have A0 := Lib.hid all0
  have D0 := Lib.hid dig_nil
  have D1 := Lib.hid dig_zero
  have CW := Lib.hid csW
  clear hm
  have hsg : ((w.alloc (.cells #[.int .i64 3, .int .i64 1] 26)).alloc (.cells #[.string ⟨#[]⟩, .int .i64 0, .int .i64 0, .int .i64 0, .int .i64 0, .int .u64 0] 29)).drew.heap[w.heap.size + 1]? = some (Obj.cells #[.string ⟨#[]⟩, .int .i64 0, .int .i64 0, .int .i64 0, .int .i64 0, .int .u64 0] 29 (0, 0)) := by
    have := heap_alloc_new (w.alloc (.cells #[.int .i64 3, .int .i64 1] 26)) (.cells #[.string ⟨#[]⟩, .int .i64 0, .int .i64 0, .int .i64 0, .int .i64 0, .int .u64 0] 29)
    rw [show (w.alloc (.cells #[.int .i64 3, .int .i64 1] 26)).heap.size = w.heap.size + 1 by simp] at this
    exact this
  have HSG := Lib.hid hsg
  clear hsg
  go_enter Tryz.func5, Tryz.ntmps5
  go_upto_region 2 with fail
  go_cut [2, 3] from 12 to 17 (fun s2 s3 wx => ∃ q, s2 = .pointer (some ⟨q, 0, none⟩) ∧ s3 = .int .i64 0 ∧ Hid (HeadG m w q wx))
  case first =>
    go_region_with (first | (go_at_call 9; (with_reducible refine (AA.out _).mono ?_); rintro e w2 ⟨b, rfl, hsl, hb⟩; have HSL := Lib.hid hsl; have HB2 := Lib.hid hb; have HX2 : Hid (Below w.heap.size w w2) := Lib.hid (by first | exact (below_drewD ((Below.refl _ w).alloc (Nat.le_refl _) _) 1).trans (hb.mono (by simp)) | exact ((below_drewD ((Below.refl _ w).alloc (Nat.le_refl _) _) 1).alloc (by simp) _).trans (hb.mono (by simp; omega))); (try have hz2 : w.heap.size + 1 < w2.heap.size := by have := hb.size; simp at this; omega); have hk2 : w2.heap[w.heap.size]? = some (Obj.cells #[.int .i64 3, .int .i64 1] 26 (0, 0)) := (by first | exact (hb.block w.heap.size (by simp)).trans (heap_alloc_new w _) | exact (hb.block w.heap.size (by simp; omega)).trans ((heap_alloc_old _ _ (by simp)).trans (heap_alloc_new w _))); have HK2 := Lib.hid hk2; have m0 := cell_of_blk hk2 0 (.int .i64 3) rfl; have m1 := cell_of_blk hk2 1 (.int .i64 1) rfl; have hz1 : w.heap.size < w2.heap.size := (Array.getElem?_eq_some_iff.1 hk2).1; clear hk2; (try have hq2 := (hb.block (w.heap.size + 1) (by simp)).trans HSG.out); clear hsl hb) | (go_at_call 7; (first | (with_reducible refine (CA.out _ _ HSL.out (HR.out.keep HX2.out)).mono ?_) | (with_reducible refine (CA.out _ _ (HSL.out.keep ((Below.refl _ _).alloc (Nat.le_refl _) _)) (HR.out.keep (HX2.out.alloc HX2.out.size _))).mono ?_)); rintro e w3 ⟨rfl, hb⟩; have HB3 := Lib.hid hb; (try have hq := (hb.block w2.heap.size (by simp)).trans (heap_alloc_new w2 (.cells #[.string ⟨#[]⟩, .int .i64 0, .int .i64 0, .int .i64 0, .int .i64 0, .int .u64 0] 29))); (try have hq := (hb.block (w.heap.size + 1) hz2).trans hq2); (try have k0 := cell_of_blk hq 0 (.string ⟨#[]⟩) rfl); (try have f0 := frozen_of_blk hq 0); (try have k1 := cell_of_blk hq 1 (.int .i64 0) rfl); (try have f1 := frozen_of_blk hq 1); (try have k2 := cell_of_blk hq 2 (.int .i64 0) rfl); (try have f2 := frozen_of_blk hq 2); (try have k3 := cell_of_blk hq 3 (.int .i64 0) rfl); (try have f3 := frozen_of_blk hq 3); (try have k4 := cell_of_blk hq 4 (.int .i64 0) rfl); (try have f4 := frozen_of_blk hq 4); (try have k5 := cell_of_blk hq 5 (.int .u64 0) rfl); (try have f5 := frozen_of_blk hq 5); clear hb))
    all_goals (go_wp2_with fail; go_meet)
    all_goals refine ⟨_, rfl, rfl, Lib.hid ?_⟩
    all_goals first
      | ((with_reducible refine headA (w2 := w2) ?_ ?_ ?_); exact HX2.out; exact HK2.out; exact HB3.out)
      | ((with_reducible refine headB ?_ ?_ ?_ ?_); exact (HX2.out.alloc HX2.out.size _).trans (HB3.out.mono (by have := HX2.out.size; simp; omega)); exact (HB3.out.block _ (by simp; omega)).trans ((heap_alloc_old _ _ hz1).trans HK2.out); exact hq; exact hz1)
      | ((with_reducible refine headB ?_ ?_ ?_ ?_); exact HX2.out.trans (HB3.out.mono HX2.out.size); exact (HB3.out.block _ hz1).trans HK2.out; exact hq; exact Nat.lt_succ_self _)
      | trace_state
  case rest =>
    obtain ⟨q, rfl, rfl, HG⟩ := hcut
    go_upto_region 3 with fail
    have hkc := HG.out.ky
    have n0 := cell_of_blk hkc 0 (.int .i64 3) rfl
    have n1 := cell_of_blk hkc 1 (.int .i64 1) rfl
    have hzc := (Array.getElem?_eq_some_iff.1 hkc).1
    have HSG3 : Hid ((wc.alloc (.cells #[.string ⟨#[]⟩, .int .i64 0, .int .i64 0, .int .i64 0, .int .i64 0, .int .u64 0] 29)).drew.heap[wc.heap.size]? = some (Obj.cells #[.string ⟨#[]⟩, .int .i64 0, .int .i64 0, .int .i64 0, .int .i64 0, .int .u64 0] 29 (0, 0))) := Lib.hid (heap_alloc_new wc _)
    clear hkc
    go_cut [4, 5] from 18 to 23 (fun s4 s5 wx => s5 = .int .i64 1 ∧ Hid (HeadG m w q wx))
    case first =>
      go_region_with (first | (go_at_call 9; (with_reducible refine (AY.out _).mono ?_); rintro e w2 ⟨b, rfl, hsl, hb⟩; have HSL := Lib.hid hsl; have HX2 : Hid (Below wc.heap.size wc w2) := Lib.hid (by first | exact (below_drewD (Below.refl _ wc) 1).trans hb | exact (below_drewD ((Below.refl _ wc).alloc (Nat.le_refl _) _) 1).trans (hb.mono (by simp))); have HG2 := Lib.hid (HG.out.keep HX2.out); have m0 := cell_of_blk HG2.out.ky 0 (.int .i64 3) rfl; have m1 := cell_of_blk HG2.out.ky 1 (.int .i64 1) rfl; have hz0 := (Array.getElem?_eq_some_iff.1 HG2.out.ky).1; have hz1 : wc.heap.size ≤ w2.heap.size := HX2.out.size; (try have hz2 : wc.heap.size < w2.heap.size := by have := hb.size; simp at this; omega); (try have hq2 := (hb.block wc.heap.size (by simp)).trans HSG3.out); clear hsl hb) | (go_at_call 7; (first | (with_reducible refine (CY.out _ _ HSL.out (HR.out.keep HG2.out.bel)).mono ?_) | (with_reducible refine (CY.out _ _ (HSL.out.keep ((Below.refl _ _).alloc (Nat.le_refl _) _)) (HR.out.keep (HG2.out.bel.alloc HG2.out.bel.size _))).mono ?_)); rintro e w3 ⟨rfl, hb⟩; have HB3 := Lib.hid hb; (try have hq := (hb.block w2.heap.size (by simp)).trans (heap_alloc_new w2 (.cells #[.string ⟨#[]⟩, .int .i64 0, .int .i64 0, .int .i64 0, .int .i64 0, .int .u64 0] 29))); (try have hq := (hb.block wc.heap.size hz2).trans hq2); (try have k0 := cell_of_blk hq 0 (.string ⟨#[]⟩) rfl); (try have f0 := frozen_of_blk hq 0); (try have k1 := cell_of_blk hq 1 (.int .i64 0) rfl); (try have f1 := frozen_of_blk hq 1); (try have k2 := cell_of_blk hq 2 (.int .i64 0) rfl); (try have f2 := frozen_of_blk hq 2); (try have k3 := cell_of_blk hq 3 (.int .i64 0) rfl); (try have f3 := frozen_of_blk hq 3); (try have k4 := cell_of_blk hq 4 (.int .i64 0) rfl); (try have f4 := frozen_of_blk hq 4); (try have k5 := cell_of_blk hq 5 (.int .u64 0) rfl); (try have f5 := frozen_of_blk hq 5); clear hb))
      all_goals (go_wp2_with fail; go_meet)
      all_goals refine ⟨rfl, Lib.hid ?_⟩
      all_goals first
        | ((with_reducible refine closeA (W := wc) (w2 := w2) ?_ ?_ ?_); exact HG.out; exact HX2.out; exact HB3.out)
        | ((with_reducible refine closeB (W := wc) ?_ ?_ ?_); exact HG.out; (first | exact HX2.out.trans (HB3.out.mono HX2.out.size) | exact (HX2.out.alloc HX2.out.size _).trans (HB3.out.mono (by have := HX2.out.size; simp; omega))); (first | exact Nat.le_refl _ | exact hz1))
        | trace_state
    case rest =>
      obtain ⟨rfl, HG⟩ := hcut
      go_upto_region 4 with fail
      have hkc := HG.out.ky
      have n0 := cell_of_blk hkc 0 (.int .i64 3) rfl
      have n1 := cell_of_blk hkc 1 (.int .i64 1) rfl
      have hzc := (Array.getElem?_eq_some_iff.1 hkc).1
      have HSG3 : Hid ((wc.alloc (.cells #[.string ⟨#[]⟩, .int .i64 0, .int .i64 0, .int .i64 0, .int .i64 0, .int .u64 0] 29)).drew.heap[wc.heap.size]? = some (Obj.cells #[.string ⟨#[]⟩, .int .i64 0, .int .i64 0, .int .i64 0, .int .i64 0, .int .u64 0] 29 (0, 0))) := Lib.hid (heap_alloc_new wc _)
      clear hkc
      go_cut [6, 7] from 24 to 29 (fun s4 s5 wx => s5 = .int .i64 1 ∧ Hid (HeadG m w q wx))
      case first =>
        go_region_with (first | (go_at_call 9; (with_reducible refine (AA.out _).mono ?_); rintro e w2 ⟨b, rfl, hsl, hb⟩; have HSL := Lib.hid hsl; have HX2 : Hid (Below wc.heap.size wc w2) := Lib.hid (by first | exact (below_drewD (Below.refl _ wc) 1).trans hb | exact (below_drewD ((Below.refl _ wc).alloc (Nat.le_refl _) _) 1).trans (hb.mono (by simp))); have HG2 := Lib.hid (HG.out.keep HX2.out); have m0 := cell_of_blk HG2.out.ky 0 (.int .i64 3) rfl; have m1 := cell_of_blk HG2.out.ky 1 (.int .i64 1) rfl; have hz0 := (Array.getElem?_eq_some_iff.1 HG2.out.ky).1; have hz1 : wc.heap.size ≤ w2.heap.size := HX2.out.size; (try have hz2 : wc.heap.size < w2.heap.size := by have := hb.size; simp at this; omega); (try have hq2 := (hb.block wc.heap.size (by simp)).trans HSG3.out); clear hsl hb) | (go_at_call 7; (first | (with_reducible refine (CW.out _ _ HSL.out (HR.out.keep HG2.out.bel)).mono ?_) | (with_reducible refine (CW.out _ _ (HSL.out.keep ((Below.refl _ _).alloc (Nat.le_refl _) _)) (HR.out.keep (HG2.out.bel.alloc HG2.out.bel.size _))).mono ?_)); rintro e w3 ⟨rfl, hb⟩; have HB3 := Lib.hid hb; (try have hq := (hb.block w2.heap.size (by simp)).trans (heap_alloc_new w2 (.cells #[.string ⟨#[]⟩, .int .i64 0, .int .i64 0, .int .i64 0, .int .i64 0, .int .u64 0] 29))); (try have hq := (hb.block wc.heap.size hz2).trans hq2); (try have k0 := cell_of_blk hq 0 (.string ⟨#[]⟩) rfl); (try have f0 := frozen_of_blk hq 0); (try have k1 := cell_of_blk hq 1 (.int .i64 0) rfl); (try have f1 := frozen_of_blk hq 1); (try have k2 := cell_of_blk hq 2 (.int .i64 0) rfl); (try have f2 := frozen_of_blk hq 2); (try have k3 := cell_of_blk hq 3 (.int .i64 0) rfl); (try have f3 := frozen_of_blk hq 3); (try have k4 := cell_of_blk hq 4 (.int .i64 0) rfl); (try have f4 := frozen_of_blk hq 4); (try have k5 := cell_of_blk hq 5 (.int .u64 0) rfl); (try have f5 := frozen_of_blk hq 5); clear hb))
        all_goals (go_wp2_with fail; go_meet)
        all_goals refine ⟨rfl, Lib.hid ?_⟩
        all_goals first
          | ((with_reducible refine closeA (W := wc) (w2 := w2) ?_ ?_ ?_); exact HG.out; exact HX2.out; exact HB3.out)
          | ((with_reducible refine closeB (W := wc) ?_ ?_ ?_); exact HG.out; (first | exact HX2.out.trans (HB3.out.mono HX2.out.size) | exact (HX2.out.alloc HX2.out.size _).trans (HB3.out.mono (by have := HX2.out.size; simp; omega))); (first | exact Nat.le_refl _ | exact hz1))
          | trace_state
      case rest =>
        obtain ⟨rfl, HG⟩ := hcut
        have n0 := cell_of_blk HG.out.ky 0 (.int .i64 3) rfl
        have n1 := cell_of_blk HG.out.ky 1 (.int .i64 1) rfl
        go_upto_region 7 with (first | (go_at_call 10; (with_reducible refine (A0.out _ _ _ _ _ _).mono ?_); rintro e w5 ⟨rfl, hb⟩; have HG5 := Lib.hid ((HG.out.keep ((Below.refl _ wc).alloc (Nat.le_refl _) _)).keep hb); clear hb; have m0 := cell_of_blk HG5.out.ky 0 (.int .i64 3) rfl; have m1 := cell_of_blk HG5.out.ky 1 (.int .i64 1) rfl; have y0 := cell_of_blk HG5.out.sg 0 (.string ⟨#[120]⟩) rfl; have y1 := cell_of_blk HG5.out.sg 1 (.int .i64 3) rfl; have y2 := cell_of_blk HG5.out.sg 2 (.int .i64 1) rfl; have y3 := cell_of_blk HG5.out.sg 3 (.int .i64 10) rfl; have y4 := cell_of_blk HG5.out.sg 4 (.int .i64 20) rfl; have y5 := cell_of_blk HG5.out.sg 5 (.int .u64 m) rfl; have zk := (Array.getElem?_eq_some_iff.1 HG5.out.ky).1; have zq := (Array.getElem?_eq_some_iff.1 HG5.out.sg).1))
        have HG7 := Lib.hid (HG5.out.keep ((Below.refl _ w5).alloc (Nat.le_refl _) (.cells #[.string ⟨#[]⟩, .slice none 0 0] 43)))
        clear n0 n1 m0 m1 y0 y1 y2 y3 y4 y5 zk zq
        generalize w5.alloc _ = W7 at *
        have m0 := cell_of_blk HG7.out.ky 0 (.int .i64 3) rfl
        have m1 := cell_of_blk HG7.out.ky 1 (.int .i64 1) rfl
        have y0 := cell_of_blk HG7.out.sg 0 (.string ⟨#[120]⟩) rfl
        have y1 := cell_of_blk HG7.out.sg 1 (.int .i64 3) rfl
        have y2 := cell_of_blk HG7.out.sg 2 (.int .i64 1) rfl
        have y3 := cell_of_blk HG7.out.sg 3 (.int .i64 10) rfl
        have y4 := cell_of_blk HG7.out.sg 4 (.int .i64 20) rfl
        have y5 := cell_of_blk HG7.out.sg 5 (.int .u64 m) rfl
        go_cut [10] from 76 to 89 (fun s10 wx => s10 = .bool true ∧ Hid (Below w.heap.size w wx))
        case first =>
          go_region_with (first | (go_at_call 9; (with_reducible refine (AA.out _).mono ?_); rintro e w8 ⟨b, rfl, hsl, hb⟩; have HSL := Lib.hid hsl; have HX : Hid (HeadG m w q w8) := Lib.hid (by first | exact HG9.out.keep hb | exact HG7.out.keep ((below_drewD (Below.refl _ W7) 1).trans hb)); clear hsl hb; have m0 := cell_of_blk HX.out.ky 0 (.int .i64 3) rfl; have m1 := cell_of_blk HX.out.ky 1 (.int .i64 1) rfl; have y0 := cell_of_blk HX.out.sg 0 (.string ⟨#[120]⟩) rfl; have y1 := cell_of_blk HX.out.sg 1 (.int .i64 3) rfl; have y2 := cell_of_blk HX.out.sg 2 (.int .i64 1) rfl; have y3 := cell_of_blk HX.out.sg 3 (.int .i64 10) rfl; have y4 := cell_of_blk HX.out.sg 4 (.int .i64 20) rfl; have y5 := cell_of_blk HX.out.sg 5 (.int .u64 m) rfl) | (go_at_call 8; first | ((with_reducible refine (K1.out _ _ HSL.out (HR.out.keep HX.out.bel)).mono ?_); rintro e w9 ⟨rfl, hb⟩; have HG9 := Lib.hid (HX.out.keep hb); clear hb; have m0 := cell_of_blk HG9.out.ky 0 (.int .i64 3) rfl; have m1 := cell_of_blk HG9.out.ky 1 (.int .i64 1) rfl; have y0 := cell_of_blk HG9.out.sg 0 (.string ⟨#[120]⟩) rfl; have y1 := cell_of_blk HG9.out.sg 1 (.int .i64 3) rfl; have y2 := cell_of_blk HG9.out.sg 2 (.int .i64 1) rfl; have y3 := cell_of_blk HG9.out.sg 3 (.int .i64 10) rfl; have y4 := cell_of_blk HG9.out.sg 4 (.int .i64 20) rfl; have y5 := cell_of_blk HG9.out.sg 5 (.int .u64 m) rfl) | ((with_reducible refine (K2.out _ _ HSL.out (HR.out.keep HX.out.bel)).mono ?_); rintro e w10 ⟨rfl, hb⟩; have HG10 := Lib.hid (HX.out.keep hb); clear hb)))
          all_goals (go_wp2_with fail; go_meet)
          all_goals exact ⟨rfl, Lib.hid HG10.out.bel⟩
        case rest =>
          obtain ⟨rfl, HE⟩ := hcut
          go_wp2_with (go_at_call 11; first | ((with_reducible refine (D0.out _).mono ?_); rintro e w6 ⟨rfl, hb6⟩; have HE6 := Lib.hid (HE.out.trans (hb6.mono HE.out.size)); clear hb6) | ((with_reducible refine (D1.out _).mono ?_); rintro e w7 ⟨rfl, hb7⟩; have HE7 := Lib.hid ((HE6.out.alloc HE6.out.size _).trans (hb7.mono (Nat.le_succ_of_le HE6.out.size))); clear hb7))
          go_ret
          exact ⟨rfl, HE7.out⟩
end Go.Proofs.YtpkjpogkimjpoaaGreatDoor
