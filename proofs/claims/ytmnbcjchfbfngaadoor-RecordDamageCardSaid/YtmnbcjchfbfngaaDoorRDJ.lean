/- RecordDamage of layer 2, walked; no condition beyond those that each theorem names. -/
import Derived.Test.YtmnbcjchfbfngaaDoorRDa
import Derived.Test.YtmnbcjchfbfngaaDoorRDb
import Derived.Test.YtmnbcjchfbfngaaDoorRDc
import Derived.Test.YtmnbcjchfbfngaaDoorRDd
import Derived.Test.YtmnbcjchfbfngaaDoorRDe
import Derived.Deep.CutRange
import Derived.BigRegion
import Derived.Deep.RegionHeld3
import Derived.Deep.RegionLaw
import Derived.IntWalk
import Derived.Laws.AppendOwn
namespace Go.Proofs.YtmnbcjchfbfngaaDoor
set_option linter.unusedSimpArgs false
set_option linter.unusedVariables false
open Go.RowKit
open NmP

set_option maxHeartbeats 4000000 in
set_option maxRecDepth 100000 in
theorem rdm_no (x : ByteArray) (typ life : Int) (p : Option Addr) (cp : Nat) (l : List Dt) (wq hq : Int) (w : World) (hs : St.In ⟨x, typ, life, .slice p l.length cp, l⟩ w) (hr : RulesAt w) (hn : l.length ≤ maxLen) (hk : (fewB ⟨x, typ, life, .slice p l.length cp, l⟩ && setB x.toList typ life l) = false) :
    Calls Tryd.prog 6 #[.agg #[.string x, .int .i64 typ, .int .i64 life, .slice p l.length cp], .int .u8 wq, .int .u8 hq] w (ToB true w) := by
  have CH := Lib.hid (fun W (h : RulesAt W) => head_any W h)
  have CF := Lib.hid (fun W => few_new ⟨x, typ, life, .slice p l.length cp, l⟩ p cp W rfl)
  have CV := Lib.hid (fun W (hb : Below w.heap.size w W) => rvset_any x typ life (.slice p l.length cp) l W hs.hx hn hs.hs (hs.hA.keep hb))
  have HR := Lib.hid hr
  have AB0 := Lib.hid (rbox w x typ life (.slice p l.length cp))
  clear hs hr hn
  generalize fewB ⟨x, typ, life, .slice p l.length cp, l⟩ = kf at *
  generalize setB x.toList typ life l = ks at *
  unfold ToB at CV
  cases kf
  · go_enter Tryd.func6, Tryd.ntmps6
    go_wp2_with (first | (go_at_call 7; (with_reducible refine (CH.out _ (HR.out.keep AB0.out.bel)).mono ?_); rintro e w1 ⟨rfl, hb⟩; have AB1 := Lib.hid (AB0.out.keep hb); clear hb; have c0 := cell_of_blk AB1.out.sx 0 (.string x) rfl; have c1 := cell_of_blk AB1.out.sx 1 (.int .i64 typ) rfl; have c2 := cell_of_blk AB1.out.sx 2 (.int .i64 life) rfl; have c3 := cell_of_blk AB1.out.sx 3 (.slice p l.length cp) rfl) | (go_at_call 8; (with_reducible refine (CF.out _).mono ?_); rintro e w2 ⟨rfl, hb⟩; have AB2 := Lib.hid (AB1.out.keep hb); clear hb c0 c1 c2 c3; have c0 := cell_of_blk AB2.out.sx 0 (.string x) rfl; have c1 := cell_of_blk AB2.out.sx 1 (.int .i64 typ) rfl; have c2 := cell_of_blk AB2.out.sx 2 (.int .i64 life) rfl; have c3 := cell_of_blk AB2.out.sx 3 (.slice p l.length cp) rfl))
    go_ret
    exact ⟨rfl, AB2.out.bel⟩
  · obtain rfl : ks = false := by simpa using hk
    go_enter Tryd.func6, Tryd.ntmps6
    go_wp2_with (first | (go_at_call 7; (with_reducible refine (CH.out _ (HR.out.keep AB0.out.bel)).mono ?_); rintro e w1 ⟨rfl, hb⟩; have AB1 := Lib.hid (AB0.out.keep hb); clear hb; have c0 := cell_of_blk AB1.out.sx 0 (.string x) rfl; have c1 := cell_of_blk AB1.out.sx 1 (.int .i64 typ) rfl; have c2 := cell_of_blk AB1.out.sx 2 (.int .i64 life) rfl; have c3 := cell_of_blk AB1.out.sx 3 (.slice p l.length cp) rfl) | (go_at_call 8; (with_reducible refine (CF.out _).mono ?_); rintro e w2 ⟨rfl, hb⟩; have AB2 := Lib.hid (AB1.out.keep hb); clear hb c0 c1 c2 c3; have c0 := cell_of_blk AB2.out.sx 0 (.string x) rfl; have c1 := cell_of_blk AB2.out.sx 1 (.int .i64 typ) rfl; have c2 := cell_of_blk AB2.out.sx 2 (.int .i64 life) rfl; have c3 := cell_of_blk AB2.out.sx 3 (.slice p l.length cp) rfl) | (go_at_call 14; (with_reducible refine (CV.out _ AB2.out.bel).mono ?_); rintro e w3 ⟨rfl, hb⟩; have AB3 := Lib.hid (AB2.out.keep hb); clear hb c0 c1 c2 c3; have c0 := cell_of_blk AB3.out.sx 0 (.string x) rfl; have c1 := cell_of_blk AB3.out.sx 1 (.int .i64 typ) rfl; have c2 := cell_of_blk AB3.out.sx 2 (.int .i64 life) rfl; have c3 := cell_of_blk AB3.out.sx 3 (.slice p l.length cp) rfl))
    go_ret
    exact ⟨rfl, AB3.out.bel⟩

theorem rdm_any (s : St) (wq hq : Int) (w : World) (hs : s.In w) (hr : RulesAt w) (hn : s.l.length ≤ maxLen) (hw0 : 0 ≤ wq ∧ wq < 256) (hh0 : 0 ≤ hq ∧ hq < 256) :
    Calls Tryd.prog 6 #[.agg #[.string s.x, .int .i64 s.typ, .int .i64 s.life, s.v], .int .u8 wq, .int .u8 hq] w (ToB true w) := by
  obtain ⟨x, typ, life, v, l⟩ := s
  obtain ⟨p, cp, hv⟩ := hs.hA.form
  simp only at hv
  subst hv
  cases hk : (fewB ⟨x, typ, life, .slice p l.length cp, l⟩ && setB x.toList typ life l)
  · exact rdm_no x typ life p cp l wq hq w hs hr hn hk
  · rw [Bool.and_eq_true] at hk
    have hl1 : 1 ≤ l.length := (setB_facts hk.2).2.2.2.2.2.1
    obtain ⟨b, off, rfl, h1, h2⟩ := hs.hA.at_ hl1
    have hm : hq.tmod 5 = 0 ∨ hq.tmod 5 = 1 ∨ hq.tmod 5 = 2 ∨ hq.tmod 5 = 3 ∨ hq.tmod 5 = 4 := by
      obtain ⟨H, rfl⟩ := Int.eq_ofNat_of_zero_le hh0.1
      rw [Int.tmod_eq_emod_of_nonneg (by omega)]
      omega
    rcases hm with hm | hm | hm | hm | hm
    · exact rdm_0 x typ life b off cp l wq hq w hs ⟨h1, h2⟩ hr hw0 hh0 hm hk.1 hk.2
    · exact rdm_1 x typ life b off cp l wq hq w hs ⟨h1, h2⟩ hr hw0 hh0 hm hk.1 hk.2
    · exact rdm_2 x typ life b off cp l wq hq w hs ⟨h1, h2⟩ hr hw0 hh0 hm hk.1 hk.2
    · exact rdm_3 x typ life b off cp l wq hq w hs ⟨h1, h2⟩ hr hw0 hh0 hm hk.1 hk.2
    · exact rdm_4 x typ life b off cp l wq hq w hs ⟨h1, h2⟩ hr hw0 hh0 hm hk.1 hk.2
end Go.Proofs.YtmnbcjchfbfngaaDoor
