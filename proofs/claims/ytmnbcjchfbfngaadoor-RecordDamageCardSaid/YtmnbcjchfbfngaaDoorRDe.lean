/- RecordDamage of layer 2, walked; no condition beyond those that each theorem names. -/
import Derived.Test.YtmnbcjchfbfngaaDoorRG
import Derived.Deep.CutRange
import Derived.BigRegion
import Derived.Deep.RegionHeld3
import Derived.Deep.RegionLaw
import Derived.IntWalk
import Derived.Laws.AppendOwn
namespace Go.Proofs.YtmnbcjchfbfngaaDoor
set_option linter.unusedSimpArgs false
set_option linter.unusedVariables false
open Go.RowKit
open NmP

set_option maxHeartbeats 16000000 in
set_option maxRecDepth 100000 in
theorem rdm_4 (x : ByteArray) (typ life : Int) (b off cp : Nat) (l : List Dt) (wq hq : Int) (w : World) (hs : St.In ⟨x, typ, life, .slice (some ⟨b, off, none⟩) l.length cp, l⟩ w) (hrd : b < w.heap.size ∧ RD b off l w) (hr : RulesAt w) (hw0 : 0 ≤ wq ∧ wq < 256) (hh0 : 0 ≤ hq ∧ hq < 256) (hm1 : hq.tmod 5 = 4) (hkf : fewB ⟨x, typ, life, .slice (some ⟨b, off, none⟩) l.length cp, l⟩ = true) (hks : setB x.toList typ life l = true) :
    Calls Tryd.prog 6 #[.agg #[.string x, .int .i64 typ, .int .i64 life, .slice (some ⟨b, off, none⟩) l.length cp], .int .u8 wq, .int .u8 hq] w (ToB true w) := by
  have hlen := setB_facts hks
  have hl1 : 1 ≤ l.length := hlen.2.2.2.2.2.1
  have hl8 : l.length ≤ 8 := hlen.2.2.2.2.2.2.1
  have CH := Lib.hid (fun W (h : RulesAt W) => head_any W h)
  have CF := Lib.hid (fun W => few_new ⟨x, typ, life, .slice (some ⟨b, off, none⟩) l.length cp, l⟩ (some ⟨b, off, none⟩) cp W rfl)
  have CV := Lib.hid (fun W (hb : Below w.heap.size w W) => rvset_any x typ life (.slice (some ⟨b, off, none⟩) l.length cp) l W hs.hx (by unfold maxLen; omega) hs.hs (hs.hA.keep hb))
  rw [hkf] at CF
  rw [hks] at CV
  unfold ToB at CV
  have CB := Lib.hid (fun v l' W (h1 : setB x.toList typ life l' = false) (h2 : ∀ d ∈ l', d.1.size ≤ maxLen) (h3 : SlD v l' W) (h4 : RulesAt W) => bytes_bad x typ life v l' W h1 hs.hx h2 h3 h4)
  have CW := Lib.hid (fun v l' W (h1 : setB x.toList typ life l' = false) (h2 : ∀ d ∈ l', d.1.size ≤ maxLen) (h3 : SlD v l' W) (h4 : RulesAt W) => (by have q := valid_set x typ life v l' W hs.hx h2 h3 h4; rw [h1] at q; exact q : Calls Tryd.prog 13 #[.agg #[.string x, .int .i64 typ, .int .i64 life, v]] W fun e w' => e = .returned (.bool false) ∧ Below W.heap.size W w'))
  obtain ⟨i, hi1, hi2⟩ : ∃ i : Nat, i < l.length ∧ wq.tmod (l.length : Int) = (i : Int) := by
    obtain ⟨H, rfl⟩ := Int.eq_ofNat_of_zero_le hw0.1
    exact ⟨H % l.length, Nat.mod_lt _ (by omega), by rw [Int.tmod_eq_emod_of_nonneg (by omega)]; rfl⟩
  obtain ⟨d, hd⟩ : ∃ d, l[i]? = some d := ⟨_, List.getElem?_eq_getElem hi1⟩
  have HS := Lib.hid hs
  have HR := Lib.hid hr
  have HRD := Lib.hid hrd
  have HK := Lib.hid hks
  have HD := Lib.hid hd
  have I2 := Lib.hid hi2
  have M1 := Lib.hid hm1
  have HE := Lib.hid hlen
  have AB0 := Lib.hid (rbox w x typ life (.slice (some ⟨b, off, none⟩) l.length cp))
  clear hs hr hrd hks hkf hd hi2 hm1 hlen
  go_enter Tryd.func6, Tryd.ntmps6
  go_upto_region 5 with (first | (go_at_call 7; (with_reducible refine (CH.out _ (HR.out.keep AB0.out.bel)).mono ?_); rintro e w1 ⟨rfl, hb⟩; have AB1 := Lib.hid (AB0.out.keep hb); clear hb; have c0 := cell_of_blk AB1.out.sx 0 (.string x) rfl; have c1 := cell_of_blk AB1.out.sx 1 (.int .i64 typ) rfl; have c2 := cell_of_blk AB1.out.sx 2 (.int .i64 life) rfl; have c3 := cell_of_blk AB1.out.sx 3 (.slice (some ⟨b, off, none⟩) l.length cp) rfl) | (go_at_call 8; (with_reducible refine (CF.out _).mono ?_); rintro e w2 ⟨rfl, hb⟩; have AB2 := Lib.hid (AB1.out.keep hb); clear hb c0 c1 c2 c3; have c0 := cell_of_blk AB2.out.sx 0 (.string x) rfl; have c1 := cell_of_blk AB2.out.sx 1 (.int .i64 typ) rfl; have c2 := cell_of_blk AB2.out.sx 2 (.int .i64 life) rfl; have c3 := cell_of_blk AB2.out.sx 3 (.slice (some ⟨b, off, none⟩) l.length cp) rfl) | (go_at_call 14; (with_reducible refine (CV.out _ AB2.out.bel).mono ?_); rintro e w3 ⟨rfl, hb⟩; have AB3 := Lib.hid (AB2.out.keep hb); clear hb c0 c1 c2 c3; have c0 := cell_of_blk AB3.out.sx 0 (.string x) rfl; have c1 := cell_of_blk AB3.out.sx 1 (.int .i64 typ) rfl; have c2 := cell_of_blk AB3.out.sx 2 (.int .i64 life) rfl; have c3 := cell_of_blk AB3.out.sx 3 (.slice (some ⟨b, off, none⟩) l.length cp) rfl))
  have AB4 := Lib.hid (AB3.out.keep (bnew w3 (.cells #[.string x, .int .i64 typ, .int .i64 life, (.slice (some ⟨b, off, none⟩) l.length cp)] 24)))
  have O4 : Hid ((w3.alloc (.cells #[.string x, .int .i64 typ, .int .i64 life, (.slice (some ⟨b, off, none⟩) l.length cp)] 24)).heap[w3.heap.size]? = some (Obj.cells #[.string x, .int .i64 typ, .int .i64 life, (.slice (some ⟨b, off, none⟩) l.length cp)] 24 (0, 0))) := Lib.hid (heap_alloc_new w3 _)
  obtain ⟨o, ho⟩ : ∃ o, w3.heap.size = o := ⟨_, rfl⟩
  have HO : Hid (w.heap.size < o) := Lib.hid (by rw [← ho]; exact (Array.getElem?_eq_some_iff.1 AB3.out.sx).1)
  rw [ho] at O4 ⊢
  clear c0 c1 c2 c3
  generalize w3.alloc _ = W4 at *
  clear ho AB0 AB1 AB2 AB3
  have c0 := cell_of_blk AB4.out.sx 0 (.string x) rfl
  have c1 := cell_of_blk AB4.out.sx 1 (.int .i64 typ) rfl
  have c2 := cell_of_blk AB4.out.sx 2 (.int .i64 life) rfl
  have c3 := cell_of_blk AB4.out.sx 3 (.slice (some ⟨b, off, none⟩) l.length cp) rfl
  have o0 := cell_of_blk O4.out 0 (.string x) rfl
  have o1 := cell_of_blk O4.out 1 (.int .i64 typ) rfl
  have o2 := cell_of_blk O4.out 2 (.int .i64 life) rfl
  have o3 := cell_of_blk O4.out 3 (.slice (some ⟨b, off, none⟩) l.length cp) rfl
  have of0 := frozen_of_blk O4.out 0
  have of1 := frozen_of_blk O4.out 1
  have of2 := frozen_of_blk O4.out 2
  have of3 := frozen_of_blk O4.out 3
  have z3 := (Array.getElem?_eq_some_iff.1 O4.out).1
  have z0 := (Array.getElem?_eq_some_iff.1 AB4.out.sx).1
  have HAP : Hid (∀ j u, (rowD l)[j]? = some u → (W4.alloc (.cells #[] 48)).cell? ((⟨b, off, none⟩ : Addr).add j) = some u) := Lib.hid (fun j u hj => by
    rw [Go.WideShapes.add_plain]
    exact (HRD.out.2.keep HRD.out.1 (AB4.out.bel.mono (Nat.le_refl _))).keep (Nat.lt_of_lt_of_le HRD.out.1 AB4.out.bel.size) (bnew W4 _) j u hj)
  obtain ⟨i0, hi0, hz0, hz1, hz2⟩ := info_parts infoDD
  have HI := Lib.hid hi0
  have HZ0 := Lib.hid hz0
  have HZ1 := Lib.hid hz1
  have HZ2 := Lib.hid hz2
  clear hi0 hz0 hz1 hz2
  go_upto_region 6 with (at_builtin; refine wpList_append_own _ rfl (.tmp 25) (.tmp 27) 22 rfl (o + 1) 48 i0 zDD 3 32 Tryd.underlying22 HI.out HZ0.out HZ1.out HZ2.out rfl (by decide) (.slice (some ⟨W4.heap.size, 0, none⟩) 0 0) 0 [] rfl (World.ownsRow_made W4 #[] 0 (by omega) (by decide) rfl) ⟨b, off, none⟩ l.length cp (rowD l) rfl (by rw [rowD_len]; omega) HAP.out (rowD_one l) (by unfold maxLen; omega) (by omega) (by simp; omega) ?_; intro v' w7 hown hgrow hiff; clear hiff; rw [Nat.zero_add, List.nil_append] at hown; obtain ⟨g, cap, cur, rfl, hg1, hg2, hg3, hg4⟩ := own_data hown hl1; have OW := Lib.hid hown; have G3 := Lib.hid hg3; have G4 := Lib.hid hg4; clear hown hg3 hg4; have hB7 : Below W4.heap.size W4 w7 := ⟨hgrow.os, hgrow.tape, hgrow.output, Nat.le_trans (by simp) hgrow.size, fun k hk => (hgrow.block k (by simp; omega) (by simp [Value.ownBlock]; omega)).trans (heap_alloc_old _ _ hk)⟩; have O7 := Lib.hid ((hB7.block o z3).trans O4.out); have AB7 := Lib.hid (AB4.out.keep hB7); clear hB7 hgrow c0 c1 c2 c3 o0 o1 o2 o3 of0 of1 of2 of3 z0; have z0 := (Array.getElem?_eq_some_iff.1 AB7.out.sx).1; have c0 := cell_of_blk AB7.out.sx 0 (.string x) rfl; have c1 := cell_of_blk AB7.out.sx 1 (.int .i64 typ) rfl; have c2 := cell_of_blk AB7.out.sx 2 (.int .i64 life) rfl; have c3 := cell_of_blk AB7.out.sx 3 (.slice (some ⟨b, off, none⟩) l.length cp) rfl; have o0 := cell_of_blk O7.out 0 (.string x) rfl; have o1 := cell_of_blk O7.out 1 (.int .i64 typ) rfl; have o2 := cell_of_blk O7.out 2 (.int .i64 life) rfl; have o3 := cell_of_blk O7.out 3 (.slice (some ⟨b, off, none⟩) l.length cp) rfl; have of0 := frozen_of_blk O7.out 0; have of1 := frozen_of_blk O7.out 1; have of2 := frozen_of_blk O7.out 2; have of3 := frozen_of_blk O7.out 3)
  have O8 := Lib.hid (heap_setCell_same w7 o 3 _ _ (.slice (some ⟨g, 0, none⟩) l.length cap) O7.out)
  have G8 := Lib.hid ((heap_setCell_other w7 ⟨o, 3, none⟩ g (.slice (some ⟨g, 0, none⟩) l.length cap) (by simp; omega)).trans G3.out)
  have OW8 := Lib.hid (own1 (j := 3) OW.out (Nat.lt_succ_self o) (.slice (some ⟨g, 0, none⟩) l.length cap))
  have AB8 : Hid (RBx w (w7.setCell ⟨o, 3, none⟩ (.slice (some ⟨g, 0, none⟩) l.length cap)) x typ life (.slice (some ⟨b, off, none⟩) l.length cp)) := Lib.hid ⟨AB7.out.bel.setCell (p := ⟨o, 3, none⟩) (Nat.le_of_lt HO.out) _, (heap_setCell_other w7 ⟨o, 3, none⟩ _ _ (Nat.ne_of_lt HO.out)).trans AB7.out.sx⟩
  clear c0 c1 c2 c3 o0 o1 o2 o3 of0 of1 of2 of3 z0 z3 O7 G3 OW AB7 AB4 O4 HAP
  generalize World.setCell w7 _ _ = W8 at *
  have c0 := cell_of_blk AB8.out.sx 0 (.string x) rfl
  have c1 := cell_of_blk AB8.out.sx 1 (.int .i64 typ) rfl
  have c2 := cell_of_blk AB8.out.sx 2 (.int .i64 life) rfl
  have c3 := cell_of_blk AB8.out.sx 3 (.slice (some ⟨b, off, none⟩) l.length cp) rfl
  have o0 := cell_of_blk O8.out 0 (.string x) rfl
  have o1 := cell_of_blk O8.out 1 (.int .i64 typ) rfl
  have o2 := cell_of_blk O8.out 2 (.int .i64 life) rfl
  have o3 := cell_of_blk O8.out 3 (.slice (some ⟨g, 0, none⟩) l.length cap) rfl
  have z3 := (Array.getElem?_eq_some_iff.1 O8.out).1
  have z0 := (Array.getElem?_eq_some_iff.1 AB8.out.sx).1
  have z4 := (Array.getElem?_eq_some_iff.1 G8.out).1
  have l0 : ¬ ((l.length : Int) = 0) := by omega
  have l1 : ((l.length : Int) = 0) = False := eq_false l0
  have t0 := I2.out
  have b0 : (0 : Int) ≤ (i : Int) := by omega
  have b1 : (i : Int) < (l.length : Int) := by omega
  have v1 : IntKind.i64.wrap wq = wq := IntWalk.i64_in _ (by omega)
  have v3 : IntKind.i64.wrap (l.length : Int) = (l.length : Int) := IntWalk.i64_in _ (by omega)
  have v4 : IntKind.i64.wrap (i : Int) = (i : Int) := IntWalk.i64_in _ (by omega)
  go_upto_region 8 with fail
  have GG : Hid (OwnG W8 g l) := Lib.hid ⟨cur, G8.out, G4.out⟩
  have t1 := M1.out
  have hgo : w.heap.size ≠ g := by have := HO.out; omega
  have hgo3 : o ≠ g := by omega
  have NE0 := Lib.hid hgo
  have NE3 := Lib.hid hgo3
  obtain ⟨gc0, gc1, gc2, gfz⟩ := GG.out.cell HD.out
  have gf0 := gfz (i * 3)
  have gf1 := gfz (i * 3 + 1)
  have gf2 := gfz (i * 3 + 2)
  clear gfz hgo hgo3
  have h61 : ¬ 9223372036854775807 < d.1.size + 1 := by have := (okD_facts (HE.out.2.2.2.2.2.2.2 d (List.mem_of_getElem? HD.out))).1; omega
  go_upto_region 20 with fail
  have SD9 : Hid (SlD (.slice (some ⟨g, 0, none⟩) l.length cap) (l.set i ((d.1 ++ ⟨#[95]⟩), d.2.1, d.2.2)) (W8.setCell ⟨g, i * 3, none⟩ (.string (d.1 ++ ⟨#[95]⟩)))) := Lib.hid ((GG.out.set (f := 0) (d' := ((d.1 ++ ⟨#[95]⟩), d.2.1, d.2.2)) HD.out (by omega) rfl).sl l.length cap (by rw [List.length_set]))
  have O9 : Hid ((W8.setCell ⟨g, i * 3, none⟩ (.string (d.1 ++ ⟨#[95]⟩))).heap[o]? = _) := Lib.hid ((heap_setCell_other W8 ⟨g, i * 3, none⟩ o (.string (d.1 ++ ⟨#[95]⟩)) NE3.out).trans O8.out)
  have AB9 : Hid (RBx w (W8.setCell ⟨g, i * 3, none⟩ (.string (d.1 ++ ⟨#[95]⟩))) x typ life (.slice (some ⟨b, off, none⟩) l.length cp)) := Lib.hid ⟨AB8.out.bel.setCell (p := ⟨g, i * 3, none⟩) (by have := HO.out; simp only; omega) _, (heap_setCell_other W8 ⟨g, i * 3, none⟩ _ (.string (d.1 ++ ⟨#[95]⟩)) NE0.out).trans AB8.out.sx⟩
  have BAD : Hid (setB x.toList typ life (l.set i ((d.1 ++ ⟨#[95]⟩), d.2.1, d.2.2)) = false) := Lib.hid (bad_datum (List.mem_set (List.getElem?_eq_some_iff.1 HD.out).1 _) (bad_text (by rw [tl]; show (95 : UInt8) ∈ (d.1 ++ ⟨#[95]⟩).data.toList; simp)))
  have SZ : Hid (∀ e ∈ l.set i ((d.1 ++ ⟨#[95]⟩), d.2.1, d.2.2), e.1.size ≤ maxLen) := Lib.hid (fun e he => by
    rcases List.mem_or_eq_of_mem_set he with h | h
    · exact HS.out.hs e h
    · subst h; have h60 := (okD_facts (HE.out.2.2.2.2.2.2.2 d (List.mem_of_getElem? HD.out))).1; show (d.1 ++ ⟨#[95]⟩).size ≤ maxLen; rw [ByteArray.size_append]; show d.1.size + 1 ≤ maxLen; unfold maxLen; omega)
  clear c0 c1 c2 c3 o0 o1 o2 o3 z0 z3 z4 l0 l1 t0 b0 b1 v1 v3 v4 t1 gc0 gc1 gc2 gf0 gf1 gf2
  generalize World.setCell W8 _ _ = W9 at *
  have o0 := cell_of_blk O9.out 0 (.string x) rfl
  have o1 := cell_of_blk O9.out 1 (.int .i64 typ) rfl
  have o2 := cell_of_blk O9.out 2 (.int .i64 life) rfl
  have o3 := cell_of_blk O9.out 3 (.slice (some ⟨g, 0, none⟩) l.length cap) rfl
  have z3 := (Array.getElem?_eq_some_iff.1 O9.out).1
  go_wp2_with (first | (go_at_call 16; (with_reducible refine (CB.out _ (l.set i ((d.1 ++ ⟨#[95]⟩), d.2.1, d.2.2)) _ BAD.out SZ.out SD9.out (HR.out.keep AB9.out.bel)).mono ?_); rintro e w10 ⟨rfl, hb⟩; have AB10 := Lib.hid (AB9.out.keep hb); have O10 := Lib.hid ((hb.block o z3).trans O9.out); have SD10 := Lib.hid (SD9.out.keep hb); clear hb o0 o1 o2 o3; have o0 := cell_of_blk O10.out 0 (.string x) rfl; have o1 := cell_of_blk O10.out 1 (.int .i64 typ) rfl; have o2 := cell_of_blk O10.out 2 (.int .i64 life) rfl; have o3 := cell_of_blk O10.out 3 (.slice (some ⟨g, 0, none⟩) l.length cap) rfl) | (go_at_call 13; (with_reducible refine (CW.out _ (l.set i ((d.1 ++ ⟨#[95]⟩), d.2.1, d.2.2)) _ BAD.out SZ.out SD10.out (HR.out.keep AB10.out.bel)).mono ?_); rintro e w11 ⟨rfl, hb⟩; have AB11 := Lib.hid (AB10.out.keep hb); clear hb))
  go_ret
  exact ⟨rfl, AB11.out.bel⟩
end Go.Proofs.YtmnbcjchfbfngaaDoor
