/- RecordBytes of layer 2, walked; no condition beyond those that each theorem names. -/
import Derived.Test.YtmnbcjchfbfngaaDoorYA
import Derived.Deep.CutRange
import Derived.BigRegion
import Derived.IntWalk
import Derived.Laws.AppendOwn
import Derived.Laws.AppendOwnNone
namespace Go.Proofs.YtmnbcjchfbfngaaDoor
set_option linter.unusedSimpArgs false
set_option linter.unusedVariables false
open Go.RowKit
open NmP

set_option maxHeartbeats 8000000 in
set_option maxRecDepth 100000 in
theorem rby_yes (x : ByteArray) (typ life : Int) (b off cp : Nat) (l : List Dt) (cq : Int) (pm px : Option Addr) (cm cx nm nx : Nat) (bm bx : Bs) (w : World) (hs : St.In ⟨x, typ, life, .slice (some ⟨b, off, none⟩) l.length cp, l⟩ w) (hrd : b < w.heap.size ∧ RD b off l w) (hr : RulesAt w) (hm : SlB w.heap.size (.slice pm nm cm) bm w) (hx : SlB w.heap.size (.slice px nx cx) bx w) (hnm : bm.length = nm) (hnx : bx.length = nx) (h100 : nm ≤ 100) (h2000 : nx ≤ 2000) (hc : 0 ≤ cq ∧ cq < 65536) (hkf : fewB ⟨x, typ, life, .slice (some ⟨b, off, none⟩) l.length cp, l⟩ = true) (hks : setB x.toList typ life l = true) (hpm : pm = none → nm = 0 ∧ cm = 0) :
    Calls Tryd.prog 4 #[.agg #[.string x, .int .i64 typ, .int .i64 life, .slice (some ⟨b, off, none⟩) l.length cp], .int .u16 cq, .slice pm nm cm, .slice px nx cx] w (ToB true w) := by
  have hlen := setB_facts hks
  have hl8 : l.length ≤ 8 := hlen.2.2.2.2.2.2.1
  have hbl := bytesOf_len hks
  have CF := Lib.hid (fun W => few_new ⟨x, typ, life, .slice (some ⟨b, off, none⟩) l.length cp, l⟩ (some ⟨b, off, none⟩) cp W rfl)
  have CV := Lib.hid (fun W (hb : Below w.heap.size w W) => rvset_any x typ life (.slice (some ⟨b, off, none⟩) l.length cp) l W hs.hx (by unfold maxLen; omega) hs.hs (hs.hA.keep hb))
  rw [hkf] at CF
  rw [hks] at CV
  unfold ToB at CV
  have CB := Lib.hid (fun v W (hd : SlD v l W) (h : RulesAt W) => bytes_of x typ life v l W hks hs.hx hs.hs hd h)
  have CR1 := Lib.hid (fun v W hv h => read_set x typ life l v W hks hv h)
  have CR2 := Lib.hid (fun k v W hk hv h => read_cut x typ life l k v W hks hk hv h)
  have CR3 := Lib.hid (fun v W hv h => read_more x typ life l bm v W hks (by omega) hv h)
  have CS := Lib.hid (fun p c W (h1 : SlD (.slice p l.length c) l W) (h2 : SlD (.slice (some ⟨b, off, none⟩) l.length cp) l W) => (by have q := rsame_any ⟨x, typ, life, .slice p l.length c, l⟩ ⟨x, typ, life, .slice (some ⟨b, off, none⟩) l.length cp, l⟩ W ⟨hs.hx, hs.hs, h1⟩ ⟨hs.hx, hs.hs, h2⟩ (show l.length ≤ maxLen by unfold maxLen; omega); rw [show sameB ⟨x, typ, life, .slice p l.length c, l⟩ ⟨x, typ, life, .slice (some ⟨b, off, none⟩) l.length cp, l⟩ = true by simp [sameB]] at q; exact q : Calls Tryd.prog 21 #[.agg #[.string x, .int .i64 typ, .int .i64 life, .slice p l.length c], .agg #[.string x, .int .i64 typ, .int .i64 life, (.slice (some ⟨b, off, none⟩) l.length cp)]] W (fun e w' => e = .returned (.bool true) ∧ Below W.heap.size W w')))
  rw [hnm] at CR3
  generalize bytesOf x typ life l = bb at *
  obtain ⟨nb, hnb⟩ : ∃ n, bb.length = n := ⟨_, rfl⟩
  simp only [hnb] at CB CR2 hbl
  have HNB := Lib.hid hnb
  clear hnb
  have CH := Lib.hid (fun W (h : RulesAt W) => head_any W h)
  have CX := Lib.hid (fun W (hb : Below w.heap.size w W) => read_f bx _ W (hx.keepB hb) (by omega) (hr.keep hb))
  have CXB := Lib.hid (fun (h : readOk bx = true) X T F v W (e1 : X = rdX (bx, false)) (e2 : T = rdTyp (bx, false)) (e3 : F = rdLife (bx, false)) (hd : SlD v (rdD (bx, false)) W) (hr' : RulesAt W) => (by subst e1 e2 e3; have q := bytes_of (rdX (bx, false)) (rdTyp (bx, false)) (rdLife (bx, false)) v (rdD (bx, false)) W (read_back h).1 (by have := rdX_size (bx, false); unfold maxLen; omega) (fun d hd => by have := datL_size _ _ d hd; unfold maxLen; omega) hd hr'; rw [(read_back h).2, hnx] at q; exact q : Calls Tryd.prog 16 #[.agg #[.string X, .int .i64 T, .int .i64 F, v]] W fun e w' => ∃ g c, e = .returned (.tuple #[.slice (some ⟨g, 0, none⟩) nx c, .int .i64 0]) ∧ nx ≤ c ∧ SlB w'.heap.size (.slice (some ⟨g, 0, none⟩) nx c) bx w' ∧ Below W.heap.size W w'))
  have CXV := Lib.hid (fun (h : readOk bx = true) X T F v W (e1 : X = rdX (bx, false)) (e2 : T = rdTyp (bx, false)) (e3 : F = rdLife (bx, false)) (hd : SlD v (rdD (bx, false)) W) (hr' : RulesAt W) => (by subst e1 e2 e3; have q := valid_set (rdX (bx, false)) (rdTyp (bx, false)) (rdLife (bx, false)) v (rdD (bx, false)) W (by have := rdX_size (bx, false); unfold maxLen; omega) (fun d hd => by have := datL_size _ _ d hd; unfold maxLen; omega) hd hr'; rw [(read_back h).1] at q; exact q : Calls Tryd.prog 13 #[.agg #[.string X, .int .i64 T, .int .i64 F, v]] W fun e w' => e = .returned (.bool true) ∧ Below W.heap.size W w'))
  have HR := Lib.hid hr
  have HX := Lib.hid hx
  have HNX := Lib.hid hnx
  have AB0 := Lib.hid (rbox w x typ life (.slice (some ⟨b, off, none⟩) l.length cp))
  have q0 : ¬ (100 : Int) < (nm : Int) := by omega
  have q1 : ¬ (2000 : Int) < (nx : Int) := by omega
  have HS := Lib.hid hs
  have HRD := Lib.hid hrd
  have HM := Lib.hid hm
  have HNM := Lib.hid hnm
  have HK := Lib.hid hks
  have HKF := Lib.hid hkf
  have HPM := Lib.hid hpm
  have HL8 := Lib.hid hl8
  have HBL := Lib.hid hbl
  clear hx hnx hs hrd hm hnm hks hkf hpm hlen hl8 hbl hr
  go_enter Tryd.func4, Tryd.ntmps4
  go_upto_if 38 with (first | (go_at_call 7; (with_reducible refine (CH.out _ (HR.out.keep AB0.out.bel)).mono ?_); rintro e w1 ⟨rfl, hb⟩; have AB1 := Lib.hid (AB0.out.keep hb); clear hb) | (go_at_call 18; (with_reducible refine (CX.out _ AB1.out.bel).mono ?_); rintro e w2 ⟨X, T, F, P, N, C, E, rfl, hE, hb⟩; have AB2 := Lib.hid (AB1.out.keep hb); have HE := Lib.hid hE; clear hb hE))
  have AB3 := Lib.hid (AB2.out.keep (bnew w2 (.cells #[.string X, .int .i64 T, .int .i64 F, .slice P N C] 24)))
  have T3 : Hid ((w2.alloc (.cells #[.string X, .int .i64 T, .int .i64 F, .slice P N C] 24)).heap[w2.heap.size]? = some (Obj.cells #[.string X, .int .i64 T, .int .i64 F, .slice P N C] 24 (0, 0))) := Lib.hid (heap_alloc_new w2 _)
  have HE3 : Hid (E = 0 ∧ readOk bx = true ∧ X = rdX (bx, false) ∧ T = rdTyp (bx, false) ∧ F = rdLife (bx, false) ∧ SlD (.slice P N C) (rdD (bx, false)) (w2.alloc (.cells #[.string X, .int .i64 T, .int .i64 F, .slice P N C] 24)) ∨ E = 10 ∧ readOk bx = false) := Lib.hid (by
    rcases HE.out with ⟨h1, h2, h3, h4, h5, h6⟩ | h
    · exact .inl ⟨h1, h2, h3, h4, h5, h6.keep (bnew w2 _)⟩
    · exact .inr h)
  obtain ⟨o, ho⟩ : ∃ o, w2.heap.size = o := ⟨_, rfl⟩
  rw [ho] at T3 ⊢
  generalize w2.alloc _ = W3 at *
  clear ho AB0 AB1 AB2 HE
  go_cut [9] from 39 to 57 (fun s9 wx => s9 = .bool true ∧ Hid (RBx w wx x typ life (.slice (some ⟨b, off, none⟩) l.length cp)))
  case first =>
    rcases HE3.out with ⟨rfl, e1, e2, e3, e4, e5⟩ | ⟨rfl, e1⟩
    · have E1 := Lib.hid e1
      have E2 := Lib.hid e2
      have E3 := Lib.hid e3
      have E4 := Lib.hid e4
      have E5 := Lib.hid e5
      have z3 := (Array.getElem?_eq_some_iff.1 T3.out).1
      clear e1 e2 e3 e4 e5 HE3
      have k0 := cell_of_blk T3.out 0 (.string X) rfl
      have k1 := cell_of_blk T3.out 1 (.int .i64 T) rfl
      have k2 := cell_of_blk T3.out 2 (.int .i64 F) rfl
      have k3 := cell_of_blk T3.out 3 (.slice P N C) rfl
      go_wp2_with (first | (go_at_call 16; (with_reducible refine (CXB.out E1.out _ _ _ _ _ E2.out E3.out E4.out E5.out (HR.out.keep AB3.out.bel)).mono ?_); rintro e w4 ⟨g, c, rfl, hc1, hsb, hb⟩; have AB4 := Lib.hid (AB3.out.keep hb); have T4 := Lib.hid ((hb.block o z3).trans T3.out); have SD4 := Lib.hid (E5.out.keep hb); have SB4 := Lib.hid hsb; clear hsb hb k0 k1 k2 k3; have k0 := cell_of_blk T4.out 0 (.string X) rfl; have k1 := cell_of_blk T4.out 1 (.int .i64 T) rfl; have k2 := cell_of_blk T4.out 2 (.int .i64 F) rfl; have k3 := cell_of_blk T4.out 3 (.slice P N C) rfl) | (go_at_call 20; (with_reducible refine (bytes2_same w4.heap.size _ _ bx w4 SB4.out (HX.out.keepB AB4.out.bel)).mono ?_); rintro e w5 ⟨rfl, hb⟩; have AB5 := Lib.hid (AB4.out.keep hb); have T5 := Lib.hid ((hb.block o (Array.getElem?_eq_some_iff.1 T4.out).1).trans T4.out); have SD5 := Lib.hid (SD4.out.keep hb); clear hb k0 k1 k2 k3; have k0 := cell_of_blk T5.out 0 (.string X) rfl; have k1 := cell_of_blk T5.out 1 (.int .i64 T) rfl; have k2 := cell_of_blk T5.out 2 (.int .i64 F) rfl; have k3 := cell_of_blk T5.out 3 (.slice P N C) rfl) | (go_at_call 13; (with_reducible refine (CXV.out E1.out _ _ _ _ _ E2.out E3.out E4.out SD5.out (HR.out.keep AB5.out.bel)).mono ?_); rintro e w6 ⟨rfl, hb⟩; have AB6 := Lib.hid (AB5.out.keep hb); clear hb k0 k1 k2 k3))
      go_meet
      exact ⟨rfl, AB6⟩
    · go_wp2_with fail
      go_meet
      exact ⟨rfl, AB3⟩
  case rest =>
    obtain ⟨rfl, AB7⟩ := hcut
    clear AB3 T3 HE3 CX CXB CXV HX HNX
    have c0 := cell_of_blk AB7.out.sx 0 (.string x) rfl
    have c1 := cell_of_blk AB7.out.sx 1 (.int .i64 typ) rfl
    have c2 := cell_of_blk AB7.out.sx 2 (.int .i64 life) rfl
    have c3 := cell_of_blk AB7.out.sx 3 (.slice (some ⟨b, off, none⟩) l.length cp) rfl
    go_upto_region 12 with (first | (go_at_call 8; (with_reducible refine (CF.out _).mono ?_); rintro e w8 ⟨rfl, hb⟩; have AB8 := Lib.hid (AB7.out.keep hb); clear hb c0 c1 c2 c3; have c0 := cell_of_blk AB8.out.sx 0 (.string x) rfl; have c1 := cell_of_blk AB8.out.sx 1 (.int .i64 typ) rfl; have c2 := cell_of_blk AB8.out.sx 2 (.int .i64 life) rfl; have c3 := cell_of_blk AB8.out.sx 3 (.slice (some ⟨b, off, none⟩) l.length cp) rfl) | (go_at_call 14; (with_reducible refine (CV.out _ AB8.out.bel).mono ?_); rintro e w9 ⟨rfl, hb⟩; have AB9 := Lib.hid (AB8.out.keep hb); clear hb c0 c1 c2 c3; have c0 := cell_of_blk AB9.out.sx 0 (.string x) rfl; have c1 := cell_of_blk AB9.out.sx 1 (.int .i64 typ) rfl; have c2 := cell_of_blk AB9.out.sx 2 (.int .i64 life) rfl; have c3 := cell_of_blk AB9.out.sx 3 (.slice (some ⟨b, off, none⟩) l.length cp) rfl) | (go_at_call 16; (with_reducible refine (CB.out _ _ (HS.out.hA.keep AB9.out.bel) (HR.out.keep AB9.out.bel)).mono ?_); rintro e w10 ⟨g, cg, rfl, hcg, hsb, hb⟩; have AB10 := Lib.hid (AB9.out.keep hb); have SB10 := Lib.hid hsb; clear hb hsb c0 c1 c2 c3) | (go_at_call 18; (with_reducible refine (CR1.out _ _ SB10.out (HR.out.keep AB10.out.bel)).mono ?_); rintro e w11 ⟨p1, d1, rfl, hsd, hb⟩; have AB11 := Lib.hid (AB10.out.keep hb); have SB11 := Lib.hid (SB10.out.keepB hb); have SD11 := Lib.hid hsd; clear hb hsd))
    have AB12 := Lib.hid (AB11.out.keep (bnew w11 (.cells #[.string x, .int .i64 typ, .int .i64 life, .slice p1 l.length d1] 24)))
    have R12 : Hid ((w11.alloc (.cells #[.string x, .int .i64 typ, .int .i64 life, .slice p1 l.length d1] 24)).heap[w11.heap.size]? = some (Obj.cells #[.string x, .int .i64 typ, .int .i64 life, .slice p1 l.length d1] 24 (0, 0))) := Lib.hid (heap_alloc_new w11 _)
    have SD12 := Lib.hid (SD11.out.keep (bnew w11 (.cells #[.string x, .int .i64 typ, .int .i64 life, .slice p1 l.length d1] 24)))
    have SB12 := Lib.hid (SB11.out.keepB (bnew w11 (.cells #[.string x, .int .i64 typ, .int .i64 life, .slice p1 l.length d1] 24)))
    clear AB7 AB8 AB9 AB10 AB11 SB10 SB11 SD11 CF CV CB CR1 CH
    obtain ⟨q, hq⟩ : ∃ q, w11.heap.size = q := ⟨_, rfl⟩
    rw [hq] at R12 ⊢
    generalize w11.alloc _ = W12 at *
    clear hq
    have c0 := cell_of_blk AB12.out.sx 0 (.string x) rfl
    have c1 := cell_of_blk AB12.out.sx 1 (.int .i64 typ) rfl
    have c2 := cell_of_blk AB12.out.sx 2 (.int .i64 life) rfl
    have c3 := cell_of_blk AB12.out.sx 3 (.slice (some ⟨b, off, none⟩) l.length cp) rfl
    have r0 := cell_of_blk R12.out 0 (.string x) rfl
    have r1 := cell_of_blk R12.out 1 (.int .i64 typ) rfl
    have r2 := cell_of_blk R12.out 2 (.int .i64 life) rfl
    have r3 := cell_of_blk R12.out 3 (.slice p1 l.length d1) rfl
    have n1 := HBL.out.1
    have n0 : ¬ ((nb : Int) = 0) := by omega
    have n2 : ((nb : Int) == 0) = false := by simpa using n0
    have n3 : ((nb : Int) = 0) = False := eq_false n0
    go_upto_region 14 with (go_at_call 21; (with_reducible refine (CS.out _ _ _ SD12.out (HS.out.hA.keep AB12.out.bel)).mono ?_); rintro e w13 ⟨rfl, hb⟩; have AB13 := Lib.hid (AB12.out.keep hb); have SB13 := Lib.hid (SB12.out.keepB hb); clear hb)
    clear c0 c1 c2 c3 r0 r1 r2 r3 AB12 R12 SD12 SB12 CS
    obtain ⟨k, hk1, hk2⟩ : ∃ k : Nat, k < nb ∧ cq.tmod (nb : Int) = (k : Int) := by
      obtain ⟨H, rfl⟩ := Int.eq_ofNat_of_zero_le hc.1
      exact ⟨H % nb, Nat.mod_lt _ (by omega), by rw [Int.tmod_eq_emod_of_nonneg (by omega)]; rfl⟩
    have v1 : IntKind.i64.wrap cq = cq := IntWalk.i64_in _ (by omega)
    have n4 := HBL.out.2
    have v3 : IntKind.i64.wrap (nb : Int) = (nb : Int) := IntWalk.i64_in _ (by omega)
    have v4 : IntKind.i64.wrap (k : Int) = (k : Int) := IntWalk.i64_in _ (by omega)
    have b0 : (0 : Int) ≤ (k : Int) := by omega
    have b1 : (k : Int) < (nb : Int) := by omega
    have b2 : (k : Int) ≤ (cg : Int) := by omega
    have SK := Lib.hid (SB13.out.take k (by omega))
    go_upto_region 15 with (go_at_call 18; (with_reducible refine (CR2.out k _ _ hk1 SK.out (HR.out.keep AB13.out.bel)).mono ?_); rintro e w14 ⟨rfl, hb⟩; have AB14 := Lib.hid (AB13.out.keep hb); have SB14 := Lib.hid (SB13.out.keepB hb); clear hb)
    have AB15 := Lib.hid (AB14.out.keep (bnew w14 (.cells #[.string ⟨#[]⟩, .int .i64 0, .int .i64 0, .slice none 0 0] 24)))
    have SB15 := Lib.hid (SB14.out.keepB (bnew w14 (.cells #[.string ⟨#[]⟩, .int .i64 0, .int .i64 0, .slice none 0 0] 24)))
    clear AB13 SB13 AB14 SB14 SK CR2 HS HK HKF n2 n3 v1 v3 v4 b0 b1 b2 hk2 hk1
    generalize w14.alloc _ = W15 at *
    have hz15 := (Array.getElem?_eq_some_iff.1 AB15.out.sx).1
    have NEWS := Lib.hid (slb_news (SB15.out.keepB (bnew W15 (.cells #[] 5))))
    obtain ⟨i0, hi0, hz0, hz1, hz2⟩ := info_parts infoB
    have HI := Lib.hid hi0
    have HZ0 := Lib.hid hz0
    have HZ1 := Lib.hid hz1
    have HZ2 := Lib.hid hz2
    clear hi0 hz0 hz1 hz2
    cases pm with
    | none =>
      obtain ⟨rfl, rfl⟩ := HPM.out rfl
      rw [if_pos rfl] at CR3
      go_wp2_with (first | (at_builtin; refine wpList_append_own _ rfl (.tmp 107) (.tmp 108) 26 rfl (w.heap.size + 1) 5 i0 (.int .u8 0) 1 1 Tryd.underlying26 HI.out HZ0.out HZ1.out HZ2.out rfl (by decide) (.slice (some ⟨W15.heap.size, 0, none⟩) 0 0) 0 [] rfl (World.ownsRow_made W15 #[] 0 (by omega) (by decide) rfl) ⟨g, 0, none⟩ nb cg (bb.map cellB) rfl (by rw [List.length_map, HNB.out]; omega) NEWS.out (cellB_one bb) (by unfold maxLen; omega) (by omega) (by simp; omega) ?_; intro v16 w16 hown hgrow hiff; clear hiff; rw [Nat.zero_add, List.nil_append] at hown; have OW16 := Lib.hid hown; have B16 : Below W15.heap.size W15 w16 := ⟨hgrow.os, hgrow.tape, hgrow.output, Nat.le_trans (by simp) hgrow.size, fun k hk => (hgrow.block k (by simp; omega) (by simp [Value.ownBlock]; omega)).trans (heap_alloc_old _ _ hk)⟩; have AB16 := Lib.hid (AB15.out.keep B16); have HM16 := Lib.hid (HM.out.keepB AB16.out.bel); have hz16 := (Array.getElem?_eq_some_iff.1 AB16.out.sx).1; clear B16 hown hgrow) | (at_builtin; refine wpList_append_own_none rfl (.tmp 109) (.tmp 110) 26 rfl (w.heap.size + 1) 5 i0 1 Tryd.underlying26 HI.out v16 nb (bb.map cellB) rfl OW16.out rfl ?_; have SB17 := Lib.hid (own_SlB (bs := bb ++ bm) OW16.out (by rw [List.length_eq_zero_iff.1 HNM.out, List.append_nil]) (by rw [List.length_append, HNB.out, HNM.out]; rfl)); have B17 := Lib.hid AB16.out.bel) | (go_at_call 18; (with_reducible refine (CR3.out _ _ SB17.out (HR.out.keep B17.out)).mono ?_); rintro e w18 ⟨X8, T8, F8, P8, N8, C8, rfl, hb⟩; have B18 := Lib.hid (B17.out.trans (hb.mono B17.out.size)); clear hb))
      go_ret
      exact ⟨rfl, B18.out.alloc B18.out.size _⟩
    | some ad =>
      by_cases hz : nm = 0
      · subst hz
        rw [if_pos rfl] at CR3
        go_wp2_with (first | (at_builtin; refine wpList_append_own _ rfl (.tmp 107) (.tmp 108) 26 rfl (w.heap.size + 1) 5 i0 (.int .u8 0) 1 1 Tryd.underlying26 HI.out HZ0.out HZ1.out HZ2.out rfl (by decide) (.slice (some ⟨W15.heap.size, 0, none⟩) 0 0) 0 [] rfl (World.ownsRow_made W15 #[] 0 (by omega) (by decide) rfl) ⟨g, 0, none⟩ nb cg (bb.map cellB) rfl (by rw [List.length_map, HNB.out]; omega) NEWS.out (cellB_one bb) (by unfold maxLen; omega) (by omega) (by simp; omega) ?_; intro v16 w16 hown hgrow hiff; clear hiff; rw [Nat.zero_add, List.nil_append] at hown; have OW16 := Lib.hid hown; have B16 : Below W15.heap.size W15 w16 := ⟨hgrow.os, hgrow.tape, hgrow.output, Nat.le_trans (by simp) hgrow.size, fun k hk => (hgrow.block k (by simp; omega) (by simp [Value.ownBlock]; omega)).trans (heap_alloc_old _ _ hk)⟩; have AB16 := Lib.hid (AB15.out.keep B16); have HM16 := Lib.hid (HM.out.keepB AB16.out.bel); have hz16 := (Array.getElem?_eq_some_iff.1 AB16.out.sx).1; clear B16 hown hgrow) | (at_builtin; refine wpList_append_own _ rfl (.tmp 109) (.tmp 110) 26 rfl (w.heap.size + 1) 5 i0 (.int .u8 0) 1 1 Tryd.underlying26 HI.out HZ0.out HZ1.out HZ2.out rfl (by decide) v16 nb (bb.map cellB) rfl OW16.out ad 0 cm (bm.map cellB) rfl (by rw [List.length_map]; have := HNM.out; omega) (slb_news HM16.out) (cellB_one bm) (by unfold maxLen; omega) (by omega) (by omega) ?_; intro v17 w17 hown hgrow hiff; clear hiff; have SB17 := Lib.hid (own_SlB (bs := bb ++ bm) hown (by rw [List.map_append]) (by rw [List.length_append, HNB.out, HNM.out])); have B17 := Lib.hid (AB16.out.bel.trans (below_row OW16.out hgrow (Nat.lt_succ_self _) hz16)); clear hown hgrow) | (go_at_call 18; (with_reducible refine (CR3.out _ _ SB17.out (HR.out.keep B17.out)).mono ?_); rintro e w18 ⟨X8, T8, F8, P8, N8, C8, rfl, hb⟩; have B18 := Lib.hid (B17.out.trans (hb.mono B17.out.size)); clear hb))
        go_ret
        exact ⟨rfl, B18.out.alloc B18.out.size _⟩
      · rw [if_neg hz] at CR3
        have m0 : ¬ ((nm : Int) = 0) := by omega
        have m2 : ((nm : Int) == 0) = false := by simpa using m0
        have m3 : ((nm : Int) = 0) = False := eq_false m0
        go_wp2_with (first | (at_builtin; refine wpList_append_own _ rfl (.tmp 107) (.tmp 108) 26 rfl (w.heap.size + 1) 5 i0 (.int .u8 0) 1 1 Tryd.underlying26 HI.out HZ0.out HZ1.out HZ2.out rfl (by decide) (.slice (some ⟨W15.heap.size, 0, none⟩) 0 0) 0 [] rfl (World.ownsRow_made W15 #[] 0 (by omega) (by decide) rfl) ⟨g, 0, none⟩ nb cg (bb.map cellB) rfl (by rw [List.length_map, HNB.out]; omega) NEWS.out (cellB_one bb) (by unfold maxLen; omega) (by omega) (by simp; omega) ?_; intro v16 w16 hown hgrow hiff; clear hiff; rw [Nat.zero_add, List.nil_append] at hown; have OW16 := Lib.hid hown; have B16 : Below W15.heap.size W15 w16 := ⟨hgrow.os, hgrow.tape, hgrow.output, Nat.le_trans (by simp) hgrow.size, fun k hk => (hgrow.block k (by simp; omega) (by simp [Value.ownBlock]; omega)).trans (heap_alloc_old _ _ hk)⟩; have AB16 := Lib.hid (AB15.out.keep B16); have HM16 := Lib.hid (HM.out.keepB AB16.out.bel); have hz16 := (Array.getElem?_eq_some_iff.1 AB16.out.sx).1; clear B16 hown hgrow) | (at_builtin; refine wpList_append_own _ rfl (.tmp 109) (.tmp 110) 26 rfl (w.heap.size + 1) 5 i0 (.int .u8 0) 1 1 Tryd.underlying26 HI.out HZ0.out HZ1.out HZ2.out rfl (by decide) v16 nb (bb.map cellB) rfl OW16.out ad nm cm (bm.map cellB) rfl (by rw [List.length_map]; have := HNM.out; omega) (slb_news HM16.out) (cellB_one bm) (by unfold maxLen; omega) (by omega) (by omega) ?_; intro v17 w17 hown hgrow hiff; clear hiff; have SB17 := Lib.hid (own_SlB (bs := bb ++ bm) hown (by rw [List.map_append]) (by rw [List.length_append, HNB.out, HNM.out])); have B17 := Lib.hid (AB16.out.bel.trans (below_row OW16.out hgrow (Nat.lt_succ_self _) hz16)); clear hown hgrow) | (go_at_call 18; (with_reducible refine (CR3.out _ _ SB17.out (HR.out.keep B17.out)).mono ?_); rintro e w18 ⟨X8, T8, F8, P8, N8, C8, rfl, hb⟩; have B18 := Lib.hid (B17.out.trans (hb.mono B17.out.size)); clear hb))
        go_ret
        exact ⟨rfl, B18.out.alloc B18.out.size _⟩
end Go.Proofs.YtmnbcjchfbfngaaDoor
