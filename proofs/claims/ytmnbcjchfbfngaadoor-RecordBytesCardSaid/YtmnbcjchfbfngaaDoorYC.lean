/- RecordBytes of layer 2, walked; no condition beyond those that each theorem names. -/
import Derived.Test.YtmnbcjchfbfngaaDoorYB
import Derived.Deep.CutRange
import Derived.BigRegion
import Derived.IntWalk
import Derived.Laws.AppendOwn
import Derived.Laws.AppendOwnNone
namespace Go.Proofs.YtmnbcjchfbfngaaDoor
set_option linter.unusedSimpArgs false
set_option linter.unusedVariables false
open Go.RowKit
open NmP

set_option maxHeartbeats 8000000 in
set_option maxRecDepth 100000 in
theorem rby_no (x : ByteArray) (typ life : Int) (p : Option Addr) (cp : Nat) (l : List Dt) (cq : Int) (pm px : Option Addr) (cm cx nm nx : Nat) (bm bx : Bs) (w : World) (hs : St.In ⟨x, typ, life, .slice p l.length cp, l⟩ w) (hr : RulesAt w) (hm : SlB w.heap.size (.slice pm nm cm) bm w) (hx : SlB w.heap.size (.slice px nx cx) bx w) (hnm : bm.length = nm) (hnx : bx.length = nx) (h100 : nm ≤ 100) (h2000 : nx ≤ 2000) (hc : 0 ≤ cq ∧ cq < 65536) (hn : l.length ≤ maxLen) (hk : (fewB ⟨x, typ, life, .slice p l.length cp, l⟩ && setB x.toList typ life l) = false) :
    Calls Tryd.prog 4 #[.agg #[.string x, .int .i64 typ, .int .i64 life, .slice p l.length cp], .int .u16 cq, .slice pm nm cm, .slice px nx cx] w (ToB true w) := by
  have CF := Lib.hid (fun W => few_new ⟨x, typ, life, .slice p l.length cp, l⟩ p cp W rfl)
  have CV := Lib.hid (fun W (hb : Below w.heap.size w W) => rvset_any x typ life (.slice p l.length cp) l W hs.hx hn hs.hs (hs.hA.keep hb))
  unfold ToB at CV
  have CH := Lib.hid (fun W (h : RulesAt W) => head_any W h)
  have CX := Lib.hid (fun W (hb : Below w.heap.size w W) => read_f bx _ W (hx.keepB hb) (by omega) (hr.keep hb))
  have CXB := Lib.hid (fun (h : readOk bx = true) X T F v W (e1 : X = rdX (bx, false)) (e2 : T = rdTyp (bx, false)) (e3 : F = rdLife (bx, false)) (hd : SlD v (rdD (bx, false)) W) (hr' : RulesAt W) => (by subst e1 e2 e3; have q := bytes_of (rdX (bx, false)) (rdTyp (bx, false)) (rdLife (bx, false)) v (rdD (bx, false)) W (read_back h).1 (by have := rdX_size (bx, false); unfold maxLen; omega) (fun d hd => by have := datL_size _ _ d hd; unfold maxLen; omega) hd hr'; rw [(read_back h).2, hnx] at q; exact q : Calls Tryd.prog 16 #[.agg #[.string X, .int .i64 T, .int .i64 F, v]] W fun e w' => ∃ g c, e = .returned (.tuple #[.slice (some ⟨g, 0, none⟩) nx c, .int .i64 0]) ∧ nx ≤ c ∧ SlB w'.heap.size (.slice (some ⟨g, 0, none⟩) nx c) bx w' ∧ Below W.heap.size W w'))
  have CXV := Lib.hid (fun (h : readOk bx = true) X T F v W (e1 : X = rdX (bx, false)) (e2 : T = rdTyp (bx, false)) (e3 : F = rdLife (bx, false)) (hd : SlD v (rdD (bx, false)) W) (hr' : RulesAt W) => (by subst e1 e2 e3; have q := valid_set (rdX (bx, false)) (rdTyp (bx, false)) (rdLife (bx, false)) v (rdD (bx, false)) W (by have := rdX_size (bx, false); unfold maxLen; omega) (fun d hd => by have := datL_size _ _ d hd; unfold maxLen; omega) hd hr'; rw [(read_back h).1] at q; exact q : Calls Tryd.prog 13 #[.agg #[.string X, .int .i64 T, .int .i64 F, v]] W fun e w' => e = .returned (.bool true) ∧ Below W.heap.size W w'))
  have HR := Lib.hid hr
  have HX := Lib.hid hx
  have HNX := Lib.hid hnx
  have AB0 := Lib.hid (rbox w x typ life (.slice p l.length cp))
  have q0 : ¬ (100 : Int) < (nm : Int) := by omega
  have q1 : ¬ (2000 : Int) < (nx : Int) := by omega
  have HKK := Lib.hid hk
  clear hx hnx hs hm hnm hk hr hn
  generalize fewB ⟨x, typ, life, .slice p l.length cp, l⟩ = kf at *
  generalize setB x.toList typ life l = ks at *
  go_enter Tryd.func4, Tryd.ntmps4
  go_upto_if 38 with (first | (go_at_call 7; (with_reducible refine (CH.out _ (HR.out.keep AB0.out.bel)).mono ?_); rintro e w1 ⟨rfl, hb⟩; have AB1 := Lib.hid (AB0.out.keep hb); clear hb) | (go_at_call 18; (with_reducible refine (CX.out _ AB1.out.bel).mono ?_); rintro e w2 ⟨X, T, F, P, N, C, E, rfl, hE, hb⟩; have AB2 := Lib.hid (AB1.out.keep hb); have HE := Lib.hid hE; clear hb hE))
  have AB3 := Lib.hid (AB2.out.keep (bnew w2 (.cells #[.string X, .int .i64 T, .int .i64 F, .slice P N C] 24)))
  have T3 : Hid ((w2.alloc (.cells #[.string X, .int .i64 T, .int .i64 F, .slice P N C] 24)).heap[w2.heap.size]? = some (Obj.cells #[.string X, .int .i64 T, .int .i64 F, .slice P N C] 24 (0, 0))) := Lib.hid (heap_alloc_new w2 _)
  have HE3 : Hid (E = 0 ∧ readOk bx = true ∧ X = rdX (bx, false) ∧ T = rdTyp (bx, false) ∧ F = rdLife (bx, false) ∧ SlD (.slice P N C) (rdD (bx, false)) (w2.alloc (.cells #[.string X, .int .i64 T, .int .i64 F, .slice P N C] 24)) ∨ E = 10 ∧ readOk bx = false) := Lib.hid (by
    rcases HE.out with ⟨h1, h2, h3, h4, h5, h6⟩ | h
    · exact .inl ⟨h1, h2, h3, h4, h5, h6.keep (bnew w2 _)⟩
    · exact .inr h)
  obtain ⟨o, ho⟩ : ∃ o, w2.heap.size = o := ⟨_, rfl⟩
  rw [ho] at T3 ⊢
  generalize w2.alloc _ = W3 at *
  clear ho AB0 AB1 AB2 HE
  go_cut [9] from 39 to 57 (fun s9 wx => s9 = .bool true ∧ Hid (RBx w wx x typ life (.slice p l.length cp)))
  case first =>
    rcases HE3.out with ⟨rfl, e1, e2, e3, e4, e5⟩ | ⟨rfl, e1⟩
    · have E1 := Lib.hid e1
      have E2 := Lib.hid e2
      have E3 := Lib.hid e3
      have E4 := Lib.hid e4
      have E5 := Lib.hid e5
      have z3 := (Array.getElem?_eq_some_iff.1 T3.out).1
      clear e1 e2 e3 e4 e5 HE3
      have k0 := cell_of_blk T3.out 0 (.string X) rfl
      have k1 := cell_of_blk T3.out 1 (.int .i64 T) rfl
      have k2 := cell_of_blk T3.out 2 (.int .i64 F) rfl
      have k3 := cell_of_blk T3.out 3 (.slice P N C) rfl
      go_wp2_with (first | (go_at_call 16; (with_reducible refine (CXB.out E1.out _ _ _ _ _ E2.out E3.out E4.out E5.out (HR.out.keep AB3.out.bel)).mono ?_); rintro e w4 ⟨g, c, rfl, hc1, hsb, hb⟩; have AB4 := Lib.hid (AB3.out.keep hb); have T4 := Lib.hid ((hb.block o z3).trans T3.out); have SD4 := Lib.hid (E5.out.keep hb); have SB4 := Lib.hid hsb; clear hsb hb k0 k1 k2 k3; have k0 := cell_of_blk T4.out 0 (.string X) rfl; have k1 := cell_of_blk T4.out 1 (.int .i64 T) rfl; have k2 := cell_of_blk T4.out 2 (.int .i64 F) rfl; have k3 := cell_of_blk T4.out 3 (.slice P N C) rfl) | (go_at_call 20; (with_reducible refine (bytes2_same w4.heap.size _ _ bx w4 SB4.out (HX.out.keepB AB4.out.bel)).mono ?_); rintro e w5 ⟨rfl, hb⟩; have AB5 := Lib.hid (AB4.out.keep hb); have T5 := Lib.hid ((hb.block o (Array.getElem?_eq_some_iff.1 T4.out).1).trans T4.out); have SD5 := Lib.hid (SD4.out.keep hb); clear hb k0 k1 k2 k3; have k0 := cell_of_blk T5.out 0 (.string X) rfl; have k1 := cell_of_blk T5.out 1 (.int .i64 T) rfl; have k2 := cell_of_blk T5.out 2 (.int .i64 F) rfl; have k3 := cell_of_blk T5.out 3 (.slice P N C) rfl) | (go_at_call 13; (with_reducible refine (CXV.out E1.out _ _ _ _ _ E2.out E3.out E4.out SD5.out (HR.out.keep AB5.out.bel)).mono ?_); rintro e w6 ⟨rfl, hb⟩; have AB6 := Lib.hid (AB5.out.keep hb); clear hb k0 k1 k2 k3))
      go_meet
      exact ⟨rfl, AB6⟩
    · go_wp2_with fail
      go_meet
      exact ⟨rfl, AB3⟩
  case rest =>
    obtain ⟨rfl, AB7⟩ := hcut
    clear AB3 T3 HE3 CX CXB CXV HX HNX
    have c0 := cell_of_blk AB7.out.sx 0 (.string x) rfl
    have c1 := cell_of_blk AB7.out.sx 1 (.int .i64 typ) rfl
    have c2 := cell_of_blk AB7.out.sx 2 (.int .i64 life) rfl
    have c3 := cell_of_blk AB7.out.sx 3 (.slice p l.length cp) rfl
    cases kf
    · go_wp2_with (go_at_call 8; (with_reducible refine (CF.out _).mono ?_); rintro e w8 ⟨rfl, hb⟩; have AB8 := Lib.hid (AB7.out.keep hb); clear hb c0 c1 c2 c3; have c0 := cell_of_blk AB8.out.sx 0 (.string x) rfl; have c1 := cell_of_blk AB8.out.sx 1 (.int .i64 typ) rfl; have c2 := cell_of_blk AB8.out.sx 2 (.int .i64 life) rfl; have c3 := cell_of_blk AB8.out.sx 3 (.slice p l.length cp) rfl)
      go_ret
      exact ⟨rfl, AB8.out.bel⟩
    · obtain rfl : ks = false := by simpa using HKK.out
      go_wp2_with (first | (go_at_call 8; (with_reducible refine (CF.out _).mono ?_); rintro e w8 ⟨rfl, hb⟩; have AB8 := Lib.hid (AB7.out.keep hb); clear hb c0 c1 c2 c3; have c0 := cell_of_blk AB8.out.sx 0 (.string x) rfl; have c1 := cell_of_blk AB8.out.sx 1 (.int .i64 typ) rfl; have c2 := cell_of_blk AB8.out.sx 2 (.int .i64 life) rfl; have c3 := cell_of_blk AB8.out.sx 3 (.slice p l.length cp) rfl) | (go_at_call 14; (with_reducible refine (CV.out _ AB8.out.bel).mono ?_); rintro e w9 ⟨rfl, hb⟩; have AB9 := Lib.hid (AB8.out.keep hb); clear hb c0 c1 c2 c3; have c0 := cell_of_blk AB9.out.sx 0 (.string x) rfl; have c1 := cell_of_blk AB9.out.sx 1 (.int .i64 typ) rfl; have c2 := cell_of_blk AB9.out.sx 2 (.int .i64 life) rfl; have c3 := cell_of_blk AB9.out.sx 3 (.slice p l.length cp) rfl))
      go_ret
      exact ⟨rfl, AB9.out.bel⟩

set_option maxHeartbeats 4000000 in
set_option maxRecDepth 100000 in
theorem rby_long (x : ByteArray) (typ life : Int) (v0 : Value) (cq : Int) (pm px : Option Addr) (cm cx nm nx : Nat) (w : World) (hr : RulesAt w) (h : 100 < nm ∨ 2000 < nx) :
    Calls Tryd.prog 4 #[.agg #[.string x, .int .i64 typ, .int .i64 life, v0], .int .u16 cq, .slice pm nm cm, .slice px nx cx] w (ToB true w) := by
  have CH := Lib.hid (fun W (h : RulesAt W) => head_any W h)
  have HR := Lib.hid hr
  have AB0 := Lib.hid (rbox w x typ life v0)
  clear hr
  by_cases q0 : 100 < nm
  · have q2 : (100 : Int) < (nm : Int) := by omega
    clear q0 h
    go_enter Tryd.func4, Tryd.ntmps4
    go_wp2_with (go_at_call 7; (with_reducible refine (CH.out _ (HR.out.keep AB0.out.bel)).mono ?_); rintro e w1 ⟨rfl, hb⟩; have AB1 := Lib.hid (AB0.out.keep hb); clear hb)
    go_ret
    exact ⟨rfl, AB1.out.bel⟩
  · have q2 : ¬ (100 : Int) < (nm : Int) := by omega
    have q3 : (2000 : Int) < (nx : Int) := by omega
    clear q0 h
    go_enter Tryd.func4, Tryd.ntmps4
    go_wp2_with (go_at_call 7; (with_reducible refine (CH.out _ (HR.out.keep AB0.out.bel)).mono ?_); rintro e w1 ⟨rfl, hb⟩; have AB1 := Lib.hid (AB0.out.keep hb); clear hb)
    go_ret
    exact ⟨rfl, AB1.out.bel⟩

/-- A slice of bytes: its parts. -/
def BytesIn (v : Value) (l : Bs) (w : World) : Prop := ∃ p c, v = .slice p l.length c ∧ SlB w.heap.size v l w ∧ (p = none → l.length = 0 ∧ c = 0)
theorem rby_any (s : St) (cq : Int) (vm vx : Value) (bm bx : Bs) (w : World) (hs : s.In w) (hn : s.l.length ≤ maxLen) (hr : RulesAt w) (hm : BytesIn vm bm w) (hx : BytesIn vx bx w) (hc : 0 ≤ cq ∧ cq < 65536) :
    Calls Tryd.prog 4 #[.agg #[.string s.x, .int .i64 s.typ, .int .i64 s.life, s.v], .int .u16 cq, vm, vx] w (ToB true w) := by
  obtain ⟨pm, cm, rfl, hm1, hm2⟩ := hm
  obtain ⟨px, cx, rfl, hx1, hx2⟩ := hx
  obtain ⟨x, typ, life, v, l⟩ := s
  obtain ⟨p, cp, hv⟩ := hs.hA.form
  simp only at hv
  subst hv
  by_cases hlong : 100 < bm.length ∨ 2000 < bx.length
  · exact rby_long x typ life _ cq pm px cm cx _ _ w hr hlong
  · rw [not_or] at hlong
    cases hk : (fewB ⟨x, typ, life, .slice p l.length cp, l⟩ && setB x.toList typ life l)
    · exact rby_no x typ life p cp l cq pm px cm cx _ _ bm bx w hs hr hm1 hx1 rfl rfl (by omega) (by omega) hc hn hk
    · rw [Bool.and_eq_true] at hk
      have hl1 : 1 ≤ l.length := (setB_facts hk.2).2.2.2.2.2.1
      obtain ⟨b, off, rfl, h1, h2⟩ := hs.hA.at_ hl1
      exact rby_yes x typ life b off cp l cq pm px cm cx _ _ bm bx w hs ⟨h1, h2⟩ hr hm1 hx1 rfl rfl (by omega) (by omega) hc hk.1 hk.2 hm2
end Go.Proofs.YtmnbcjchfbfngaaDoor
