/- The contract of Signed of package trust; no condition beyond those that each theorem names. -/
import Derived.Test.YtkhckgknldiheaaDoorG7
namespace Go.Proofs.YtkhckgknldiheaaDoor
set_option linter.unusedSimpArgs false
set_option linter.unusedVariables false
open Go.RowKit
open NmP SpP

def timeB (t d : Int) : Bool := decide (0 ≤ t) && decide (t ≤ 10000000) && decide (0 ≤ d) && decide (d ≤ 1000)
set_option maxHeartbeats 1000000 in
theorem time_any (t d : Int) (w : World) : Calls Tryd.prog 34 #[.int .i64 t, .int .i64 d] w fun e w' => e = .returned (.bool (timeB t d)) ∧ w = w' := by
  unfold timeB
  generalize hd1 : decide (0 ≤ t) = d1
  generalize hd2 : decide (t ≤ 10000000) = d2
  generalize hd3 : decide (0 ≤ d) = d3
  generalize hd4 : decide (d ≤ 1000) = d4
  cases d1 <;> cases d2 <;> cases d3 <;> cases d4
  all_goals
    go_enter Tryd.func34, Tryd.ntmps34
    go_wp2
    go_ret
    exact ⟨rfl, rfl⟩
def Sg.agg (g : Sg) : Value := .agg #[.string g.z, .int .i64 g.k, .int .i64 g.a, .int .i64 g.f, .int .i64 g.u, .int .u64 g.m]
/-- A call that returns a signature, and whether there is one. -/
def FirstTo (b : Bool) (w : World) (e : Ending) (w' : World) : Prop := (∃ g : Sg, e = .returned (.tuple #[.agg #[.string g.z, .int .i64 g.k, .int .i64 g.a, .int .i64 g.f, .int .i64 g.u, .int .u64 g.m], .bool b])) ∧ Below w.heap.size w w'

set_option maxHeartbeats 4000000 in
set_option maxRecDepth 100000 in
theorem first_any (B : Nat) (v : Value) (l : List Sg) (P : Sg → Bool) (w : World) (hv : SlG v l w) (hn : l.length ≤ maxLen)
    (hc : ∀ g ∈ l, ∀ W, Below w.heap.size w W → Calls Tryd.prog 46 #[.agg #[.string g.z, .int .i64 g.k, .int .i64 g.a, .int .i64 g.f, .int .i64 g.u, .int .u64 g.m], .pointer (some ⟨B + 1, 0, none⟩), .pointer (some ⟨B + 3, 0, none⟩), .pointer (some ⟨B + 4, 0, none⟩), .pointer (some ⟨B + 2, 0, none⟩), .pointer (some ⟨B, 0, none⟩)] W fun e w' => e = .returned (.bool (P g)) ∧ Below W.heap.size W w') :
    Calls Tryd.prog 45 #[v, .func (.func 46) #[] #[.pointer (some ⟨B + 1, 0, none⟩), .pointer (some ⟨B + 3, 0, none⟩), .pointer (some ⟨B + 4, 0, none⟩), .pointer (some ⟨B + 2, 0, none⟩), .pointer (some ⟨B, 0, none⟩)]] w (FirstTo (l.any P) w) := by
  obtain ⟨p, c, rfl⟩ := hv.form
  obtain ⟨n, hm⟩ : ∃ m, l.length = m := ⟨_, rfl⟩
  rw [hm] at hv hn ⊢
  unfold maxLen at hn
  have HL := Lib.hid hm
  have hb0 := (Below.refl _ w).alloc (Nat.le_refl _) (.cells #[.string ⟨#[]⟩, .int .i64 0, .int .i64 0, .int .i64 0, .int .i64 0, .int .u64 0] 49)
  have hr0 : (w.alloc (.cells #[.string ⟨#[]⟩, .int .i64 0, .int .i64 0, .int .i64 0, .int .i64 0, .int .u64 0] 49)).heap[w.heap.size]? = some (Obj.cells #[.string ⟨#[]⟩, .int .i64 0, .int .i64 0, .int .i64 0, .int .i64 0, .int .u64 0] 49 (0, 0)) := heap_alloc_new w _
  have HV := Lib.hid (hv.keep hb0)
  have HC := Lib.hid hc
  have HB0 := Lib.hid hb0
  have HR0 := Lib.hid hr0
  obtain ⟨R, hR⟩ : ∃ R, l.any P = R := ⟨_, rfl⟩
  rw [hR]
  have HR := Lib.hid hR
  clear hb0 hr0 hv hm hR hc
  generalize hW0 : w.alloc (.cells #[.string ⟨#[]⟩, .int .i64 0, .int .i64 0, .int .i64 0, .int .i64 0, .int .u64 0] 49) = W0 at *
  have HW0 := Lib.hid hW0
  clear hW0
  go_enter Tryd.func45, Tryd.ntmps45
  go_wp2
  rw [HW0.out]
  go_loopw [11] (fun s11 wr => ∃ i : Nat, i ≤ n ∧ s11 = .int .i64 i ∧ Hid ((l.drop i).any P = R) ∧ Hid (Below W0.heap.size W0 wr)) (fun s11 _ => n - (intOf s11).toNat)
  case atStart => exact ⟨0, Nat.zero_le _, rfl, HR, Lib.hid (Below.refl _ _)⟩
  case round =>
    obtain ⟨i, hi, rfl, H1, HW⟩ := hrel
    by_cases hlt : i < n
    · have ia : i < l.length := by rw [HL.out]; exact hlt
      have ga : l[i]? = some l[i] := List.getElem?_eq_getElem ia
      have hv1 := HV.out.keep HW.out
      obtain ⟨b, off, rfl, hb, hR1⟩ := hv1.at_ (by omega)
      obtain ⟨a0, a1, a2, a3, a4, a5⟩ := hR1.at_ ga
      have hbw : Below w.heap.size w wr := HB0.out.trans (HW.out.mono HB0.out.size)
      have HC1 := HC.out l[i] (List.getElem_mem ia) _ (hbw.alloc hbw.size (.cells #[.string l[i].z, .int .i64 l[i].k, .int .i64 l[i].a, .int .i64 l[i].f, .int .i64 l[i].u, .int .u64 l[i].m] 49))
      have h1 := H1.out
      rw [List.drop_eq_getElem_cons ia, List.any_cons] at h1
      have hq := (HW.out.block w.heap.size (by have := (Array.getElem?_eq_some_iff.1 HR0.out).1; omega)).trans HR0.out
      have hql := (Array.getElem?_eq_some_iff.1 hq).1
      have hbox : (wr.alloc (.cells #[.string l[i].z, .int .i64 l[i].k, .int .i64 l[i].a, .int .i64 l[i].f, .int .i64 l[i].u, .int .u64 l[i].m] 49)).heap[wr.heap.size]? = some (Obj.cells #[.string l[i].z, .int .i64 l[i].k, .int .i64 l[i].a, .int .i64 l[i].f, .int .i64 l[i].u, .int .u64 l[i].m] 49 (0, 0)) := heap_alloc_new wr _
      have HQ : Hid ((wr.alloc (.cells #[.string l[i].z, .int .i64 l[i].k, .int .i64 l[i].a, .int .i64 l[i].f, .int .i64 l[i].u, .int .u64 l[i].m] 49)).heap[w.heap.size]? = some (Obj.cells #[.string ⟨#[]⟩, .int .i64 0, .int .i64 0, .int .i64 0, .int .i64 0, .int .u64 0] 49 (0, 0))) := Lib.hid ((heap_alloc_old wr _ hql).trans hq)
      have HWA := Lib.hid (HW.out.alloc HW.out.size (.cells #[.string l[i].z, .int .i64 l[i].k, .int .i64 l[i].a, .int .i64 l[i].f, .int .i64 l[i].u, .int .u64 l[i].m] 49))
      have HBx := Lib.hid hbox
      generalize l[i] = g at *
      obtain ⟨gz, gk, gaa, gf, gu, gm⟩ := g
      simp only at a0 a1 a2 a3 a4 a5 HC1 HQ HWA HBx h1
      have HCC := Lib.hid HC1
      have H1' := Lib.hid h1
      have hi1 : (i : Int) < (n : Int) := by omega
      clear ga hR1 hv1 H1 HR HC1 h1 hq hbw hbox
      generalize P _ = b0 at *
      go_wp2_with (go_at_call 46; fail)
      (with_reducible refine (HCC.out).mono ?_)
      rintro e w1 ⟨rfl, hb2⟩
      have hq2 := (hb2.block w.heap.size (by (try simp); (try omega))).trans HQ.out
      have hx2 := (hb2.block wr.heap.size (by (try simp); (try omega))).trans HBx.out
      have HW1 := Lib.hid (HWA.out.trans (hb2.mono HWA.out.size))
      have u0 := cell_of_blk hx2 0 (.string gz) rfl
      have u1 := cell_of_blk hx2 1 (.int .i64 gk) rfl
      have u2 := cell_of_blk hx2 2 (.int .i64 gaa) rfl
      have u3 := cell_of_blk hx2 3 (.int .i64 gf) rfl
      have u4 := cell_of_blk hx2 4 (.int .i64 gu) rfl
      have u5 := cell_of_blk hx2 5 (.int .u64 gm) rfl
      have r0 := cell_of_blk hq2 0 (.string ⟨#[]⟩) rfl
      have r1 := cell_of_blk hq2 1 (.int .i64 0) rfl
      have r2 := cell_of_blk hq2 2 (.int .i64 0) rfl
      have r3 := cell_of_blk hq2 3 (.int .i64 0) rfl
      have r4 := cell_of_blk hq2 4 (.int .i64 0) rfl
      have r5 := cell_of_blk hq2 5 (.int .u64 0) rfl
      have rf0 := frozen_of_blk hq2 0
      have rf1 := frozen_of_blk hq2 1
      have rf2 := frozen_of_blk hq2 2
      have rf3 := frozen_of_blk hq2 3
      have rf4 := frozen_of_blk hq2 4
      have rf5 := frozen_of_blk hq2 5
      have HQ2 := Lib.hid hq2
      have h1 := H1'.out
      clear hb2 hq2 hx2 a0 a1 a2 a3 a4 a5
      cases b0
      · have h2 := Lib.hid (show (l.drop (i + 1)).any P = R by rw [← h1]; rfl)
        clear h1
        go_wp2
        go_roundw
        case rel => exact ⟨i + 1, hlt, by go_num, h2, HW1⟩
        case measure =>
          simp [intOf]
          omega
      · have h2 : true = R := by rw [← h1]; rfl
        subst h2
        clear h1
        go_wp2
        have hx := six_set (.string gz) (.int .i64 gk) (.int .i64 gaa) (.int .i64 gf) (.int .i64 gu) (.int .u64 gm) HQ2.out
        have hbx := below_six (HB0.out.trans (HW1.out.mono HB0.out.size)) (q := w.heap.size) (Nat.le_refl _) (.string gz) (.int .i64 gk) (.int .i64 gaa) (.int .i64 gf) (.int .i64 gu) (.int .u64 gm)
        generalize (((((World.setCell _ _ _).setCell _ _).setCell _ _).setCell _ _).setCell _ _).setCell _ _ = W' at *
        have x0 := cell_of_blk hx 0 (.string gz) rfl
        have x1 := cell_of_blk hx 1 (.int .i64 gk) rfl
        have x2 := cell_of_blk hx 2 (.int .i64 gaa) rfl
        have x3 := cell_of_blk hx 3 (.int .i64 gf) rfl
        have x4 := cell_of_blk hx 4 (.int .i64 gu) rfl
        have x5 := cell_of_blk hx 5 (.int .u64 gm) rfl
        refine bodyPost_ret (v := .tuple #[.agg #[.string gz, .int .i64 gk, .int .i64 gaa, .int .i64 gf, .int .i64 gu, .int .u64 gm], .bool true]) (by simp [results, Tryd.f45, go_sem, x0, x1, x2, x3, x4, x5]) rfl ⟨⟨⟨gz, gk, gaa, gf, gu, gm⟩, rfl⟩, hbx⟩
    · obtain rfl : i = n := by omega
      have h1 := H1.out
      rw [List.drop_eq_nil_of_le (by have := HL.out; omega)] at h1
      have h2 : false = R := h1
      subst h2
      have hq := (HW.out.block w.heap.size (by have := (Array.getElem?_eq_some_iff.1 HR0.out).1; omega)).trans HR0.out
      have hql := (Array.getElem?_eq_some_iff.1 hq).1
      have hbw : Below w.heap.size w wr := HB0.out.trans (HW.out.mono HB0.out.size)
      have HBA := Lib.hid hbw
      have HQ2 := Lib.hid hq
      have r0 := cell_of_blk hq 0 (.string ⟨#[]⟩) rfl
      have r1 := cell_of_blk hq 1 (.int .i64 0) rfl
      have r2 := cell_of_blk hq 2 (.int .i64 0) rfl
      have r3 := cell_of_blk hq 3 (.int .i64 0) rfl
      have r4 := cell_of_blk hq 4 (.int .i64 0) rfl
      have r5 := cell_of_blk hq 5 (.int .u64 0) rfl
      have rf0 := frozen_of_blk hq 0
      have rf1 := frozen_of_blk hq 1
      have rf2 := frozen_of_blk hq 2
      have rf3 := frozen_of_blk hq 3
      have rf4 := frozen_of_blk hq 4
      have rf5 := frozen_of_blk hq 5
      clear hq hbw h1
      go_wp2
      have hx := six_set (.string ⟨#[]⟩) (.int .i64 0) (.int .i64 0) (.int .i64 0) (.int .i64 0) (.int .u64 0) HQ2.out
      have hbx := below_six HBA.out (q := w.heap.size) (Nat.le_refl _) (.string ⟨#[]⟩) (.int .i64 0) (.int .i64 0) (.int .i64 0) (.int .i64 0) (.int .u64 0)
      have hql2 := (Array.getElem?_eq_some_iff.1 hx).1
      replace hx := (heap_alloc_old _ (.cells #[.string ⟨#[]⟩, .int .i64 0, .int .i64 0, .int .i64 0, .int .i64 0, .int .u64 0] 49) hql2).trans hx
      replace hbx := hbx.alloc hbx.size (.cells #[.string ⟨#[]⟩, .int .i64 0, .int .i64 0, .int .i64 0, .int .i64 0, .int .u64 0] 49)
      clear hql2
      generalize ((((((World.setCell _ _ _).setCell _ _).setCell _ _).setCell _ _).setCell _ _).setCell _ _).alloc _ = W' at *
      have x0 := cell_of_blk hx 0 (.string ⟨#[]⟩) rfl
      have x1 := cell_of_blk hx 1 (.int .i64 0) rfl
      have x2 := cell_of_blk hx 2 (.int .i64 0) rfl
      have x3 := cell_of_blk hx 3 (.int .i64 0) rfl
      have x4 := cell_of_blk hx 4 (.int .i64 0) rfl
      have x5 := cell_of_blk hx 5 (.int .u64 0) rfl
      refine bodyPost_ret (v := .tuple #[.agg #[.string ⟨#[]⟩, .int .i64 0, .int .i64 0, .int .i64 0, .int .i64 0, .int .u64 0], .bool false]) (by simp [results, Tryd.f45, go_sem, x0, x1, x2, x3, x4, x5]) rfl ⟨⟨⟨⟨#[]⟩, 0, 0, 0, 0, 0⟩, rfl⟩, hbx⟩
/-- A signed set is signed for a zone by one of the keys, surely at a time with a drift. -/
def signedB (s : St) (sigs : List Sg) (zone : ByteArray) (keys : List Sp) (t d : Int) : Bool := timeB t d && sigs.any (okG s zone keys t d)
theorem env_new (s : St) (sv : Value) (zone : ByteArray) (kv : Value) (keys : List Sp) (t d : Int) (w : World) (hs : s.In w) (hr : RulesAt w) (hk : SlS kv keys w) :
    Env (((((w.alloc (.cells #[.string s.x, .int .i64 s.typ, .int .i64 s.life, s.v, sv] 37)).alloc (.cells #[.string zone] 9)).alloc (.cells #[kv] 26)).alloc (.cells #[.int .i64 t] 3)).alloc (.cells #[.int .i64 d] 3)) w.heap.size s sv zone kv keys t d := by
  have hb : Below w.heap.size w (((((w.alloc (.cells #[.string s.x, .int .i64 s.typ, .int .i64 s.life, s.v, sv] 37)).alloc (.cells #[.string zone] 9)).alloc (.cells #[kv] 26)).alloc (.cells #[.int .i64 t] 3)).alloc (.cells #[.int .i64 d] 3)) :=
    (((((Below.refl _ w).alloc (Nat.le_refl _) _).alloc (by simp) _).alloc (by simp; omega) _).alloc (by simp; omega) _).alloc (by simp; omega) _
  have b0 : (((((w.alloc (.cells #[.string s.x, .int .i64 s.typ, .int .i64 s.life, s.v, sv] 37)).alloc (.cells #[.string zone] 9)).alloc (.cells #[kv] 26)).alloc (.cells #[.int .i64 t] 3)).alloc (.cells #[.int .i64 d] 3)).heap[w.heap.size]? = some (Obj.cells #[.string s.x, .int .i64 s.typ, .int .i64 s.life, s.v, sv] 37 (0, 0)) := by
    rw [heap_alloc_old _ _ (by (try simp); (try omega)), heap_alloc_old _ _ (by (try simp); (try omega)), heap_alloc_old _ _ (by (try simp); (try omega)), heap_alloc_old _ _ (by simp)]; exact heap_alloc_new w _
  have b1 : (((((w.alloc (.cells #[.string s.x, .int .i64 s.typ, .int .i64 s.life, s.v, sv] 37)).alloc (.cells #[.string zone] 9)).alloc (.cells #[kv] 26)).alloc (.cells #[.int .i64 t] 3)).alloc (.cells #[.int .i64 d] 3)).heap[w.heap.size + 1]? = some (Obj.cells #[.string zone] 9 (0, 0)) := by
    rw [heap_alloc_old _ _ (by (try simp); (try omega)), heap_alloc_old _ _ (by (try simp); (try omega)), heap_alloc_old _ _ (by simp)]
    have := heap_alloc_new (w.alloc (.cells #[.string s.x, .int .i64 s.typ, .int .i64 s.life, s.v, sv] 37)) (.cells #[.string zone] 9)
    simpa using this
  have b2 : (((((w.alloc (.cells #[.string s.x, .int .i64 s.typ, .int .i64 s.life, s.v, sv] 37)).alloc (.cells #[.string zone] 9)).alloc (.cells #[kv] 26)).alloc (.cells #[.int .i64 t] 3)).alloc (.cells #[.int .i64 d] 3)).heap[w.heap.size + 2]? = some (Obj.cells #[kv] 26 (0, 0)) := by
    rw [heap_alloc_old _ _ (by (try simp); (try omega)), heap_alloc_old _ _ (by simp)]
    have := heap_alloc_new ((w.alloc (.cells #[.string s.x, .int .i64 s.typ, .int .i64 s.life, s.v, sv] 37)).alloc (.cells #[.string zone] 9)) (.cells #[kv] 26)
    simpa using this
  have b3 : (((((w.alloc (.cells #[.string s.x, .int .i64 s.typ, .int .i64 s.life, s.v, sv] 37)).alloc (.cells #[.string zone] 9)).alloc (.cells #[kv] 26)).alloc (.cells #[.int .i64 t] 3)).alloc (.cells #[.int .i64 d] 3)).heap[w.heap.size + 3]? = some (Obj.cells #[.int .i64 t] 3 (0, 0)) := by
    rw [heap_alloc_old _ _ (by simp)]
    have := heap_alloc_new (((w.alloc (.cells #[.string s.x, .int .i64 s.typ, .int .i64 s.life, s.v, sv] 37)).alloc (.cells #[.string zone] 9)).alloc (.cells #[kv] 26)) (.cells #[.int .i64 t] 3)
    simpa using this
  have b4 : (((((w.alloc (.cells #[.string s.x, .int .i64 s.typ, .int .i64 s.life, s.v, sv] 37)).alloc (.cells #[.string zone] 9)).alloc (.cells #[kv] 26)).alloc (.cells #[.int .i64 t] 3)).alloc (.cells #[.int .i64 d] 3)).heap[w.heap.size + 4]? = some (Obj.cells #[.int .i64 d] 3 (0, 0)) := by
    have := heap_alloc_new ((((w.alloc (.cells #[.string s.x, .int .i64 s.typ, .int .i64 s.life, s.v, sv] 37)).alloc (.cells #[.string zone] 9)).alloc (.cells #[kv] 26)).alloc (.cells #[.int .i64 t] 3)) (.cells #[.int .i64 d] 3)
    simpa using this
  exact ⟨cell_of_blk b0 0 _ rfl, cell_of_blk b0 1 _ rfl, cell_of_blk b0 2 _ rfl, cell_of_blk b0 3 _ rfl, cell_of_blk b0 4 _ rfl, cell_of_blk b1 0 _ rfl, cell_of_blk b2 0 _ rfl, cell_of_blk b3 0 _ rfl, cell_of_blk b4 0 _ rfl, hs.keep hb, hr.keep hb, hk.keep hb⟩

set_option maxHeartbeats 4000000 in
set_option maxRecDepth 100000 in
theorem signed_any (s : St) (sv : Value) (sigs : List Sg) (zone : ByteArray) (kv : Value) (keys : List Sp) (t d : Int) (w : World) (hs : s.In w) (hr : RulesAt w) (hk : SlS kv keys w) (hg : SlG sv sigs w) (hgz : ∀ g ∈ sigs, g.z.size ≤ maxLen) (hkl : keys.length ≤ maxLen) (hgl : sigs.length ≤ maxLen) :
    Calls Tryd.prog 18 #[.agg #[.string s.x, .int .i64 s.typ, .int .i64 s.life, s.v, sv], .string zone, kv, .int .i64 t, .int .i64 d] w fun e w' => e = .returned (.bool (signedB s sigs zone keys t d)) ∧ Below w.heap.size w w' := by
  have he := env_new s sv zone kv keys t d w hs hr hk
  have hb : Below w.heap.size w (((((w.alloc (.cells #[.string s.x, .int .i64 s.typ, .int .i64 s.life, s.v, sv] 37)).alloc (.cells #[.string zone] 9)).alloc (.cells #[kv] 26)).alloc (.cells #[.int .i64 t] 3)).alloc (.cells #[.int .i64 d] 3)) :=
    (((((Below.refl _ w).alloc (Nat.le_refl _) _).alloc (by simp) _).alloc (by simp; omega) _).alloc (by simp; omega) _).alloc (by simp; omega) _
  have CT := Lib.hid (fun W => time_any t d W)
  have HB := Lib.hid hb
  obtain ⟨pk, ck, hkv⟩ := hk.form
  obtain ⟨pg, cg, hgv⟩ := hg.form
  obtain ⟨pv, cv, hvv⟩ := hs.hA.form
  unfold signedB
  cases hq : timeB t d
  · rw [hq] at CT
    rw [Bool.false_and]
    clear he hb hq hs hr hk hg hgz hkl hgl
    subst hkv hgv
    obtain ⟨sx, st, sl, sw, sd⟩ := s
    simp only at hvv
    subst hvv
    simp only at HB ⊢
    go_enter Tryd.func18, Tryd.ntmps18
    go_wp2_with (go_at_call 34; (with_reducible refine (CT.out _).mono ?_); rintro e w1 ⟨rfl, rfl⟩)
    go_ret
    exact ⟨rfl, HB.out⟩
  · rw [hq] at CT
    rw [Bool.true_and]
    unfold timeB at hq
    simp only [Bool.and_eq_true, decide_eq_true_eq] at hq
    have CF := Lib.hid (first_any w.heap.size sv sigs (okG s zone keys t d) _ (hg.keep hb) hgl (fun g hgm W hW => signed1_any w.heap.size s sv zone kv keys t d g W (he.keep hW) ⟨by omega, by omega⟩ ⟨by omega, by omega⟩ (hgz g hgm) hkl))
    unfold FirstTo at CF
    generalize sigs.any (okG s zone keys t d) = R at *
    have c4 := he.x4
    clear he hb hq hs hr hk hg hgz hkl hgl
    subst hkv hgv
    obtain ⟨sx, st, sl, sw, sd⟩ := s
    simp only at hvv
    subst hvv
    simp only at HB CF c4 ⊢
    go_enter Tryd.func18, Tryd.ntmps18
    go_wp2_with (first | (go_at_call 34; (with_reducible refine (CT.out _).mono ?_); rintro e w1 ⟨rfl, rfl⟩) | (go_at_call 45; (with_reducible refine (CF.out).mono ?_); rintro e w2 ⟨⟨g, rfl⟩, hb2⟩; have HB2 := Lib.hid (HB.out.trans (hb2.mono HB.out.size)); clear hb2))
    go_ret
    exact ⟨rfl, HB2.out.alloc HB2.out.size _⟩
end Go.Proofs.YtkhckgknldiheaaDoor
