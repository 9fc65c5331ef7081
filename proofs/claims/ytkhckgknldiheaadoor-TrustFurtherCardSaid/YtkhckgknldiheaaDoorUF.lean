/- TrustFurther of layer 10, walked; no condition beyond those that each theorem names. -/
import Derived.Test.YtkhckgknldiheaaDoorTI
import Derived.Test.YtkhckgknldiheaaDoorUA
import Derived.Test.YtkhckgknldiheaaDoorUP
import Derived.Test.YtkhckgknldiheaaDoorOK
import Derived.Laws.AppendOwnNone
namespace Go.Proofs.YtkhckgknldiheaaDoor
set_option linter.unusedSimpArgs false
set_option linter.unusedVariables false
open Go.RowKit
open NmP SpP

def zSd5 : Value := .agg #[.string ⟨#[]⟩, .int .i64 0, .int .i64 0, .slice none 0 0, .slice none 0 0]
theorem infoSd : (Tryd.prog.info? 37).map (fun i => (i.zero, i.size, i.bytes)) = some (some zSd5, 5, 80) := by kernel_rfl
theorem oneK : ∀ (l : List Sd), ∀ u ∈ rowK l, u.oneCell' = true
  | [], u, h => absurd h List.not_mem_nil
  | d :: r, u, h => by
    rw [rowK_cons] at h
    rcases List.mem_append.1 h with h | h
    · simp [valsK] at h
      rcases h with rfl | rfl | rfl | rfl | rfl <;> rfl
    · exact oneK r u h
/-- Known sets that a call owns. -/
def OwnS (B : Nat) (v : Value) (l : List Sd) (w : World) : Prop := w.ownsRow B 37 5 v l.length (rowK l)
theorem OwnS.sl {B : Nat} {v : Value} {l : List Sd} {w : World} (h : OwnS B v l w) (hin : ∀ s ∈ l, s.In w) : SlK v l w := by
  refine ⟨?_, hin⟩
  obtain ⟨h0, h1⟩ := h
  rcases h1 with ⟨rfl, h2⟩ | ⟨g, cap, cur, rfl, h2, h3, h4, h5, h6, h7⟩
  · exact .inl ⟨List.length_eq_zero_iff.1 h2, none, 0, rfl⟩
  · refine .inr ⟨g, 0, cap, rfl, (Array.getElem?_eq_some_iff.1 h3).1, fun m u hm => ?_⟩
    rw [Nat.zero_add]
    rw [← h7, List.getElem?_take] at hm
    split at hm
    · exact cell_of_blk h3 m u (by simpa using hm)
    · cases hm
theorem SrcK.keep {v : Value} {l : List Sd} {W W' : World} (h : SrcK v l W) (hb : Below W.heap.size W W') : SrcK v l W' := by
  rcases h with h | ⟨ad, c, h1, h2⟩
  · exact .inl h
  · refine .inr ⟨ad, c, h1, fun m u hm => ?_⟩
    have h3 := h2 m u hm
    have hlt := World.block_lt_of_cell? W _ h3
    exact (hb.cell hlt).trans h3
/-- Known sets are appended to a row that the call owns. -/
theorem append_known {w : World} {ops : Array Oper} {rest : List Oper} {o : Oper} {a : Act} {Q : Exit → Act → World → Prop} (hgd : o.guard = none) (s x : Operand)
    (ho : o.op = .call { callee := .builtin .append, args := #[s, x], argTypes := #[22, 22] })
    (base : Nat) (v : Value) (n : Nat) (hs : a.eval s = v) (xs : List Value) (hown : w.ownsRow base 37 5 v n xs)
    (y : Value) (hx : a.eval x = y) (l : List Sd) (hy : SrcK y l w) (h63 : n + l.length ≤ 1000) (hbase : base ≤ w.heap.size)
    (h : ∀ v' w', w'.ownsRow base 37 5 v' (n + l.length) (xs ++ rowK l) → w.grownBy w' v.ownBlock → wpList Tryd.prog ops Q rest (a.put o.dst v') w') : wpList Tryd.prog ops Q (o :: rest) a w := by
  obtain ⟨i0, hi0, hz0, hz1, hz2⟩ := info_parts infoSd
  rcases hy with ⟨rfl, rfl⟩ | ⟨ad, c, rfl, hc⟩
  · refine wpList_append_own_none hgd s x _ ho base 37 i0 5 Tryd.underlying22 hi0 v n xs hs hown hx (h v w ?_ (World.grownBy.refl w _))
    simpa [rowK] using hown
  · exact wpList_append_own w hgd s x _ ho base 37 i0 zSd5 5 80 Tryd.underlying22 hi0 hz0 hz1 hz2 rfl (by decide) v n xs hs hown ad l.length c (rowK l) hx (by rw [rowK_len]; omega) hc (oneK l) (by unfold maxLen; omega) (by omega) hbase (fun v' w' h1 h2 _ => h v' w' h1 h2)
/-- The box of TrustFurther. -/
structure FBx (w W : World) (ax : ByteArray) (aty al : Int) (av : Value) : Prop where
  bel : Below w.heap.size w W
  ax : W.heap[w.heap.size]? = some (Obj.cells #[.string ax, .int .i64 aty, .int .i64 al, av] 25 (0, 0))
theorem FBx.keep {w W W' : World} {ax : ByteArray} {aty al : Int} {av : Value} (h : FBx w W ax aty al av) (hb : Below W.heap.size W W') : FBx w W' ax aty al av :=
  ⟨h.bel.trans (hb.mono h.bel.size), (hb.block _ (Array.getElem?_eq_some_iff.1 h.ax).1).trans h.ax⟩
theorem FBx.lt {w W : World} {ax : ByteArray} {aty al : Int} {av : Value} (h : FBx w W ax aty al av) : w.heap.size < W.heap.size := (Array.getElem?_eq_some_iff.1 h.ax).1
theorem fbox (w : World) (ax : ByteArray) (aty al : Int) (av : Value) : FBx w (w.alloc (.cells #[.string ax, .int .i64 aty, .int .i64 al, av] 25)) ax aty al av :=
  ⟨(Below.refl _ w).alloc (Nat.le_refl _) _, heap_alloc_new w _⟩

/-- What Path returns where the arguments are right. -/
def AnyP (w : World) (e : Ending) (w' : World) : Prop := ∃ (v : Value) (y : ByteArray) (k c : Int), e = .returned (.tuple #[v, .agg #[.string y, .int .i64 k], .int .i64 c]) ∧ (c == 1) = false ∧ Below w.heap.size w w'
theorem PathTo.any {R : PR} {w : World} {e : Ending} {w' : World} (h : PathTo R w e w') (hR : R ≠ .arg) : AnyP w e w' := by
  unfold PathTo at h
  cases R with
  | keys k =>
    obtain ⟨⟨p, c, rfl, _⟩, hb⟩ := h
    exact ⟨_, _, _, _, rfl, rfl, hb⟩
  | miss z k =>
    obtain ⟨rfl, hb⟩ := h
    exact ⟨_, _, _, _, rfl, rfl, hb⟩
  | bad =>
    obtain ⟨rfl, hb⟩ := h
    exact ⟨_, _, _, _, rfl, rfl, hb⟩
  | arg => exact absurd rfl hR
/-- What lies behind the two calls. -/
structure QBx (w5 W : World) (y : ByteArray) (k : Int) (x : ByteArray) (j : Int) (q p : Nat) : Prop where
  bel : Below w5.heap.size w5 W
  hq : W.heap[q]? = some (Obj.cells #[.string y, .int .i64 k] 30 (0, 0))
  hp : W.heap[p]? = some (Obj.cells #[.string x, .int .i64 j] 30 (0, 0))
theorem qbx {w5 w6 : World} {y : ByteArray} {k : Int} (x : ByteArray) (j : Int) (hb : Below (w5.alloc (.cells #[.string y, .int .i64 k] 30)).heap.size (w5.alloc (.cells #[.string y, .int .i64 k] 30)) w6) : QBx w5 (w6.alloc (.cells #[.string x, .int .i64 j] 30)) y k x j w5.heap.size w6.heap.size := by
  have h5 := bnewE w5 (.cells #[.string y, .int .i64 k] 30)
  have h6 := h5.trans (hb.mono h5.size)
  have hn : (w5.alloc (.cells #[.string y, .int .i64 k] 30)).heap[w5.heap.size]? = some (Obj.cells #[.string y, .int .i64 k] 30 (0, 0)) := heap_alloc_new w5 _
  have hq := (hb.block w5.heap.size (by simp)).trans hn
  exact ⟨h6.alloc h6.size _, (heap_alloc_old w6 _ (Array.getElem?_eq_some_iff.1 hq).1).trans hq, heap_alloc_new w6 _⟩

set_option maxHeartbeats 4000000 in
set_option maxRecDepth 100000 in
theorem further_walk (kv mv : Value) (known more : List Sd) (a : St) (z : ByteArray) (t d : Int) (w : World) (hk : SlK kv known w) (hkn : known.length ≤ maxLen) (hkc : SrcK kv known w) (hm : SlK mv more w) (hmn : more.length ≤ maxLen) (hmc : SrcK mv more w) (ha : a.In w) (han : a.l.length ≤ maxLen) (hz : z.size ≤ maxLen) (hr : RulesAt w) :
    Calls Tryd.prog 7 #[kv, mv, .agg #[.string a.x, .int .i64 a.typ, .int .i64 a.life, a.v], .string z, .int .i64 t, .int .i64 d] w fun e w' => e = .returned (.bool true) ∧ Below w.heap.size w w' := by
  obtain ⟨pk, ck, rfl⟩ := hk.form
  obtain ⟨pm, cm, rfl⟩ := hm.form
  obtain ⟨pa, ca, hav⟩ := ha.hA.form
  have AB0 := Lib.hid (fbox w a.x a.typ a.life a.v)
  have CH := Lib.hid (fun W (hb : Below w.heap.size w W) => head_any W (hr.keep hb))
  have CF1 := Lib.hid (fun W (hb : Below w.heap.size w W) => rfew_any (.slice pk known.length ck) known W (hk.keep hb) hkn)
  have CF2 := Lib.hid (fun W (hb : Below w.heap.size w W) => rfew_any (.slice pm more.length cm) more W (hm.keep hb) hmn)
  have CP1 := Lib.hid (fun W (hb : Below w.heap.size w W) => path_any (.slice pk known.length ck) known a z t d W (hk.keep hb) hkn (ha.keep hb) hz (hr.keep hb))
  have CP2 := Lib.hid (fun kv2 (hl : (known ++ more).length ≤ maxLen) W (hb : Below w.heap.size w W) (h2 : SlK kv2 (known ++ more) W) => path_any kv2 (known ++ more) a z t d W h2 hl (ha.keep hb) hz (hr.keep hb))
  have CK1 := Lib.hid (fun y c W (hb : Below w.heap.size w W) => rknown_any (.slice pk known.length ck) known y c W (hk.keep hb) hkn)
  have CK2 := Lib.hid (fun y c W (hb : Below w.heap.size w W) => rknown_any (.slice pm more.length cm) more y c W (hm.keep hb) hmn)
  have HSK := Lib.hid (fun W (hb : Below w.heap.size w W) => hkc.keep hb)
  have HSM := Lib.hid (fun W (hb : Below w.heap.size w W) => hmc.keep hb)
  have HIN := Lib.hid (fun W (hb : Below w.heap.size w W) (s : Sd) (h : s ∈ known ++ more) => (by
    rcases List.mem_append.1 h with h | h
    · exact (hk.2 s h).keep hb
    · exact (hm.2 s h).keep hb : s.In W))
  have HPA := Lib.hid (fun h => path_arg (a := known) (b := more) (s := a) (z := z) (t := t) (d := d) h)
  have HPM := Lib.hid (path_more (a := known) (b := more) (s := a) (z := z) (t := t) (d := d))
  have HPI := Lib.hid (fun y c => path_miss (known := known) (a := a) (z := z) (t := t) (d := d) (y := y) (c := c))
  have hln : a.l.length = (match a.v with | .slice _ n _ => n | _ => 0) := by rw [hav]
  obtain ⟨ax, aty, al, av, aL⟩ := a
  simp only at hav
  subst hav
  obtain ⟨na, hna⟩ : ∃ n, aL.length = n := ⟨_, rfl⟩
  obtain ⟨nk, hnk⟩ : ∃ n, known.length = n := ⟨_, rfl⟩
  obtain ⟨nm, hnm⟩ : ∃ n, more.length = n := ⟨_, rfl⟩
  obtain ⟨R, hR⟩ : ∃ R, pathR known ⟨ax, aty, al, .slice pa aL.length ca, aL⟩ z t d = R := ⟨_, rfl⟩
  obtain ⟨R2, hR2⟩ : ∃ R, pathR (known ++ more) ⟨ax, aty, al, .slice pa aL.length ca, aL⟩ z t d = R := ⟨_, rfl⟩
  rw [hR] at CP1 HPA HPM
  rw [hR2] at CP2 HPA HPM
  simp only at AB0 CP1 CP2 HPI ⊢
  simp only [hR] at HPI
  rw [hnk] at CF1 CP1 CK1 HSK ⊢
  rw [hnm] at CF2 CK2 HSM ⊢
  rw [hna] at AB0 CP1 CP2 ⊢
  have HNK := Lib.hid hnk
  have HNM := Lib.hid hnm
  have hlk : nk ≤ 9223372036854775807 := by rw [← hnk]; exact hkn
  have hlm : nm ≤ 9223372036854775807 := by rw [← hnm]; exact hmn
  have hla : na ≤ 9223372036854775807 := by rw [← hna]; exact han
  clear hk hkn hkc hm hmn hmc ha han hz hr hln hna hnk hnm hR hR2
  cases hf1 : fewB known
  · rw [hf1] at CF1
    clear hf1
    as_aux_lemma =>
      go_enter Tryd.func7, Tryd.ntmps7
      go_wp2_with (first | (go_at_call 9; (with_reducible refine (CH.out _ AB0.out.bel).mono ?_); rintro e w1 ⟨rfl, hb⟩; have AB1 := Lib.hid (AB0.out.keep hb); clear hb; have x0 := cell_of_blk AB1.out.ax 0 (.string ax) rfl; have x1 := cell_of_blk AB1.out.ax 1 (.int .i64 aty) rfl; have x2 := cell_of_blk AB1.out.ax 2 (.int .i64 al) rfl; have x3 := cell_of_blk AB1.out.ax 3 (.slice pa na ca) rfl) | (go_at_call 10; (with_reducible refine (CF1.out _ AB1.out.bel).mono ?_); rintro e w' ⟨rfl, rfl⟩))
      go_ret
      exact ⟨rfl, AB1.out.bel⟩
  rw [hf1] at CF1
  cases hf2 : fewB more
  · rw [hf2] at CF2
    clear hf1 hf2
    as_aux_lemma =>
      go_enter Tryd.func7, Tryd.ntmps7
      go_wp2_with (first | (go_at_call 9; (with_reducible refine (CH.out _ AB0.out.bel).mono ?_); rintro e w1 ⟨rfl, hb⟩; have AB1 := Lib.hid (AB0.out.keep hb); clear hb; have x0 := cell_of_blk AB1.out.ax 0 (.string ax) rfl; have x1 := cell_of_blk AB1.out.ax 1 (.int .i64 aty) rfl; have x2 := cell_of_blk AB1.out.ax 2 (.int .i64 al) rfl; have x3 := cell_of_blk AB1.out.ax 3 (.slice pa na ca) rfl) | (go_at_call 10; (with_reducible refine (CF1.out _ AB1.out.bel).mono ?_); rintro e w' ⟨rfl, rfl⟩) | (go_at_call 10; (with_reducible refine (CF2.out _ AB1.out.bel).mono ?_); rintro e w' ⟨rfl, rfl⟩))
      go_ret
      exact ⟨rfl, AB1.out.bel⟩
  rw [hf2] at CF2
  have hk60 := (few_facts hf1).1
  have hm60 := (few_facts hf2).1
  rw [HNK.out] at hk60
  rw [HNM.out] at hm60
  clear hf1 hf2
  by_cases c1 : 30 < nk
  · as_aux_lemma =>
      go_enter Tryd.func7, Tryd.ntmps7
      go_wp2_with (first | (go_at_call 9; (with_reducible refine (CH.out _ AB0.out.bel).mono ?_); rintro e w1 ⟨rfl, hb⟩; have AB1 := Lib.hid (AB0.out.keep hb); clear hb; have x0 := cell_of_blk AB1.out.ax 0 (.string ax) rfl; have x1 := cell_of_blk AB1.out.ax 1 (.int .i64 aty) rfl; have x2 := cell_of_blk AB1.out.ax 2 (.int .i64 al) rfl; have x3 := cell_of_blk AB1.out.ax 3 (.slice pa na ca) rfl) | (go_at_call 10; (with_reducible refine (CF1.out _ AB1.out.bel).mono ?_); rintro e w' ⟨rfl, rfl⟩) | (go_at_call 10; (with_reducible refine (CF2.out _ AB1.out.bel).mono ?_); rintro e w' ⟨rfl, rfl⟩))
      go_ret
      exact ⟨rfl, AB1.out.bel⟩
  by_cases c2 : 30 < nm
  · as_aux_lemma =>
      go_enter Tryd.func7, Tryd.ntmps7
      go_wp2_with (first | (go_at_call 9; (with_reducible refine (CH.out _ AB0.out.bel).mono ?_); rintro e w1 ⟨rfl, hb⟩; have AB1 := Lib.hid (AB0.out.keep hb); clear hb; have x0 := cell_of_blk AB1.out.ax 0 (.string ax) rfl; have x1 := cell_of_blk AB1.out.ax 1 (.int .i64 aty) rfl; have x2 := cell_of_blk AB1.out.ax 2 (.int .i64 al) rfl; have x3 := cell_of_blk AB1.out.ax 3 (.slice pa na ca) rfl) | (go_at_call 10; (with_reducible refine (CF1.out _ AB1.out.bel).mono ?_); rintro e w' ⟨rfl, rfl⟩) | (go_at_call 10; (with_reducible refine (CF2.out _ AB1.out.bel).mono ?_); rintro e w' ⟨rfl, rfl⟩))
      go_ret
      exact ⟨rfl, AB1.out.bel⟩
  by_cases c3 : 20 < na
  · as_aux_lemma =>
      go_enter Tryd.func7, Tryd.ntmps7
      go_wp2_with (first | (go_at_call 9; (with_reducible refine (CH.out _ AB0.out.bel).mono ?_); rintro e w1 ⟨rfl, hb⟩; have AB1 := Lib.hid (AB0.out.keep hb); clear hb; have x0 := cell_of_blk AB1.out.ax 0 (.string ax) rfl; have x1 := cell_of_blk AB1.out.ax 1 (.int .i64 aty) rfl; have x2 := cell_of_blk AB1.out.ax 2 (.int .i64 al) rfl; have x3 := cell_of_blk AB1.out.ax 3 (.slice pa na ca) rfl) | (go_at_call 10; (with_reducible refine (CF1.out _ AB1.out.bel).mono ?_); rintro e w' ⟨rfl, rfl⟩) | (go_at_call 10; (with_reducible refine (CF2.out _ AB1.out.bel).mono ?_); rintro e w' ⟨rfl, rfl⟩))
      go_ret
      exact ⟨rfl, AB1.out.bel⟩
  go_enter Tryd.func7, Tryd.ntmps7
  go_upto_region 5 with (first | (go_at_call 9; (with_reducible refine (CH.out _ AB0.out.bel).mono ?_); rintro e w1 ⟨rfl, hb⟩; have AB1 := Lib.hid (AB0.out.keep hb); clear hb; have x0 := cell_of_blk AB1.out.ax 0 (.string ax) rfl; have x1 := cell_of_blk AB1.out.ax 1 (.int .i64 aty) rfl; have x2 := cell_of_blk AB1.out.ax 2 (.int .i64 al) rfl; have x3 := cell_of_blk AB1.out.ax 3 (.slice pa na ca) rfl; have z1 := AB1.out.lt) | (go_at_call 10; (with_reducible refine (CF1.out _ AB1.out.bel).mono ?_); rintro e w' ⟨rfl, rfl⟩) | (go_at_call 10; (with_reducible refine (CF2.out _ AB1.out.bel).mono ?_); rintro e w' ⟨rfl, rfl⟩) | (at_builtin; refine append_known rfl (.tmp 47) (.tmp 48) rfl w1.heap.size (.slice (some ⟨w1.heap.size, 0, none⟩) 0 0) 0 rfl [] (World.ownsRow_made w1 #[] 0 (Nat.le_refl _) (by decide) rfl) (.slice pk nk ck) rfl known (HSK.out _ (AB1.out.bel.alloc AB1.out.bel.size _)) (by rw [HNK.out]; omega) (by simp) ?_; intro v1 w2 hown1 hgr1; have HO1 := Lib.hid hown1; have HB2 : Hid (Below w1.heap.size w1 w2) := Lib.hid ((bnewE w1 _).grown hgr1 (by simp) (fun k hk => by simp [Value.ownBlock] at hk; omega)); clear hown1 hgr1) | (at_builtin; refine append_known rfl (.tmp 49) (.tmp 50) rfl w1.heap.size v1 (0 + known.length) rfl ([] ++ rowK known) HO1.out (.slice pm nm cm) rfl more (HSM.out _ (AB1.out.bel.trans (HB2.out.mono AB1.out.bel.size))) (by rw [HNK.out, HNM.out]; omega) HB2.out.size ?_; intro v2 w3 hown2 hgr2; have HO2 := Lib.hid hown2; have HB3 : Hid (Below w1.heap.size w1 w3) := Lib.hid (HB2.out.grown hgr2 HB2.out.size (fun k hk => (World.ownsRow.lt HO1.out k hk).1)); clear hown2 hgr2))
  have HS3 : Hid (SlK v2 (known ++ more) w3) := Lib.hid (by
    have h : OwnS w1.heap.size v2 (known ++ more) w3 := by
      have h1 := HO2.out
      unfold OwnS
      rw [List.length_append, rowK_append]
      rw [Nat.zero_add, List.nil_append] at h1
      exact h1
    exact h.sl (HIN.out w3 (AB1.out.bel.trans (HB3.out.mono AB1.out.bel.size))))
  have AB3 := Lib.hid (AB1.out.keep HB3.out)
  have hlen : (known ++ more).length ≤ maxLen := by rw [List.length_append, HNK.out, HNM.out]; unfold maxLen; omega
  clear HO1 HO2 HB2 HB3 AB0 AB1 x0 x1 x2 x3 z1 CF1 CF2 CH HSK HSM HIN
  have x0 := cell_of_blk AB3.out.ax 0 (.string ax) rfl
  have x1 := cell_of_blk AB3.out.ax 1 (.int .i64 aty) rfl
  have x2 := cell_of_blk AB3.out.ax 2 (.int .i64 al) rfl
  have x3 := cell_of_blk AB3.out.ax 3 (.slice pa na ca) rfl
  have z1 := AB3.out.lt
  cases R with
  | arg =>
    have h2 := HPA.out rfl
    subst h2
    unfold PathTo at CP1 CP2
    simp only at CP1 CP2
    as_aux_lemma =>
      go_wp2_with (first | (go_at_call 11; (with_reducible refine (CP1.out _ AB3.out.bel).mono ?_); rintro e w5 ⟨rfl, hb⟩; have AB5 := Lib.hid ((AB3.out.keep hb).keep (bnewE w5 (.cells #[.string ⟨#[]⟩, .int .i64 0] 30))); have HS5 := Lib.hid ((HS3.out.keep hb).keep (bnewE w5 (.cells #[.string ⟨#[]⟩, .int .i64 0] 30))); clear hb x0 x1 x2 x3; have x0 := cell_of_blk AB5.out.ax 0 (.string ax) rfl; have x1 := cell_of_blk AB5.out.ax 1 (.int .i64 aty) rfl; have x2 := cell_of_blk AB5.out.ax 2 (.int .i64 al) rfl; have x3 := cell_of_blk AB5.out.ax 3 (.slice pa na ca) rfl) | (go_at_call 11; (with_reducible refine (CP2.out _ hlen _ AB5.out.bel HS5.out).mono ?_); rintro e w6 ⟨rfl, hb⟩; have QB := Lib.hid (qbx ⟨#[]⟩ 0 hb); have AB6 := Lib.hid ((AB5.out.keep hb).keep (bnewE w6 (.cells #[.string ⟨#[]⟩, .int .i64 0] 30))); clear hb x0 x1 x2 x3; have q0 := cell_of_blk QB.out.hq 0 (.string ⟨#[]⟩) rfl; have q1 := cell_of_blk QB.out.hq 1 (.int .i64 0) rfl; have p0 := cell_of_blk QB.out.hp 0 (.string ⟨#[]⟩) rfl; have p1 := cell_of_blk QB.out.hp 1 (.int .i64 0) rfl))
      go_ret
      exact ⟨rfl, AB6.out.bel⟩
  | keys K =>
    unfold PathTo at CP1
    simp only at CP1
    have h3 : R2 = .arg ∨ R2 = .keys K := by
      rcases HPM.out with h | h | ⟨y, c, h, _⟩
      · exact .inl h
      · exact .inr h
      · cases h
    have CS := Lib.hid (fun va vb W (ha : SlS va K W) (hb : SlS vb K W) (hn : K.length ≤ maxLen) => same_any ha hb hn)
    simp only [decide_true] at CS
    obtain ⟨m, hm⟩ : ∃ m, K.length = m := ⟨_, rfl⟩
    rw [hm] at CP1
    have HM := Lib.hid hm
    clear hm
    rcases h3 with rfl | rfl
    · unfold PathTo at CP2
      simp only at CP2
      as_aux_lemma =>
        go_wp2_with (first | (go_at_call 11; (with_reducible refine (CP1.out _ AB3.out.bel).mono ?_); rintro e w5 ⟨⟨p5, c5, rfl, hs5, hl5⟩, hb⟩; have AB5 := Lib.hid ((AB3.out.keep hb).keep (bnewE w5 (.cells #[.string ⟨#[]⟩, .int .i64 0] 30))); have HS5 := Lib.hid ((HS3.out.keep hb).keep (bnewE w5 (.cells #[.string ⟨#[]⟩, .int .i64 0] 30))); clear hb x0 x1 x2 x3; have x0 := cell_of_blk AB5.out.ax 0 (.string ax) rfl; have x1 := cell_of_blk AB5.out.ax 1 (.int .i64 aty) rfl; have x2 := cell_of_blk AB5.out.ax 2 (.int .i64 al) rfl; have x3 := cell_of_blk AB5.out.ax 3 (.slice pa na ca) rfl) | (go_at_call 11; (with_reducible refine (CP2.out _ hlen _ AB5.out.bel HS5.out).mono ?_); rintro e w6 ⟨rfl, hb⟩; have QB := Lib.hid (qbx ⟨#[]⟩ 0 hb); have AB6 := Lib.hid ((AB5.out.keep hb).keep (bnewE w6 (.cells #[.string ⟨#[]⟩, .int .i64 0] 30))); clear hb x0 x1 x2 x3; have q0 := cell_of_blk QB.out.hq 0 (.string ⟨#[]⟩) rfl; have q1 := cell_of_blk QB.out.hq 1 (.int .i64 0) rfl; have p0 := cell_of_blk QB.out.hp 0 (.string ⟨#[]⟩) rfl; have p1 := cell_of_blk QB.out.hp 1 (.int .i64 0) rfl))
        go_ret
        exact ⟨rfl, AB6.out.bel⟩
    · unfold PathTo at CP2
      simp only at CP2
      rw [HM.out] at CP2
      as_aux_lemma =>
        go_wp2_with (first | (go_at_call 11; (with_reducible refine (CP1.out _ AB3.out.bel).mono ?_); rintro e w5 ⟨⟨p5, c5, rfl, hs5, hl5⟩, hb⟩; have AB5 := Lib.hid ((AB3.out.keep hb).keep (bnewE w5 (.cells #[.string ⟨#[]⟩, .int .i64 0] 30))); have HS5 := Lib.hid ((HS3.out.keep hb).keep (bnewE w5 (.cells #[.string ⟨#[]⟩, .int .i64 0] 30))); have H5 := Lib.hid hs5; clear hs5; clear hb x0 x1 x2 x3; have x0 := cell_of_blk AB5.out.ax 0 (.string ax) rfl; have x1 := cell_of_blk AB5.out.ax 1 (.int .i64 aty) rfl; have x2 := cell_of_blk AB5.out.ax 2 (.int .i64 al) rfl; have x3 := cell_of_blk AB5.out.ax 3 (.slice pa na ca) rfl) | (go_at_call 11; (with_reducible refine (CP2.out _ hlen _ AB5.out.bel HS5.out).mono ?_); rintro e w6 ⟨⟨p6, c6, rfl, hs6, hl6⟩, hb⟩; have QB := Lib.hid (qbx ⟨#[]⟩ 0 hb); have AB6 := Lib.hid ((AB5.out.keep hb).keep (bnewE w6 (.cells #[.string ⟨#[]⟩, .int .i64 0] 30))); have H6 := Lib.hid (hs6.keep (bnewE w6 (.cells #[.string ⟨#[]⟩, .int .i64 0] 30))); clear hs6; clear hb x0 x1 x2 x3; have q0 := cell_of_blk QB.out.hq 0 (.string ⟨#[]⟩) rfl; have q1 := cell_of_blk QB.out.hq 1 (.int .i64 0) rfl; have p0 := cell_of_blk QB.out.hp 0 (.string ⟨#[]⟩) rfl; have p1 := cell_of_blk QB.out.hp 1 (.int .i64 0) rfl) | (go_at_call 13; (with_reducible refine (CS.out _ _ _ (H5.out.keep QB.out.bel) H6.out (by rw [HM.out]; unfold maxLen; omega)).mono ?_); rintro e w7 ⟨rfl, hb⟩; have AB7 := Lib.hid (AB6.out.keep hb); have hQ7 := (hb.block _ (Array.getElem?_eq_some_iff.1 QB.out.hq).1).trans QB.out.hq; have hP7 := (hb.block _ (Array.getElem?_eq_some_iff.1 QB.out.hp).1).trans QB.out.hp; clear hb q0 q1 p0 p1; have q0 := cell_of_blk hQ7 0 (.string ⟨#[]⟩) rfl; have q1 := cell_of_blk hQ7 1 (.int .i64 0) rfl; have p0 := cell_of_blk hP7 0 (.string ⟨#[]⟩) rfl; have p1 := cell_of_blk hP7 1 (.int .i64 0) rfl; clear hQ7 hP7))
        go_ret
        exact ⟨rfl, AB7.out.bel⟩
  | bad =>
    unfold PathTo at CP1
    simp only at CP1
    have h3 : R2 = .arg ∨ R2 = .bad := by
      rcases HPM.out with h | h | ⟨y, c, h, _⟩
      · exact .inl h
      · exact .inr h
      · cases h
    have CS := Lib.hid (fun W => same_any (w := W) (la := []) (lb := []) (va := .slice none 0 0) (vb := .slice none 0 0) (.inl ⟨rfl, none, 0, rfl⟩) (.inl ⟨rfl, none, 0, rfl⟩) (Nat.zero_le _))
    simp only [decide_true] at CS
    rcases h3 with rfl | rfl
    · unfold PathTo at CP2
      simp only at CP2
      as_aux_lemma =>
        go_wp2_with (first | (go_at_call 11; (with_reducible refine (CP1.out _ AB3.out.bel).mono ?_); rintro e w5 ⟨rfl, hb⟩; have AB5 := Lib.hid ((AB3.out.keep hb).keep (bnewE w5 (.cells #[.string ⟨#[]⟩, .int .i64 0] 30))); have HS5 := Lib.hid ((HS3.out.keep hb).keep (bnewE w5 (.cells #[.string ⟨#[]⟩, .int .i64 0] 30))); clear hb x0 x1 x2 x3; have x0 := cell_of_blk AB5.out.ax 0 (.string ax) rfl; have x1 := cell_of_blk AB5.out.ax 1 (.int .i64 aty) rfl; have x2 := cell_of_blk AB5.out.ax 2 (.int .i64 al) rfl; have x3 := cell_of_blk AB5.out.ax 3 (.slice pa na ca) rfl) | (go_at_call 11; (with_reducible refine (CP2.out _ hlen _ AB5.out.bel HS5.out).mono ?_); rintro e w6 ⟨rfl, hb⟩; have QB := Lib.hid (qbx ⟨#[]⟩ 0 hb); have AB6 := Lib.hid ((AB5.out.keep hb).keep (bnewE w6 (.cells #[.string ⟨#[]⟩, .int .i64 0] 30))); clear hb x0 x1 x2 x3; have q0 := cell_of_blk QB.out.hq 0 (.string ⟨#[]⟩) rfl; have q1 := cell_of_blk QB.out.hq 1 (.int .i64 0) rfl; have p0 := cell_of_blk QB.out.hp 0 (.string ⟨#[]⟩) rfl; have p1 := cell_of_blk QB.out.hp 1 (.int .i64 0) rfl))
        go_ret
        exact ⟨rfl, AB6.out.bel⟩
    · unfold PathTo at CP2
      simp only at CP2
      as_aux_lemma =>
        go_wp2_with (first | (go_at_call 11; (with_reducible refine (CP1.out _ AB3.out.bel).mono ?_); rintro e w5 ⟨rfl, hb⟩; have AB5 := Lib.hid ((AB3.out.keep hb).keep (bnewE w5 (.cells #[.string ⟨#[]⟩, .int .i64 0] 30))); have HS5 := Lib.hid ((HS3.out.keep hb).keep (bnewE w5 (.cells #[.string ⟨#[]⟩, .int .i64 0] 30))); clear hb x0 x1 x2 x3; have x0 := cell_of_blk AB5.out.ax 0 (.string ax) rfl; have x1 := cell_of_blk AB5.out.ax 1 (.int .i64 aty) rfl; have x2 := cell_of_blk AB5.out.ax 2 (.int .i64 al) rfl; have x3 := cell_of_blk AB5.out.ax 3 (.slice pa na ca) rfl) | (go_at_call 11; (with_reducible refine (CP2.out _ hlen _ AB5.out.bel HS5.out).mono ?_); rintro e w6 ⟨rfl, hb⟩; have QB := Lib.hid (qbx ⟨#[]⟩ 0 hb); have AB6 := Lib.hid ((AB5.out.keep hb).keep (bnewE w6 (.cells #[.string ⟨#[]⟩, .int .i64 0] 30))); clear hb x0 x1 x2 x3; have q0 := cell_of_blk QB.out.hq 0 (.string ⟨#[]⟩) rfl; have q1 := cell_of_blk QB.out.hq 1 (.int .i64 0) rfl; have p0 := cell_of_blk QB.out.hp 0 (.string ⟨#[]⟩) rfl; have p1 := cell_of_blk QB.out.hp 1 (.int .i64 0) rfl) | (go_at_call 13; (with_reducible refine (CS.out _).mono ?_); rintro e w7 ⟨rfl, hb⟩; have AB7 := Lib.hid (AB6.out.keep hb); have hQ7 := (hb.block _ (Array.getElem?_eq_some_iff.1 QB.out.hq).1).trans QB.out.hq; have hP7 := (hb.block _ (Array.getElem?_eq_some_iff.1 QB.out.hp).1).trans QB.out.hp; clear hb q0 q1 p0 p1; have q0 := cell_of_blk hQ7 0 (.string ⟨#[]⟩) rfl; have q1 := cell_of_blk hQ7 1 (.int .i64 0) rfl; have p0 := cell_of_blk hP7 0 (.string ⟨#[]⟩) rfl; have p1 := cell_of_blk hP7 1 (.int .i64 0) rfl; clear hQ7 hP7))
        go_ret
        exact ⟨rfl, AB7.out.bel⟩
  | miss y c =>
    obtain ⟨hno, hc⟩ := HPI.out y c rfl
    have CA := Lib.hid (fun W hb => CK1.out y c W hb)
    rw [knownI_none hno] at CA
    unfold PathTo at CP1
    simp only at CP1
    clear hno
    rcases hc with rfl | rfl
    · by_cases h2 : R2 = .arg
      · subst h2
        unfold PathTo at CP2
        simp only at CP2
        as_aux_lemma =>
          go_wp2_with (first | (go_at_call 11; (with_reducible refine (CP1.out _ AB3.out.bel).mono ?_); rintro e w5 ⟨rfl, hb⟩; have AB5 := Lib.hid ((AB3.out.keep hb).keep (bnewE w5 (.cells #[.string y, .int .i64 6] 30))); have HS5 := Lib.hid ((HS3.out.keep hb).keep (bnewE w5 (.cells #[.string y, .int .i64 6] 30))); clear hb x0 x1 x2 x3; have x0 := cell_of_blk AB5.out.ax 0 (.string ax) rfl; have x1 := cell_of_blk AB5.out.ax 1 (.int .i64 aty) rfl; have x2 := cell_of_blk AB5.out.ax 2 (.int .i64 al) rfl; have x3 := cell_of_blk AB5.out.ax 3 (.slice pa na ca) rfl) | (go_at_call 11; (with_reducible refine (CP2.out _ hlen _ AB5.out.bel HS5.out).mono ?_); rintro e w6 ⟨rfl, hb⟩; have QB := Lib.hid (qbx ⟨#[]⟩ 0 hb); have AB6 := Lib.hid ((AB5.out.keep hb).keep (bnewE w6 (.cells #[.string ⟨#[]⟩, .int .i64 0] 30))); clear hb x0 x1 x2 x3; have q0 := cell_of_blk QB.out.hq 0 (.string y) rfl; have q1 := cell_of_blk QB.out.hq 1 (.int .i64 6) rfl; have p0 := cell_of_blk QB.out.hp 0 (.string ⟨#[]⟩) rfl; have p1 := cell_of_blk QB.out.hp 1 (.int .i64 0) rfl))
          go_ret
          exact ⟨rfl, AB6.out.bel⟩
      cases hfm : findK more y 6 with
      | none =>
        have h3 : R2 = .miss y 6 := by
          rcases HPM.out with h | h | ⟨y', c', h, h4⟩
          · exact absurd h h2
          · exact h
          · cases h
            rw [hfm] at h4
            cases h4
        subst h3
        unfold PathTo at CP2
        simp only at CP2
        have CB := Lib.hid (fun W hb => CK2.out y 6 W hb)
        rw [knownI_none hfm] at CB
        clear hfm h2 CK1 CK2 HPM HPA HPI
        as_aux_lemma =>
          go_wp2_with (first | (go_at_call 11; (with_reducible refine (CP1.out _ AB3.out.bel).mono ?_); rintro e w5 ⟨rfl, hb⟩; have AB5 := Lib.hid ((AB3.out.keep hb).keep (bnewE w5 (.cells #[.string y, .int .i64 6] 30))); have HS5 := Lib.hid ((HS3.out.keep hb).keep (bnewE w5 (.cells #[.string y, .int .i64 6] 30))); clear hb x0 x1 x2 x3; have x0 := cell_of_blk AB5.out.ax 0 (.string ax) rfl; have x1 := cell_of_blk AB5.out.ax 1 (.int .i64 aty) rfl; have x2 := cell_of_blk AB5.out.ax 2 (.int .i64 al) rfl; have x3 := cell_of_blk AB5.out.ax 3 (.slice pa na ca) rfl) | (go_at_call 11; (with_reducible refine (CP2.out _ hlen _ AB5.out.bel HS5.out).mono ?_); rintro e w6 ⟨rfl, hb⟩; have QB := Lib.hid (qbx y 6 hb); have AB6 := Lib.hid ((AB5.out.keep hb).keep (bnewE w6 (.cells #[.string y, .int .i64 6] 30))); clear hb x0 x1 x2 x3; have q0 := cell_of_blk QB.out.hq 0 (.string y) rfl; have q1 := cell_of_blk QB.out.hq 1 (.int .i64 6) rfl; have p0 := cell_of_blk QB.out.hp 0 (.string y) rfl; have p1 := cell_of_blk QB.out.hp 1 (.int .i64 6) rfl) | (go_at_call 23; (with_reducible refine (CA.out _ AB6.out.bel).mono ?_); rintro e w' ⟨rfl, rfl⟩) | (go_at_call 23; (with_reducible refine (CB.out _ AB6.out.bel).mono ?_); rintro e w' ⟨rfl, rfl⟩))
          go_ret
          exact ⟨rfl, AB6.out.bel⟩
      | some sm =>
        obtain ⟨j, hj, _⟩ := knownI_some hfm
        have CB := Lib.hid (fun W hb => CK2.out y 6 W hb)
        rw [hj] at CB
        replace CP2 := Lib.hid (fun kv2 hl W hb h5 => (CP2.out kv2 hl W hb h5).mono (fun e w' h => PathTo.any h h2))
        unfold AnyP at CP2
        have hj0 : (0 : Int) ≤ (j : Int) := by omega
        clear hfm h2 hj CK1 CK2 HPM HPA HPI
        as_aux_lemma =>
          go_wp2_with (first | (go_at_call 11; (with_reducible refine (CP1.out _ AB3.out.bel).mono ?_); rintro e w5 ⟨rfl, hb⟩; have AB5 := Lib.hid ((AB3.out.keep hb).keep (bnewE w5 (.cells #[.string y, .int .i64 6] 30))); have HS5 := Lib.hid ((HS3.out.keep hb).keep (bnewE w5 (.cells #[.string y, .int .i64 6] 30))); clear hb x0 x1 x2 x3; have x0 := cell_of_blk AB5.out.ax 0 (.string ax) rfl; have x1 := cell_of_blk AB5.out.ax 1 (.int .i64 aty) rfl; have x2 := cell_of_blk AB5.out.ax 2 (.int .i64 al) rfl; have x3 := cell_of_blk AB5.out.ax 3 (.slice pa na ca) rfl) | (go_at_call 11; (with_reducible refine (CP2.out _ hlen _ AB5.out.bel HS5.out).mono ?_); rintro e w6 ⟨vv, zz, kk, cc, rfl, hc1, hb⟩; have QB := Lib.hid (qbx zz kk hb); have AB6 := Lib.hid ((AB5.out.keep hb).keep (bnewE w6 (.cells #[.string zz, .int .i64 kk] 30))); clear hb x0 x1 x2 x3; have q0 := cell_of_blk QB.out.hq 0 (.string y) rfl; have q1 := cell_of_blk QB.out.hq 1 (.int .i64 6) rfl; have p0 := cell_of_blk QB.out.hp 0 (.string zz) rfl; have p1 := cell_of_blk QB.out.hp 1 (.int .i64 kk) rfl) | (go_at_call 23; (with_reducible refine (CA.out _ AB6.out.bel).mono ?_); rintro e w' ⟨rfl, rfl⟩) | (go_at_call 23; (with_reducible refine (CB.out _ AB6.out.bel).mono ?_); rintro e w' ⟨rfl, rfl⟩))
          go_ret
          exact ⟨rfl, AB6.out.bel⟩
    · by_cases h2 : R2 = .arg
      · subst h2
        unfold PathTo at CP2
        simp only at CP2
        as_aux_lemma =>
          go_wp2_with (first | (go_at_call 11; (with_reducible refine (CP1.out _ AB3.out.bel).mono ?_); rintro e w5 ⟨rfl, hb⟩; have AB5 := Lib.hid ((AB3.out.keep hb).keep (bnewE w5 (.cells #[.string y, .int .i64 7] 30))); have HS5 := Lib.hid ((HS3.out.keep hb).keep (bnewE w5 (.cells #[.string y, .int .i64 7] 30))); clear hb x0 x1 x2 x3; have x0 := cell_of_blk AB5.out.ax 0 (.string ax) rfl; have x1 := cell_of_blk AB5.out.ax 1 (.int .i64 aty) rfl; have x2 := cell_of_blk AB5.out.ax 2 (.int .i64 al) rfl; have x3 := cell_of_blk AB5.out.ax 3 (.slice pa na ca) rfl) | (go_at_call 11; (with_reducible refine (CP2.out _ hlen _ AB5.out.bel HS5.out).mono ?_); rintro e w6 ⟨rfl, hb⟩; have QB := Lib.hid (qbx ⟨#[]⟩ 0 hb); have AB6 := Lib.hid ((AB5.out.keep hb).keep (bnewE w6 (.cells #[.string ⟨#[]⟩, .int .i64 0] 30))); clear hb x0 x1 x2 x3; have q0 := cell_of_blk QB.out.hq 0 (.string y) rfl; have q1 := cell_of_blk QB.out.hq 1 (.int .i64 7) rfl; have p0 := cell_of_blk QB.out.hp 0 (.string ⟨#[]⟩) rfl; have p1 := cell_of_blk QB.out.hp 1 (.int .i64 0) rfl))
          go_ret
          exact ⟨rfl, AB6.out.bel⟩
      cases hfm : findK more y 7 with
      | none =>
        have h3 : R2 = .miss y 7 := by
          rcases HPM.out with h | h | ⟨y', c', h, h4⟩
          · exact absurd h h2
          · exact h
          · cases h
            rw [hfm] at h4
            cases h4
        subst h3
        unfold PathTo at CP2
        simp only at CP2
        have CB := Lib.hid (fun W hb => CK2.out y 7 W hb)
        rw [knownI_none hfm] at CB
        clear hfm h2 CK1 CK2 HPM HPA HPI
        as_aux_lemma =>
          go_wp2_with (first | (go_at_call 11; (with_reducible refine (CP1.out _ AB3.out.bel).mono ?_); rintro e w5 ⟨rfl, hb⟩; have AB5 := Lib.hid ((AB3.out.keep hb).keep (bnewE w5 (.cells #[.string y, .int .i64 7] 30))); have HS5 := Lib.hid ((HS3.out.keep hb).keep (bnewE w5 (.cells #[.string y, .int .i64 7] 30))); clear hb x0 x1 x2 x3; have x0 := cell_of_blk AB5.out.ax 0 (.string ax) rfl; have x1 := cell_of_blk AB5.out.ax 1 (.int .i64 aty) rfl; have x2 := cell_of_blk AB5.out.ax 2 (.int .i64 al) rfl; have x3 := cell_of_blk AB5.out.ax 3 (.slice pa na ca) rfl) | (go_at_call 11; (with_reducible refine (CP2.out _ hlen _ AB5.out.bel HS5.out).mono ?_); rintro e w6 ⟨rfl, hb⟩; have QB := Lib.hid (qbx y 7 hb); have AB6 := Lib.hid ((AB5.out.keep hb).keep (bnewE w6 (.cells #[.string y, .int .i64 7] 30))); clear hb x0 x1 x2 x3; have q0 := cell_of_blk QB.out.hq 0 (.string y) rfl; have q1 := cell_of_blk QB.out.hq 1 (.int .i64 7) rfl; have p0 := cell_of_blk QB.out.hp 0 (.string y) rfl; have p1 := cell_of_blk QB.out.hp 1 (.int .i64 7) rfl) | (go_at_call 23; (with_reducible refine (CA.out _ AB6.out.bel).mono ?_); rintro e w' ⟨rfl, rfl⟩) | (go_at_call 23; (with_reducible refine (CB.out _ AB6.out.bel).mono ?_); rintro e w' ⟨rfl, rfl⟩))
          go_ret
          exact ⟨rfl, AB6.out.bel⟩
      | some sm =>
        obtain ⟨j, hj, _⟩ := knownI_some hfm
        have CB := Lib.hid (fun W hb => CK2.out y 7 W hb)
        rw [hj] at CB
        replace CP2 := Lib.hid (fun kv2 hl W hb h5 => (CP2.out kv2 hl W hb h5).mono (fun e w' h => PathTo.any h h2))
        unfold AnyP at CP2
        have hj0 : (0 : Int) ≤ (j : Int) := by omega
        clear hfm h2 hj CK1 CK2 HPM HPA HPI
        as_aux_lemma =>
          go_wp2_with (first | (go_at_call 11; (with_reducible refine (CP1.out _ AB3.out.bel).mono ?_); rintro e w5 ⟨rfl, hb⟩; have AB5 := Lib.hid ((AB3.out.keep hb).keep (bnewE w5 (.cells #[.string y, .int .i64 7] 30))); have HS5 := Lib.hid ((HS3.out.keep hb).keep (bnewE w5 (.cells #[.string y, .int .i64 7] 30))); clear hb x0 x1 x2 x3; have x0 := cell_of_blk AB5.out.ax 0 (.string ax) rfl; have x1 := cell_of_blk AB5.out.ax 1 (.int .i64 aty) rfl; have x2 := cell_of_blk AB5.out.ax 2 (.int .i64 al) rfl; have x3 := cell_of_blk AB5.out.ax 3 (.slice pa na ca) rfl) | (go_at_call 11; (with_reducible refine (CP2.out _ hlen _ AB5.out.bel HS5.out).mono ?_); rintro e w6 ⟨vv, zz, kk, cc, rfl, hc1, hb⟩; have QB := Lib.hid (qbx zz kk hb); have AB6 := Lib.hid ((AB5.out.keep hb).keep (bnewE w6 (.cells #[.string zz, .int .i64 kk] 30))); clear hb x0 x1 x2 x3; have q0 := cell_of_blk QB.out.hq 0 (.string y) rfl; have q1 := cell_of_blk QB.out.hq 1 (.int .i64 7) rfl; have p0 := cell_of_blk QB.out.hp 0 (.string zz) rfl; have p1 := cell_of_blk QB.out.hp 1 (.int .i64 kk) rfl) | (go_at_call 23; (with_reducible refine (CA.out _ AB6.out.bel).mono ?_); rintro e w' ⟨rfl, rfl⟩) | (go_at_call 23; (with_reducible refine (CB.out _ AB6.out.bel).mono ?_); rintro e w' ⟨rfl, rfl⟩))
          go_ret
          exact ⟨rfl, AB6.out.bel⟩
end Go.Proofs.YtkhckgknldiheaaDoor
