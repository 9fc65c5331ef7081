/- SignDamage of layer 8, walked; no condition beyond those that each theorem names. -/
import Derived.Test.YtpkjpogkimjpoaaGreatDoorDP
import Derived.Test.YtpkjpogkimjpoaaGreatDoorD3
import Derived.Deep.CutRange
import Derived.Deep.RegionWith
import Derived.BigRegion
import Derived.IntWalk
import Derived.Laws.AppendOwn
namespace Go.Proofs.YtpkjpogkimjpoaaGreatDoor
set_option linter.unusedSimpArgs false
set_option linter.unusedVariables false
open Go.RowKit
open NmP

theorem ubox (w : World) (s : St) (n a : Int) : UBx w ((w.alloc (.cells #[.string s.x, .int .i64 s.typ, .int .i64 s.life, s.v] 24)).alloc (.cells #[.int .i64 n, .int .i64 a] 26)) s n a := by
  refine ⟨((Below.refl _ w).alloc (Nat.le_refl _) _).alloc (by simp) _, ?_, ?_⟩
  · rw [heap_alloc_old _ _ (by simp)]
    exact heap_alloc_new w _
  · have := heap_alloc_new (w.alloc (.cells #[.string s.x, .int .i64 s.typ, .int .i64 s.life, s.v] 24)) (.cells #[.int .i64 n, .int .i64 a] 26)
    rw [show (w.alloc (.cells #[.string s.x, .int .i64 s.typ, .int .i64 s.life, s.v] 24)).heap.size = w.heap.size + 1 by simp] at this
    exact this
theorem four_set {W : World} {q : Nat} {o0 o1 o2 o3 : Value} {t : TypeId} (a b c d : Value) (h : W.heap[q]? = some (Obj.cells #[o0, o1, o2, o3] t (0, 0))) :
    ((((W.setCell ⟨q, 0, none⟩ a).setCell ⟨q, 1, none⟩ b).setCell ⟨q, 2, none⟩ c).setCell ⟨q, 3, none⟩ d).heap[q]? = some (Obj.cells #[a, b, c, d] t (0, 0)) := by
  have h1 := heap_setCell_same W q 0 _ _ a h
  have h2 := heap_setCell_same _ q 1 _ _ b h1
  have h3 := heap_setCell_same _ q 2 _ _ c h2
  exact heap_setCell_same _ q 3 _ _ d h3
theorem four_below {n : Nat} {w W : World} {q : Nat} (h : Below n w W) (hq : n ≤ q) (a b c d : Value) : Below n w ((((W.setCell ⟨q, 0, none⟩ a).setCell ⟨q, 1, none⟩ b).setCell ⟨q, 2, none⟩ c).setCell ⟨q, 3, none⟩ d) :=
  (((h.setCell (p := ⟨q, 0, none⟩) hq a).setCell (p := ⟨q, 1, none⟩) hq b).setCell (p := ⟨q, 2, none⟩) hq c).setCell (p := ⟨q, 3, none⟩) hq d
def zDD : Value := .agg #[.string ⟨#[]⟩, .int .i64 0, .int .i64 0]
theorem infoDD : (Tryz.prog.info? 38).map (fun i => (i.zero, i.size, i.bytes)) = some (some zDD, 3, 32) := by kernel_rfl
theorem rowD_one : ∀ (l : List Dt), ∀ u ∈ rowD l, u.oneCell' = true
  | [], u, h => absurd h List.not_mem_nil
  | d :: r, u, h => by
    rw [rowD_cons] at h
    rcases List.mem_append.1 h with h | h
    · simp [valsD] at h
      rcases h with rfl | rfl | rfl <;> rfl
    · exact rowD_one r u h
set_option maxHeartbeats 4000000 in
set_option maxRecDepth 100000 in
theorem damage_not (s : St) (z : ByteArray) (n a f u bq cq hq : Int) (w : World) (hs : s.In w) (hr : RulesAt w) (hn : s.l.length ≤ maxLen) (hz : z.size ≤ maxLen) (hu : usableB s z n a f u = false) :
    Calls Tryz.prog 4 #[.agg #[.string s.x, .int .i64 s.typ, .int .i64 s.life, s.v], .string z, .agg #[.int .i64 n, .int .i64 a], .int .i64 f, .int .i64 u, .int .u64 bq, .int .u8 cq, .int .u8 hq] w (ToB true w) := by
  have AB0 := Lib.hid (ubox w s n a)
  have CH := Lib.hid (fun W (h : RulesAt W) => head_any W h)
  have CU := Lib.hid (fun W (h : s.In W) => usable_any s z n a f u W h hn hz)
  rw [hu] at CU
  have HS := Lib.hid hs
  have HR := Lib.hid hr
  clear hs hr hu
  go_enter Tryz.func4, Tryz.ntmps4
  go_wp2_with (first | (go_at_call 5; (with_reducible refine (CH.out _ (HR.out.keep AB0.out.bel)).mono ?_); rintro e w1 ⟨rfl, hb⟩; have AB1 := Lib.hid (AB0.out.keep hb); clear hb; have c0 := cell_of_blk AB1.out.sx 0 (.string s.x) rfl; have c1 := cell_of_blk AB1.out.sx 1 (.int .i64 s.typ) rfl; have c2 := cell_of_blk AB1.out.sx 2 (.int .i64 s.life) rfl; have c3 := cell_of_blk AB1.out.sx 3 s.v rfl; have d0 := cell_of_blk AB1.out.ky 0 (.int .i64 n) rfl; have d1 := cell_of_blk AB1.out.ky 1 (.int .i64 a) rfl) | (go_at_call 6; (with_reducible refine (CU.out _ (HS.out.keep AB1.out.bel)).mono ?_); rintro e w2 ⟨rfl, hb⟩; have AB2 := Lib.hid (AB1.out.keep hb); clear hb; have c0 := cell_of_blk AB2.out.sx 0 (.string s.x) rfl; have c1 := cell_of_blk AB2.out.sx 1 (.int .i64 s.typ) rfl; have c2 := cell_of_blk AB2.out.sx 2 (.int .i64 s.life) rfl; have c3 := cell_of_blk AB2.out.sx 3 s.v rfl; have d0 := cell_of_blk AB2.out.ky 0 (.int .i64 n) rfl; have d1 := cell_of_blk AB2.out.ky 1 (.int .i64 a) rfl))
  go_ret
  exact ⟨rfl, AB2.out.bel⟩

set_option maxHeartbeats 4000000 in
set_option maxRecDepth 100000 in
theorem damage_yes (x : ByteArray) (typ life : Int) (b off cp : Nat) (l : List Dt) (z : ByteArray) (n a f u bq cq hq : Int) (w : World) (hs : St.In ⟨x, typ, life, .slice (some ⟨b, off, none⟩) l.length cp, l⟩ w) (hrd : b < w.heap.size ∧ RD b off l w) (hr : RulesAt w) (hn : l.length ≤ maxLen) (hz : z.size ≤ maxLen) (hb0 : 0 ≤ bq ∧ bq < 18446744073709551616) (hc0 : 0 ≤ cq ∧ cq < 256) (hh0 : 0 ≤ hq ∧ hq < 256) (hu : usableB ⟨x, typ, life, .slice (some ⟨b, off, none⟩) l.length cp, l⟩ z n a f u = true) :
    Calls Tryz.prog 4 #[.agg #[.string x, .int .i64 typ, .int .i64 life, .slice (some ⟨b, off, none⟩) l.length cp], .string z, .agg #[.int .i64 n, .int .i64 a], .int .i64 f, .int .i64 u, .int .u64 bq, .int .u8 cq, .int .u8 hq] w (ToB true w) := by
  have AB0 := Lib.hid (ubox w ⟨x, typ, life, .slice (some ⟨b, off, none⟩) l.length cp, l⟩ n a)
  have CH := Lib.hid (fun W (h : RulesAt W) => head_any W h)
  have CU := Lib.hid (fun W (h : St.In ⟨x, typ, life, .slice (some ⟨b, off, none⟩) l.length cp, l⟩ W) => usable_any ⟨x, typ, life, .slice (some ⟨b, off, none⟩) l.length cp, l⟩ z n a f u W h hn hz)
  have hsb := usable_sign hu
  rw [hu] at CU
  have hok : St.ok ⟨x, typ, life, .slice (some ⟨b, off, none⟩) l.length cp, l⟩ = true := by
    unfold signB at hsb
    simp only [Bool.and_eq_true] at hsb
    exact hsb.1.1.1.1
  have hzv : z.size < 256 := by
    unfold usableB at hu
    simp only [Bool.and_eq_true, decide_eq_true_eq] at hu
    omega
  have C1 : Hid (∀ W, St.In ⟨x, typ, life, .slice (some ⟨b, off, none⟩) l.length cp, l⟩ W → RulesAt W → Calls Tryz.prog 7 #[.agg #[.string x, .int .i64 typ, .int .i64 life, .slice (some ⟨b, off, none⟩) l.length cp], .string z, .agg #[.int .i64 n, .int .i64 a], .int .i64 f, .int .i64 u] W fun e w' => e = .returned (.tuple #[.agg #[.string z, .int .i64 n, .int .i64 a, .int .i64 f, .int .i64 u, .int .u64 (sigSum ⟨x, typ, life, .slice (some ⟨b, off, none⟩) l.length cp, l⟩ z n a f u)], .int .i64 0]) ∧ Below W.heap.size W w') := Lib.hid (fun W h1 h2 => by
    have q := sign_any ⟨x, typ, life, .slice (some ⟨b, off, none⟩) l.length cp, l⟩ z n a f u W h1 h2 hz
    unfold signV at q
    rwa [if_pos hsb] at q)
  have CC : Hid (∀ (s : St) (m : Int) (W : World), s.In W → RulesAt W → sigSum s z n a f u ≠ m → Calls Tryz.prog 8 #[.agg #[.string s.x, .int .i64 s.typ, .int .i64 s.life, s.v], .agg #[.string z, .int .i64 n, .int .i64 a, .int .i64 f, .int .i64 u, .int .u64 m], .agg #[.int .i64 n, .int .i64 a]] W fun e w' => e = .returned (.bool false) ∧ Below W.heap.size W w') := Lib.hid (fun s m W h1 h2 h3 => by
    have q := check_any s ⟨z, n, a, f, u, m⟩ n a W h1 h2 hz
    rwa [check_sum (s := s) (g := ⟨z, n, a, f, u, m⟩) (n := n) (a := a) h3] at q)
  -- the sum, changed
  have hq1 : ∃ q1 : Int, bits .xor .u64 (sigSum ⟨x, typ, life, .slice (some ⟨b, off, none⟩) l.length cp, l⟩ z n a f u) bq = q1 ∧ (bq ≠ 0 → sigSum ⟨x, typ, life, .slice (some ⟨b, off, none⟩) l.length cp, l⟩ z n a f u ≠ q1) := by
    refine ⟨_, rfl, fun hne => ?_⟩
    obtain ⟨B, rfl⟩ := Int.eq_ofNat_of_zero_le hb0.1
    unfold sigSum
    rw [bits_xor_u64_nat _ _ (sumN_lt _ _ _) (by omega)]
    intro e
    exact xor_ne (by omega) (Int.ofNat.inj e).symm
  -- the lifetime, changed
  have hq2 : ∃ q2 : Int, bits .xor .i64 life cq = q2 ∧ (cq ≠ 0 → sigSum ⟨x, typ, q2, .slice (some ⟨b, off, none⟩) l.length cp, l⟩ z n a f u ≠ sigSum ⟨x, typ, life, .slice (some ⟨b, off, none⟩) l.length cp, l⟩ z n a f u) := by
    refine ⟨_, rfl, fun hne => ?_⟩
    obtain ⟨C, rfl⟩ := Int.eq_ofNat_of_zero_le hc0.1
    obtain ⟨k, hk, hk2⟩ := life_cast hok
    have hk' : life = (k : Int) := hk
    subst hk'
    rw [bits_xor_i64 _ _ (by omega) (by omega)]
    exact sum_life hok hzv rfl (by omega) (by omega)
  -- one number, changed
  have hlen := setB_facts hok
  have hl1 : 1 ≤ l.length := hlen.2.2.2.2.2.1
  have hl8 : l.length ≤ 8 := hlen.2.2.2.2.2.2.1
  obtain ⟨i, hi1, hi2⟩ : ∃ i : Nat, i < l.length ∧ hq.tmod (l.length : Int) = (i : Int) := by
    obtain ⟨H, rfl⟩ := Int.eq_ofNat_of_zero_le hh0.1
    exact ⟨H % l.length, Nat.mod_lt _ (by omega), by rw [Int.tmod_eq_emod_of_nonneg (by omega)]; rfl⟩
  obtain ⟨d, hd⟩ : ∃ d, l[i]? = some d := ⟨_, List.getElem?_eq_getElem hi1⟩
  have hq3 : ∃ q3 : Int, bits .xor .i64 d.2.1 cq = q3 ∧ (cq ≠ 0 → ∀ v, sigSum ⟨x, typ, life, v, chg l i q3⟩ z n a f u ≠ sigSum ⟨x, typ, life, .slice (some ⟨b, off, none⟩) l.length cp, l⟩ z n a f u) := by
    refine ⟨_, rfl, fun hne v => ?_⟩
    obtain ⟨C, rfl⟩ := Int.eq_ofNat_of_zero_le hc0.1
    obtain ⟨k, hk, hk2⟩ := num_cast hok hd
    rw [hk, bits_xor_i64 _ _ (by omega) (by omega)]
    exact sum_datum hok hzv hd hk (by omega) (by omega) v
  obtain ⟨q1, hx1, hn1⟩ := hq1
  obtain ⟨q2, hx2, hn2⟩ := hq2
  obtain ⟨q3, hx3, hn3⟩ := hq3
  generalize hsm : sigSum ⟨x, typ, life, .slice (some ⟨b, off, none⟩) l.length cp, l⟩ z n a f u = sm at *
  have HSM := Lib.hid hsm
  have HS := Lib.hid hs
  have HR := Lib.hid hr
  have HRD := Lib.hid hrd
  have N1 := Lib.hid hn1
  have N2 := Lib.hid hn2
  have N3 := Lib.hid hn3
  have X1 := Lib.hid hx1
  have X2 := Lib.hid hx2
  have X3 := Lib.hid hx3
  have HD := Lib.hid hd
  have I2 := Lib.hid hi2
  clear hs hr hu hsb hrd hn1 hn2 hn3 hx1 hx2 hx3 hok hlen hsm hd hi2
  go_enter Tryz.func4, Tryz.ntmps4
  go_upto_region 7 with (first | (go_at_call 5; (with_reducible refine (CH.out _ (HR.out.keep AB0.out.bel)).mono ?_); rintro e w1 ⟨rfl, hb⟩; have AB1 := Lib.hid (AB0.out.keep hb); clear hb; have c0 := cell_of_blk AB1.out.sx 0 (.string x) rfl; have c1 := cell_of_blk AB1.out.sx 1 (.int .i64 typ) rfl; have c2 := cell_of_blk AB1.out.sx 2 (.int .i64 life) rfl; have c3 := cell_of_blk AB1.out.sx 3 (.slice (some ⟨b, off, none⟩) l.length cp) rfl; have d0 := cell_of_blk AB1.out.ky 0 (.int .i64 n) rfl; have d1 := cell_of_blk AB1.out.ky 1 (.int .i64 a) rfl; have z0 := (Array.getElem?_eq_some_iff.1 AB1.out.sx).1; have z1 := (Array.getElem?_eq_some_iff.1 AB1.out.ky).1) | (go_at_call 6; (with_reducible refine (CU.out _ (HS.out.keep AB1.out.bel)).mono ?_); rintro e w2 ⟨rfl, hb⟩; have AB2 := Lib.hid (AB1.out.keep hb); clear hb; have c0 := cell_of_blk AB2.out.sx 0 (.string x) rfl; have c1 := cell_of_blk AB2.out.sx 1 (.int .i64 typ) rfl; have c2 := cell_of_blk AB2.out.sx 2 (.int .i64 life) rfl; have c3 := cell_of_blk AB2.out.sx 3 (.slice (some ⟨b, off, none⟩) l.length cp) rfl; have d0 := cell_of_blk AB2.out.ky 0 (.int .i64 n) rfl; have d1 := cell_of_blk AB2.out.ky 1 (.int .i64 a) rfl; have z0 := (Array.getElem?_eq_some_iff.1 AB2.out.sx).1; have z1 := (Array.getElem?_eq_some_iff.1 AB2.out.ky).1) | (go_at_call 7; (with_reducible refine (C1.out _ (HS.out.keep AB2.out.bel) (HR.out.keep AB2.out.bel)).mono ?_); rintro e w3 ⟨rfl, hb⟩; have AB3 := Lib.hid (AB2.out.keep hb); clear hb; have c0 := cell_of_blk AB3.out.sx 0 (.string x) rfl; have c1 := cell_of_blk AB3.out.sx 1 (.int .i64 typ) rfl; have c2 := cell_of_blk AB3.out.sx 2 (.int .i64 life) rfl; have c3 := cell_of_blk AB3.out.sx 3 (.slice (some ⟨b, off, none⟩) l.length cp) rfl; have d0 := cell_of_blk AB3.out.ky 0 (.int .i64 n) rfl; have d1 := cell_of_blk AB3.out.ky 1 (.int .i64 a) rfl; have z0 := (Array.getElem?_eq_some_iff.1 AB3.out.sx).1; have z1 := (Array.getElem?_eq_some_iff.1 AB3.out.ky).1))
  have AB4 := Lib.hid (AB3.out.keep ((Below.refl _ w3).alloc (Nat.le_refl _) (.cells #[.string z, .int .i64 n, .int .i64 a, .int .i64 f, .int .i64 u, .int .u64 sm] 29)))
  have X4 : Hid ((w3.alloc (.cells #[.string z, .int .i64 n, .int .i64 a, .int .i64 f, .int .i64 u, .int .u64 sm] 29)).heap[w3.heap.size]? = some (Obj.cells #[.string z, .int .i64 n, .int .i64 a, .int .i64 f, .int .i64 u, .int .u64 sm] 29 (0, 0))) := Lib.hid (heap_alloc_new w3 _)
  obtain ⟨r, hrr⟩ : ∃ r, w3.heap.size = r := ⟨_, rfl⟩
  have HQ : Hid (w.heap.size + 1 < r) := Lib.hid (by rw [← hrr]; exact z1)
  rw [hrr] at X4 ⊢
  clear c0 c1 c2 c3 d0 d1 z0 z1
  generalize w3.alloc _ = W4 at *
  clear hrr
  have c0 := cell_of_blk AB4.out.sx 0 (.string x) rfl
  have c1 := cell_of_blk AB4.out.sx 1 (.int .i64 typ) rfl
  have c2 := cell_of_blk AB4.out.sx 2 (.int .i64 life) rfl
  have c3 := cell_of_blk AB4.out.sx 3 (.slice (some ⟨b, off, none⟩) l.length cp) rfl
  have d0 := cell_of_blk AB4.out.ky 0 (.int .i64 n) rfl
  have d1 := cell_of_blk AB4.out.ky 1 (.int .i64 a) rfl
  have z0 := (Array.getElem?_eq_some_iff.1 AB4.out.sx).1
  have z1 := (Array.getElem?_eq_some_iff.1 AB4.out.ky).1
  have x0 := cell_of_blk X4.out 0 (.string z) rfl
  have x1 := cell_of_blk X4.out 1 (.int .i64 n) rfl
  have x2 := cell_of_blk X4.out 2 (.int .i64 a) rfl
  have x3 := cell_of_blk X4.out 3 (.int .i64 f) rfl
  have x4 := cell_of_blk X4.out 4 (.int .i64 u) rfl
  have x5 := cell_of_blk X4.out 5 (.int .u64 sm) rfl
  have z2 := (Array.getElem?_eq_some_iff.1 X4.out).1
  clear AB1 AB2 AB3 AB0
  by_cases hbq : bq = 0
  · subst hbq
    go_upto_region 12 with fail
    as_aux_lemma =>
      by_cases hcq : cq = 0
      · subst hcq
        as_aux_lemma =>
          go_wp2
          go_ret
          exact ⟨rfl, AB4.out.bel⟩
      · have hb1 : (cq == 0) = false := beq_eq_false_iff_ne.2 hcq
        have hb2 : (cq != 0) = true := by rw [bne_iff_ne]; exact hcq
        have hx2 := X2.out
        have NN2 := Lib.hid (N2.out hcq)
        have NN3 := Lib.hid (N3.out hcq)
        clear hcq N1 N2 N3
        go_upto_region 17 with (go_at_call 8; (with_reducible refine (CC.out ⟨x, typ, q2, .slice (some ⟨b, off, none⟩) l.length cp, l⟩ sm _ ⟨HS.out.hx, HS.out.hs, (HS.out.keep (AB4.out.bel.alloc AB4.out.bel.size _)).hA⟩ (HR.out.keep (AB4.out.bel.alloc AB4.out.bel.size _)) NN2.out).mono ?_); rintro e w5 ⟨rfl, hb⟩; have O5 := Lib.hid ((hb.block W4.heap.size (by simp)).trans (heap_alloc_new W4 _)); replace X4 := Lib.hid ((hb.block r (by simp; omega)).trans ((heap_alloc_old _ _ z2).trans X4.out)); have HO := Lib.hid AB4.out.bel.size; have HO2 := Lib.hid z2; replace AB4 := Lib.hid ((AB4.out.keep ((Below.refl _ _).alloc (Nat.le_refl _) _)).keep hb); clear hb; clear c0 c1 c2 c3 d0 d1 z0 z1 x0 x1 x2 x3 x4 x5 z2; have c0 := cell_of_blk AB4.out.sx 0 (.string x) rfl; have c1 := cell_of_blk AB4.out.sx 1 (.int .i64 typ) rfl; have c2 := cell_of_blk AB4.out.sx 2 (.int .i64 life) rfl; have c3 := cell_of_blk AB4.out.sx 3 (.slice (some ⟨b, off, none⟩) l.length cp) rfl; have d0 := cell_of_blk AB4.out.ky 0 (.int .i64 n) rfl; have d1 := cell_of_blk AB4.out.ky 1 (.int .i64 a) rfl; have z0 := (Array.getElem?_eq_some_iff.1 AB4.out.sx).1; have z1 := (Array.getElem?_eq_some_iff.1 AB4.out.ky).1; have x0 := cell_of_blk X4.out 0 (.string z) rfl; have x1 := cell_of_blk X4.out 1 (.int .i64 n) rfl; have x2 := cell_of_blk X4.out 2 (.int .i64 a) rfl; have x3 := cell_of_blk X4.out 3 (.int .i64 f) rfl; have x4 := cell_of_blk X4.out 4 (.int .i64 u) rfl; have x5 := cell_of_blk X4.out 5 (.int .u64 sm) rfl; have z2 := (Array.getElem?_eq_some_iff.1 X4.out).1)
        obtain ⟨o, ho⟩ : ∃ o, W4.heap.size = o := ⟨_, rfl⟩
        rw [ho] at O5 HO HO2 ⊢
        clear ho hx2 hb1 hb2
        have o0 := cell_of_blk O5.out 0 (.string x) rfl
        have o1 := cell_of_blk O5.out 1 (.int .i64 typ) rfl
        have o2 := cell_of_blk O5.out 2 (.int .i64 q2) rfl
        have o3 := cell_of_blk O5.out 3 (.slice (some ⟨b, off, none⟩) l.length cp) rfl
        have of0 := frozen_of_blk O5.out 0
        have of1 := frozen_of_blk O5.out 1
        have of2 := frozen_of_blk O5.out 2
        have of3 := frozen_of_blk O5.out 3
        have z3 := (Array.getElem?_eq_some_iff.1 O5.out).1
        go_upto_region 18 with fail
        have hne1 : w.heap.size ≠ o := by have := HQ.out; have := HO2.out; omega
        have hne2 : w.heap.size + 1 ≠ o := by have := HQ.out; have := HO2.out; omega
        have hne3 : r ≠ o := by have := HO2.out; omega
        have O6 := Lib.hid (four_set (.string x) (.int .i64 typ) (.int .i64 life) (.slice (some ⟨b, off, none⟩) l.length cp) O5.out)
        have hbx := four_below (n := o) (Below.refl _ w5) (Nat.le_refl _) (.string x) (.int .i64 typ) (.int .i64 life) (.slice (some ⟨b, off, none⟩) l.length cp)
        have X6 := Lib.hid ((hbx.block r HO2.out).trans X4.out)
        have A6 := Lib.hid (four_below AB4.out.bel HO.out (.string x) (.int .i64 typ) (.int .i64 life) (.slice (some ⟨b, off, none⟩) l.length cp))
        have S6 := Lib.hid ((hbx.block w.heap.size (by have := HQ.out; have := HO2.out; omega)).trans AB4.out.sx)
        have K6 := Lib.hid ((hbx.block (w.heap.size + 1) (by have := HQ.out; have := HO2.out; omega)).trans AB4.out.ky)
        clear hbx O5 X4 AB4
        have AB4 : Hid (UBx w _ ⟨x, typ, life, .slice (some ⟨b, off, none⟩) l.length cp, l⟩ n a) := Lib.hid ⟨A6.out, S6.out, K6.out⟩
        clear A6 S6 K6 c0 c1 c2 c3 d0 d1 z0 z1 x0 x1 x2 x3 x4 x5 z2 o0 o1 o2 o3 of0 of1 of2 of3 z3
        generalize (((World.setCell _ _ _).setCell _ _).setCell _ _).setCell _ _ = W6 at *
        have c0 := cell_of_blk AB4.out.sx 0 (.string x) rfl
        have c1 := cell_of_blk AB4.out.sx 1 (.int .i64 typ) rfl
        have c2 := cell_of_blk AB4.out.sx 2 (.int .i64 life) rfl
        have c3 := cell_of_blk AB4.out.sx 3 (.slice (some ⟨b, off, none⟩) l.length cp) rfl
        have d0 := cell_of_blk AB4.out.ky 0 (.int .i64 n) rfl
        have d1 := cell_of_blk AB4.out.ky 1 (.int .i64 a) rfl
        have z0 := (Array.getElem?_eq_some_iff.1 AB4.out.sx).1
        have z1 := (Array.getElem?_eq_some_iff.1 AB4.out.ky).1
        have x0 := cell_of_blk X6.out 0 (.string z) rfl
        have x1 := cell_of_blk X6.out 1 (.int .i64 n) rfl
        have x2 := cell_of_blk X6.out 2 (.int .i64 a) rfl
        have x3 := cell_of_blk X6.out 3 (.int .i64 f) rfl
        have x4 := cell_of_blk X6.out 4 (.int .i64 u) rfl
        have x5 := cell_of_blk X6.out 5 (.int .u64 sm) rfl
        have z2 := (Array.getElem?_eq_some_iff.1 X6.out).1
        have o0 := cell_of_blk O6.out 0 (.string x) rfl
        have o1 := cell_of_blk O6.out 1 (.int .i64 typ) rfl
        have o2 := cell_of_blk O6.out 2 (.int .i64 life) rfl
        have o3 := cell_of_blk O6.out 3 (.slice (some ⟨b, off, none⟩) l.length cp) rfl
        have of0 := frozen_of_blk O6.out 0
        have of1 := frozen_of_blk O6.out 1
        have of2 := frozen_of_blk O6.out 2
        have of3 := frozen_of_blk O6.out 3
        have z3 := (Array.getElem?_eq_some_iff.1 O6.out).1
        have HAP : Hid (∀ j u, (rowD l)[j]? = some u → (W6.alloc (.cells #[] 38)).cell? ((⟨b, off, none⟩ : Addr).add j) = some u) := Lib.hid (fun j u hj => by
          rw [Go.WideShapes.add_plain]
          exact (HRD.out.2.keep HRD.out.1 (AB4.out.bel.mono (Nat.le_refl _))).keep (Nat.lt_of_lt_of_le HRD.out.1 AB4.out.bel.size) ((Below.refl _ W6).alloc (Nat.le_refl _) _) j u hj)
        obtain ⟨i0, hi0, hz0, hz1, hz2⟩ := info_parts infoDD
        have HI := Lib.hid hi0
        have HZ0 := Lib.hid hz0
        have HZ1 := Lib.hid hz1
        have HZ2 := Lib.hid hz2
        clear hi0 hz0 hz1 hz2
        go_upto_region 19 with (at_builtin; refine wpList_append_own _ rfl (.tmp 68) (.tmp 70) 22 rfl (o + 1) 38 i0 zDD 3 32 Tryz.underlying22 HI.out HZ0.out HZ1.out HZ2.out rfl (by decide) (.slice (some ⟨W6.heap.size, 0, none⟩) 0 0) 0 [] rfl (World.ownsRow_made W6 #[] 0 (by omega) (by decide) rfl) ⟨b, off, none⟩ l.length cp (rowD l) rfl (by rw [rowD_len]; omega) HAP.out (rowD_one l) (by unfold maxLen; omega) (by omega) (by simp; omega) ?_; intro v' w7 hown hgrow hiff; clear hiff; rw [Nat.zero_add, List.nil_append] at hown; obtain ⟨g, cap, cur, rfl, hg1, hg2, hg3, hg4⟩ := own_data hown hl1; have G3 := Lib.hid hg3; have G4 := Lib.hid hg4; clear hown hg3 hg4; have hB7 : Below W6.heap.size W6 w7 := ⟨hgrow.os, hgrow.tape, hgrow.output, Nat.le_trans (by simp) hgrow.size, fun k hk => (hgrow.block k (by simp; omega) (by simp [Value.ownBlock]; omega)).trans (heap_alloc_old _ _ hk)⟩; have O7 := Lib.hid ((hB7.block o z3).trans O6.out); have X7 := Lib.hid ((hB7.block r z2).trans X6.out); have AB7 := Lib.hid (AB4.out.keep hB7); clear hB7 hgrow; have c0 := cell_of_blk AB7.out.sx 0 (.string x) rfl; have c1 := cell_of_blk AB7.out.sx 1 (.int .i64 typ) rfl; have c2 := cell_of_blk AB7.out.sx 2 (.int .i64 life) rfl; have c3 := cell_of_blk AB7.out.sx 3 (.slice (some ⟨b, off, none⟩) l.length cp) rfl; have d0 := cell_of_blk AB7.out.ky 0 (.int .i64 n) rfl; have d1 := cell_of_blk AB7.out.ky 1 (.int .i64 a) rfl; have z0 := (Array.getElem?_eq_some_iff.1 AB7.out.sx).1; have z1 := (Array.getElem?_eq_some_iff.1 AB7.out.ky).1; have x0 := cell_of_blk X7.out 0 (.string z) rfl; have x1 := cell_of_blk X7.out 1 (.int .i64 n) rfl; have x2 := cell_of_blk X7.out 2 (.int .i64 a) rfl; have x3 := cell_of_blk X7.out 3 (.int .i64 f) rfl; have x4 := cell_of_blk X7.out 4 (.int .i64 u) rfl; have x5 := cell_of_blk X7.out 5 (.int .u64 sm) rfl; have z2 := (Array.getElem?_eq_some_iff.1 X7.out).1; have o0 := cell_of_blk O7.out 0 (.string x) rfl; have o1 := cell_of_blk O7.out 1 (.int .i64 typ) rfl; have o2 := cell_of_blk O7.out 2 (.int .i64 life) rfl; have o3 := cell_of_blk O7.out 3 (.slice (some ⟨b, off, none⟩) l.length cp) rfl; have of0 := frozen_of_blk O7.out 0; have of1 := frozen_of_blk O7.out 1; have of2 := frozen_of_blk O7.out 2; have of3 := frozen_of_blk O7.out 3; have z3 := (Array.getElem?_eq_some_iff.1 O7.out).1)
        have O8 := Lib.hid (heap_setCell_same w7 o 3 _ _ (.slice (some ⟨g, 0, none⟩) l.length cap) O7.out)
        have X8 := Lib.hid ((heap_setCell_other w7 ⟨o, 3, none⟩ r (.slice (some ⟨g, 0, none⟩) l.length cap) hne3).trans X7.out)
        have G8 := Lib.hid ((heap_setCell_other w7 ⟨o, 3, none⟩ g (.slice (some ⟨g, 0, none⟩) l.length cap) (by simp; omega)).trans G3.out)
        have AB8 : Hid (UBx w (w7.setCell ⟨o, 3, none⟩ (.slice (some ⟨g, 0, none⟩) l.length cap)) ⟨x, typ, life, .slice (some ⟨b, off, none⟩) l.length cp, l⟩ n a) := Lib.hid ⟨AB7.out.bel.setCell (p := ⟨o, 3, none⟩) HO.out _, (heap_setCell_other w7 ⟨o, 3, none⟩ _ _ hne1).trans AB7.out.sx, (heap_setCell_other w7 ⟨o, 3, none⟩ _ _ hne2).trans AB7.out.ky⟩
        clear c0 c1 c2 c3 d0 d1 z0 z1 x0 x1 x2 x3 x4 x5 z2 o0 o1 o2 o3 of0 of1 of2 of3 z3 O7 X7 G3 AB7 AB4 O6 X6 HAP
        generalize World.setCell w7 _ _ = W8 at *
        have NUM := Lib.hid (own_num G8.out G4.out HD.out)
        have o3 := cell_of_blk O8.out 3 (.slice (some ⟨g, 0, none⟩) l.length cap) rfl
        have gc := cell_of_blk G8.out (i * 3 + 1) _ NUM.out
        have gf := frozen_of_blk G8.out (i * 3 + 1)
        have z3 := (Array.getElem?_eq_some_iff.1 G8.out).1
        have l0 : ¬ ((l.length : Int) = 0) := by omega
        have l1 : ((l.length : Int) = 0) = False := eq_false l0
        have t0 := I2.out
        have b0 : (0 : Int) ≤ (i : Int) := by omega
        have b1 : (i : Int) < (l.length : Int) := by omega
        have v1 : IntKind.i64.wrap hq = hq := IntWalk.i64_in _ (by omega)
        have v2 : IntKind.i64.wrap cq = cq := IntWalk.i64_in _ (by omega)
        have v3 : IntKind.i64.wrap (l.length : Int) = (l.length : Int) := IntWalk.i64_in _ (by omega)
        have v4 : IntKind.i64.wrap (i : Int) = (i : Int) := IntWalk.i64_in _ (by omega)
        have hx3 := X3.out
        go_region
        have hgo : w.heap.size ≠ g := by have := HO.out; omega
        have hgo1 : w.heap.size + 1 ≠ g := by have := HQ.out; have := HO2.out; omega
        have hgo2 : r ≠ g := by have := HO2.out; omega
        have hgo3 : o ≠ g := by omega
        have SD9 := Lib.hid ((data_changed (cap := cap) G8.out G4.out HD.out q3).keep (below_drewD (Below.refl _ _) 1))
        have O9 : Hid ((W8.setCell ⟨g, i * 3 + 1, none⟩ (.int .i64 q3)).drew.heap[o]? = _) := Lib.hid ((heap_setCell_other W8 ⟨g, i * 3 + 1, none⟩ o (.int .i64 q3) hgo3).trans O8.out)
        have X9 : Hid ((W8.setCell ⟨g, i * 3 + 1, none⟩ (.int .i64 q3)).drew.heap[r]? = _) := Lib.hid ((heap_setCell_other W8 ⟨g, i * 3 + 1, none⟩ r (.int .i64 q3) hgo2).trans X8.out)
        have AB9 : Hid (UBx w (W8.setCell ⟨g, i * 3 + 1, none⟩ (.int .i64 q3)).drew ⟨x, typ, life, .slice (some ⟨b, off, none⟩) l.length cp, l⟩ n a) := Lib.hid ⟨below_drewD (AB8.out.bel.setCell (p := ⟨g, i * 3 + 1, none⟩) (by have := HO.out; simp only; omega) _) 1, (heap_setCell_other W8 ⟨g, i * 3 + 1, none⟩ _ (.int .i64 q3) hgo).trans AB8.out.sx, (heap_setCell_other W8 ⟨g, i * 3 + 1, none⟩ _ (.int .i64 q3) hgo1).trans AB8.out.ky⟩
        clear o3 gc gf z3 l0 l1 t0 b0 b1 v1 v2 v3 v4 hx3 O8 X8 AB8 NUM
        have SD9' : Hid (SlD (.slice (some ⟨g, 0, none⟩) l.length cap) (chg l i q3) (W8.setCell ⟨g, i * 3 + 1, none⟩ (.int .i64 q3)).drew) := SD9
        clear SD9 G8
        generalize World.drew _ = W9 at *
        have IN9 : Hid (St.In ⟨x, typ, life, .slice (some ⟨g, 0, none⟩) l.length cap, chg l i q3⟩ W9) := Lib.hid ⟨HS.out.hx, fun e he => by
          rw [chg_some HD.out] at he
          rcases List.mem_or_eq_of_mem_set he with h | h
          · exact HS.out.hs e h
          · subst h
            exact HS.out.hs d (List.mem_of_getElem? HD.out), SD9'.out⟩
        clear hgo hgo1 hgo2 hgo3 hne1 hne2 hne3 hg1 hg2
        have c0 := cell_of_blk AB9.out.sx 0 (.string x) rfl
        have c1 := cell_of_blk AB9.out.sx 1 (.int .i64 typ) rfl
        have c2 := cell_of_blk AB9.out.sx 2 (.int .i64 life) rfl
        have c3 := cell_of_blk AB9.out.sx 3 (.slice (some ⟨b, off, none⟩) l.length cp) rfl
        have d0 := cell_of_blk AB9.out.ky 0 (.int .i64 n) rfl
        have d1 := cell_of_blk AB9.out.ky 1 (.int .i64 a) rfl
        have z0 := (Array.getElem?_eq_some_iff.1 AB9.out.sx).1
        have z1 := (Array.getElem?_eq_some_iff.1 AB9.out.ky).1
        have x0 := cell_of_blk X9.out 0 (.string z) rfl
        have x1 := cell_of_blk X9.out 1 (.int .i64 n) rfl
        have x2 := cell_of_blk X9.out 2 (.int .i64 a) rfl
        have x3 := cell_of_blk X9.out 3 (.int .i64 f) rfl
        have x4 := cell_of_blk X9.out 4 (.int .i64 u) rfl
        have x5 := cell_of_blk X9.out 5 (.int .u64 sm) rfl
        have z2 := (Array.getElem?_eq_some_iff.1 X9.out).1
        have o0 := cell_of_blk O9.out 0 (.string x) rfl
        have o1 := cell_of_blk O9.out 1 (.int .i64 typ) rfl
        have o2 := cell_of_blk O9.out 2 (.int .i64 life) rfl
        have o3 := cell_of_blk O9.out 3 (.slice (some ⟨g, 0, none⟩) l.length cap) rfl
        as_aux_lemma =>
          go_wp2_with (go_at_call 8; (with_reducible refine (CC.out ⟨x, typ, life, .slice (some ⟨g, 0, none⟩) l.length cap, chg l i q3⟩ sm _ IN9.out (HR.out.keep AB9.out.bel) (NN3.out _)).mono ?_); rintro e w10 ⟨rfl, hb⟩; replace AB9 := Lib.hid (AB9.out.keep hb); clear hb)
          go_ret
          exact ⟨rfl, AB9.out.bel⟩
  · have hb1 : (bq == 0) = false := beq_eq_false_iff_ne.2 hbq
    have hb2 : (bq != 0) = true := by rw [bne_iff_ne]; exact hbq
    have hx1 := X1.out
    have NN1 := Lib.hid (N1.out hbq)
    clear hbq
    go_upto_region 12 with (go_at_call 8; (with_reducible refine (CC.out ⟨x, typ, life, .slice (some ⟨b, off, none⟩) l.length cp, l⟩ q1 _ (HS.out.keep (AB4.out.bel.alloc AB4.out.bel.size _)) (HR.out.keep (AB4.out.bel.alloc AB4.out.bel.size _)) (by rw [HSM.out]; exact NN1.out)).mono ?_); rintro e w5 ⟨rfl, hb⟩; replace X4 := Lib.hid ((hb.block r (by simp; omega)).trans ((heap_alloc_old _ _ z2).trans X4.out)); replace AB4 := Lib.hid ((AB4.out.keep ((Below.refl _ _).alloc (Nat.le_refl _) _)).keep hb); clear hb; clear c0 c1 c2 c3 d0 d1 z0 z1 x0 x1 x2 x3 x4 x5 z2; have c0 := cell_of_blk AB4.out.sx 0 (.string x) rfl; have c1 := cell_of_blk AB4.out.sx 1 (.int .i64 typ) rfl; have c2 := cell_of_blk AB4.out.sx 2 (.int .i64 life) rfl; have c3 := cell_of_blk AB4.out.sx 3 (.slice (some ⟨b, off, none⟩) l.length cp) rfl; have d0 := cell_of_blk AB4.out.ky 0 (.int .i64 n) rfl; have d1 := cell_of_blk AB4.out.ky 1 (.int .i64 a) rfl; have z0 := (Array.getElem?_eq_some_iff.1 AB4.out.sx).1; have z1 := (Array.getElem?_eq_some_iff.1 AB4.out.ky).1; have x0 := cell_of_blk X4.out 0 (.string z) rfl; have x1 := cell_of_blk X4.out 1 (.int .i64 n) rfl; have x2 := cell_of_blk X4.out 2 (.int .i64 a) rfl; have x3 := cell_of_blk X4.out 3 (.int .i64 f) rfl; have x4 := cell_of_blk X4.out 4 (.int .i64 u) rfl; have x5 := cell_of_blk X4.out 5 (.int .u64 sm) rfl; have z2 := (Array.getElem?_eq_some_iff.1 X4.out).1)
    clear hx1 hb1 hb2
    as_aux_lemma =>
      by_cases hcq : cq = 0
      · subst hcq
        as_aux_lemma =>
          go_wp2
          go_ret
          exact ⟨rfl, AB4.out.bel⟩
      · have hb1 : (cq == 0) = false := beq_eq_false_iff_ne.2 hcq
        have hb2 : (cq != 0) = true := by rw [bne_iff_ne]; exact hcq
        have hx2 := X2.out
        have NN2 := Lib.hid (N2.out hcq)
        have NN3 := Lib.hid (N3.out hcq)
        clear hcq N1 N2 N3
        go_upto_region 17 with (go_at_call 8; (with_reducible refine (CC.out ⟨x, typ, q2, .slice (some ⟨b, off, none⟩) l.length cp, l⟩ sm _ ⟨HS.out.hx, HS.out.hs, (HS.out.keep (AB4.out.bel.alloc AB4.out.bel.size _)).hA⟩ (HR.out.keep (AB4.out.bel.alloc AB4.out.bel.size _)) NN2.out).mono ?_); rintro e w6 ⟨rfl, hb⟩; have O5 := Lib.hid ((hb.block w5.heap.size (by simp)).trans (heap_alloc_new w5 _)); replace X4 := Lib.hid ((hb.block r (by simp; omega)).trans ((heap_alloc_old _ _ z2).trans X4.out)); have HO := Lib.hid AB4.out.bel.size; have HO2 := Lib.hid z2; replace AB4 := Lib.hid ((AB4.out.keep ((Below.refl _ _).alloc (Nat.le_refl _) _)).keep hb); clear hb; clear c0 c1 c2 c3 d0 d1 z0 z1 x0 x1 x2 x3 x4 x5 z2; have c0 := cell_of_blk AB4.out.sx 0 (.string x) rfl; have c1 := cell_of_blk AB4.out.sx 1 (.int .i64 typ) rfl; have c2 := cell_of_blk AB4.out.sx 2 (.int .i64 life) rfl; have c3 := cell_of_blk AB4.out.sx 3 (.slice (some ⟨b, off, none⟩) l.length cp) rfl; have d0 := cell_of_blk AB4.out.ky 0 (.int .i64 n) rfl; have d1 := cell_of_blk AB4.out.ky 1 (.int .i64 a) rfl; have z0 := (Array.getElem?_eq_some_iff.1 AB4.out.sx).1; have z1 := (Array.getElem?_eq_some_iff.1 AB4.out.ky).1; have x0 := cell_of_blk X4.out 0 (.string z) rfl; have x1 := cell_of_blk X4.out 1 (.int .i64 n) rfl; have x2 := cell_of_blk X4.out 2 (.int .i64 a) rfl; have x3 := cell_of_blk X4.out 3 (.int .i64 f) rfl; have x4 := cell_of_blk X4.out 4 (.int .i64 u) rfl; have x5 := cell_of_blk X4.out 5 (.int .u64 sm) rfl; have z2 := (Array.getElem?_eq_some_iff.1 X4.out).1)
        obtain ⟨o, ho⟩ : ∃ o, w5.heap.size = o := ⟨_, rfl⟩
        rw [ho] at O5 HO HO2 ⊢
        clear ho hx2 hb1 hb2
        have o0 := cell_of_blk O5.out 0 (.string x) rfl
        have o1 := cell_of_blk O5.out 1 (.int .i64 typ) rfl
        have o2 := cell_of_blk O5.out 2 (.int .i64 q2) rfl
        have o3 := cell_of_blk O5.out 3 (.slice (some ⟨b, off, none⟩) l.length cp) rfl
        have of0 := frozen_of_blk O5.out 0
        have of1 := frozen_of_blk O5.out 1
        have of2 := frozen_of_blk O5.out 2
        have of3 := frozen_of_blk O5.out 3
        have z3 := (Array.getElem?_eq_some_iff.1 O5.out).1
        go_upto_region 18 with fail
        have hne1 : w.heap.size ≠ o := by have := HQ.out; have := HO2.out; omega
        have hne2 : w.heap.size + 1 ≠ o := by have := HQ.out; have := HO2.out; omega
        have hne3 : r ≠ o := by have := HO2.out; omega
        have O6 := Lib.hid (four_set (.string x) (.int .i64 typ) (.int .i64 life) (.slice (some ⟨b, off, none⟩) l.length cp) O5.out)
        have hbx := four_below (n := o) (Below.refl _ w6) (Nat.le_refl _) (.string x) (.int .i64 typ) (.int .i64 life) (.slice (some ⟨b, off, none⟩) l.length cp)
        have X6 := Lib.hid ((hbx.block r HO2.out).trans X4.out)
        have A6 := Lib.hid (four_below AB4.out.bel HO.out (.string x) (.int .i64 typ) (.int .i64 life) (.slice (some ⟨b, off, none⟩) l.length cp))
        have S6 := Lib.hid ((hbx.block w.heap.size (by have := HQ.out; have := HO2.out; omega)).trans AB4.out.sx)
        have K6 := Lib.hid ((hbx.block (w.heap.size + 1) (by have := HQ.out; have := HO2.out; omega)).trans AB4.out.ky)
        clear hbx O5 X4 AB4
        have AB4 : Hid (UBx w _ ⟨x, typ, life, .slice (some ⟨b, off, none⟩) l.length cp, l⟩ n a) := Lib.hid ⟨A6.out, S6.out, K6.out⟩
        clear A6 S6 K6 c0 c1 c2 c3 d0 d1 z0 z1 x0 x1 x2 x3 x4 x5 z2 o0 o1 o2 o3 of0 of1 of2 of3 z3
        generalize (((World.setCell _ _ _).setCell _ _).setCell _ _).setCell _ _ = W6 at *
        have c0 := cell_of_blk AB4.out.sx 0 (.string x) rfl
        have c1 := cell_of_blk AB4.out.sx 1 (.int .i64 typ) rfl
        have c2 := cell_of_blk AB4.out.sx 2 (.int .i64 life) rfl
        have c3 := cell_of_blk AB4.out.sx 3 (.slice (some ⟨b, off, none⟩) l.length cp) rfl
        have d0 := cell_of_blk AB4.out.ky 0 (.int .i64 n) rfl
        have d1 := cell_of_blk AB4.out.ky 1 (.int .i64 a) rfl
        have z0 := (Array.getElem?_eq_some_iff.1 AB4.out.sx).1
        have z1 := (Array.getElem?_eq_some_iff.1 AB4.out.ky).1
        have x0 := cell_of_blk X6.out 0 (.string z) rfl
        have x1 := cell_of_blk X6.out 1 (.int .i64 n) rfl
        have x2 := cell_of_blk X6.out 2 (.int .i64 a) rfl
        have x3 := cell_of_blk X6.out 3 (.int .i64 f) rfl
        have x4 := cell_of_blk X6.out 4 (.int .i64 u) rfl
        have x5 := cell_of_blk X6.out 5 (.int .u64 sm) rfl
        have z2 := (Array.getElem?_eq_some_iff.1 X6.out).1
        have o0 := cell_of_blk O6.out 0 (.string x) rfl
        have o1 := cell_of_blk O6.out 1 (.int .i64 typ) rfl
        have o2 := cell_of_blk O6.out 2 (.int .i64 life) rfl
        have o3 := cell_of_blk O6.out 3 (.slice (some ⟨b, off, none⟩) l.length cp) rfl
        have of0 := frozen_of_blk O6.out 0
        have of1 := frozen_of_blk O6.out 1
        have of2 := frozen_of_blk O6.out 2
        have of3 := frozen_of_blk O6.out 3
        have z3 := (Array.getElem?_eq_some_iff.1 O6.out).1
        have HAP : Hid (∀ j u, (rowD l)[j]? = some u → (W6.alloc (.cells #[] 38)).cell? ((⟨b, off, none⟩ : Addr).add j) = some u) := Lib.hid (fun j u hj => by
          rw [Go.WideShapes.add_plain]
          exact (HRD.out.2.keep HRD.out.1 (AB4.out.bel.mono (Nat.le_refl _))).keep (Nat.lt_of_lt_of_le HRD.out.1 AB4.out.bel.size) ((Below.refl _ W6).alloc (Nat.le_refl _) _) j u hj)
        obtain ⟨i0, hi0, hz0, hz1, hz2⟩ := info_parts infoDD
        have HI := Lib.hid hi0
        have HZ0 := Lib.hid hz0
        have HZ1 := Lib.hid hz1
        have HZ2 := Lib.hid hz2
        clear hi0 hz0 hz1 hz2
        go_upto_region 19 with (at_builtin; refine wpList_append_own _ rfl (.tmp 68) (.tmp 70) 22 rfl (o + 1) 38 i0 zDD 3 32 Tryz.underlying22 HI.out HZ0.out HZ1.out HZ2.out rfl (by decide) (.slice (some ⟨W6.heap.size, 0, none⟩) 0 0) 0 [] rfl (World.ownsRow_made W6 #[] 0 (by omega) (by decide) rfl) ⟨b, off, none⟩ l.length cp (rowD l) rfl (by rw [rowD_len]; omega) HAP.out (rowD_one l) (by unfold maxLen; omega) (by omega) (by simp; omega) ?_; intro v' w7 hown hgrow hiff; clear hiff; rw [Nat.zero_add, List.nil_append] at hown; obtain ⟨g, cap, cur, rfl, hg1, hg2, hg3, hg4⟩ := own_data hown hl1; have G3 := Lib.hid hg3; have G4 := Lib.hid hg4; clear hown hg3 hg4; have hB7 : Below W6.heap.size W6 w7 := ⟨hgrow.os, hgrow.tape, hgrow.output, Nat.le_trans (by simp) hgrow.size, fun k hk => (hgrow.block k (by simp; omega) (by simp [Value.ownBlock]; omega)).trans (heap_alloc_old _ _ hk)⟩; have O7 := Lib.hid ((hB7.block o z3).trans O6.out); have X7 := Lib.hid ((hB7.block r z2).trans X6.out); have AB7 := Lib.hid (AB4.out.keep hB7); clear hB7 hgrow; have c0 := cell_of_blk AB7.out.sx 0 (.string x) rfl; have c1 := cell_of_blk AB7.out.sx 1 (.int .i64 typ) rfl; have c2 := cell_of_blk AB7.out.sx 2 (.int .i64 life) rfl; have c3 := cell_of_blk AB7.out.sx 3 (.slice (some ⟨b, off, none⟩) l.length cp) rfl; have d0 := cell_of_blk AB7.out.ky 0 (.int .i64 n) rfl; have d1 := cell_of_blk AB7.out.ky 1 (.int .i64 a) rfl; have z0 := (Array.getElem?_eq_some_iff.1 AB7.out.sx).1; have z1 := (Array.getElem?_eq_some_iff.1 AB7.out.ky).1; have x0 := cell_of_blk X7.out 0 (.string z) rfl; have x1 := cell_of_blk X7.out 1 (.int .i64 n) rfl; have x2 := cell_of_blk X7.out 2 (.int .i64 a) rfl; have x3 := cell_of_blk X7.out 3 (.int .i64 f) rfl; have x4 := cell_of_blk X7.out 4 (.int .i64 u) rfl; have x5 := cell_of_blk X7.out 5 (.int .u64 sm) rfl; have z2 := (Array.getElem?_eq_some_iff.1 X7.out).1; have o0 := cell_of_blk O7.out 0 (.string x) rfl; have o1 := cell_of_blk O7.out 1 (.int .i64 typ) rfl; have o2 := cell_of_blk O7.out 2 (.int .i64 life) rfl; have o3 := cell_of_blk O7.out 3 (.slice (some ⟨b, off, none⟩) l.length cp) rfl; have of0 := frozen_of_blk O7.out 0; have of1 := frozen_of_blk O7.out 1; have of2 := frozen_of_blk O7.out 2; have of3 := frozen_of_blk O7.out 3; have z3 := (Array.getElem?_eq_some_iff.1 O7.out).1)
        have O8 := Lib.hid (heap_setCell_same w7 o 3 _ _ (.slice (some ⟨g, 0, none⟩) l.length cap) O7.out)
        have X8 := Lib.hid ((heap_setCell_other w7 ⟨o, 3, none⟩ r (.slice (some ⟨g, 0, none⟩) l.length cap) hne3).trans X7.out)
        have G8 := Lib.hid ((heap_setCell_other w7 ⟨o, 3, none⟩ g (.slice (some ⟨g, 0, none⟩) l.length cap) (by simp; omega)).trans G3.out)
        have AB8 : Hid (UBx w (w7.setCell ⟨o, 3, none⟩ (.slice (some ⟨g, 0, none⟩) l.length cap)) ⟨x, typ, life, .slice (some ⟨b, off, none⟩) l.length cp, l⟩ n a) := Lib.hid ⟨AB7.out.bel.setCell (p := ⟨o, 3, none⟩) HO.out _, (heap_setCell_other w7 ⟨o, 3, none⟩ _ _ hne1).trans AB7.out.sx, (heap_setCell_other w7 ⟨o, 3, none⟩ _ _ hne2).trans AB7.out.ky⟩
        clear c0 c1 c2 c3 d0 d1 z0 z1 x0 x1 x2 x3 x4 x5 z2 o0 o1 o2 o3 of0 of1 of2 of3 z3 O7 X7 G3 AB7 AB4 O6 X6 HAP
        generalize World.setCell w7 _ _ = W8 at *
        have NUM := Lib.hid (own_num G8.out G4.out HD.out)
        have o3 := cell_of_blk O8.out 3 (.slice (some ⟨g, 0, none⟩) l.length cap) rfl
        have gc := cell_of_blk G8.out (i * 3 + 1) _ NUM.out
        have gf := frozen_of_blk G8.out (i * 3 + 1)
        have z3 := (Array.getElem?_eq_some_iff.1 G8.out).1
        have l0 : ¬ ((l.length : Int) = 0) := by omega
        have l1 : ((l.length : Int) = 0) = False := eq_false l0
        have t0 := I2.out
        have b0 : (0 : Int) ≤ (i : Int) := by omega
        have b1 : (i : Int) < (l.length : Int) := by omega
        have v1 : IntKind.i64.wrap hq = hq := IntWalk.i64_in _ (by omega)
        have v2 : IntKind.i64.wrap cq = cq := IntWalk.i64_in _ (by omega)
        have v3 : IntKind.i64.wrap (l.length : Int) = (l.length : Int) := IntWalk.i64_in _ (by omega)
        have v4 : IntKind.i64.wrap (i : Int) = (i : Int) := IntWalk.i64_in _ (by omega)
        have hx3 := X3.out
        go_region
        have hgo : w.heap.size ≠ g := by have := HO.out; omega
        have hgo1 : w.heap.size + 1 ≠ g := by have := HQ.out; have := HO2.out; omega
        have hgo2 : r ≠ g := by have := HO2.out; omega
        have hgo3 : o ≠ g := by omega
        have SD9 := Lib.hid ((data_changed (cap := cap) G8.out G4.out HD.out q3).keep (below_drewD (Below.refl _ _) 1))
        have O9 : Hid ((W8.setCell ⟨g, i * 3 + 1, none⟩ (.int .i64 q3)).drew.heap[o]? = _) := Lib.hid ((heap_setCell_other W8 ⟨g, i * 3 + 1, none⟩ o (.int .i64 q3) hgo3).trans O8.out)
        have X9 : Hid ((W8.setCell ⟨g, i * 3 + 1, none⟩ (.int .i64 q3)).drew.heap[r]? = _) := Lib.hid ((heap_setCell_other W8 ⟨g, i * 3 + 1, none⟩ r (.int .i64 q3) hgo2).trans X8.out)
        have AB9 : Hid (UBx w (W8.setCell ⟨g, i * 3 + 1, none⟩ (.int .i64 q3)).drew ⟨x, typ, life, .slice (some ⟨b, off, none⟩) l.length cp, l⟩ n a) := Lib.hid ⟨below_drewD (AB8.out.bel.setCell (p := ⟨g, i * 3 + 1, none⟩) (by have := HO.out; simp only; omega) _) 1, (heap_setCell_other W8 ⟨g, i * 3 + 1, none⟩ _ (.int .i64 q3) hgo).trans AB8.out.sx, (heap_setCell_other W8 ⟨g, i * 3 + 1, none⟩ _ (.int .i64 q3) hgo1).trans AB8.out.ky⟩
        clear o3 gc gf z3 l0 l1 t0 b0 b1 v1 v2 v3 v4 hx3 O8 X8 AB8 NUM
        have SD9' : Hid (SlD (.slice (some ⟨g, 0, none⟩) l.length cap) (chg l i q3) (W8.setCell ⟨g, i * 3 + 1, none⟩ (.int .i64 q3)).drew) := SD9
        clear SD9 G8
        generalize World.drew _ = W9 at *
        have IN9 : Hid (St.In ⟨x, typ, life, .slice (some ⟨g, 0, none⟩) l.length cap, chg l i q3⟩ W9) := Lib.hid ⟨HS.out.hx, fun e he => by
          rw [chg_some HD.out] at he
          rcases List.mem_or_eq_of_mem_set he with h | h
          · exact HS.out.hs e h
          · subst h
            exact HS.out.hs d (List.mem_of_getElem? HD.out), SD9'.out⟩
        clear hgo hgo1 hgo2 hgo3 hne1 hne2 hne3 hg1 hg2
        have c0 := cell_of_blk AB9.out.sx 0 (.string x) rfl
        have c1 := cell_of_blk AB9.out.sx 1 (.int .i64 typ) rfl
        have c2 := cell_of_blk AB9.out.sx 2 (.int .i64 life) rfl
        have c3 := cell_of_blk AB9.out.sx 3 (.slice (some ⟨b, off, none⟩) l.length cp) rfl
        have d0 := cell_of_blk AB9.out.ky 0 (.int .i64 n) rfl
        have d1 := cell_of_blk AB9.out.ky 1 (.int .i64 a) rfl
        have z0 := (Array.getElem?_eq_some_iff.1 AB9.out.sx).1
        have z1 := (Array.getElem?_eq_some_iff.1 AB9.out.ky).1
        have x0 := cell_of_blk X9.out 0 (.string z) rfl
        have x1 := cell_of_blk X9.out 1 (.int .i64 n) rfl
        have x2 := cell_of_blk X9.out 2 (.int .i64 a) rfl
        have x3 := cell_of_blk X9.out 3 (.int .i64 f) rfl
        have x4 := cell_of_blk X9.out 4 (.int .i64 u) rfl
        have x5 := cell_of_blk X9.out 5 (.int .u64 sm) rfl
        have z2 := (Array.getElem?_eq_some_iff.1 X9.out).1
        have o0 := cell_of_blk O9.out 0 (.string x) rfl
        have o1 := cell_of_blk O9.out 1 (.int .i64 typ) rfl
        have o2 := cell_of_blk O9.out 2 (.int .i64 life) rfl
        have o3 := cell_of_blk O9.out 3 (.slice (some ⟨g, 0, none⟩) l.length cap) rfl
        as_aux_lemma =>
          go_wp2_with (go_at_call 8; (with_reducible refine (CC.out ⟨x, typ, life, .slice (some ⟨g, 0, none⟩) l.length cap, chg l i q3⟩ sm _ IN9.out (HR.out.keep AB9.out.bel) (NN3.out _)).mono ?_); rintro e w10 ⟨rfl, hb⟩; replace AB9 := Lib.hid (AB9.out.keep hb); clear hb)
          go_ret
          exact ⟨rfl, AB9.out.bel⟩

/-- SignDamage, for every argument. -/
theorem damage_any (s : St) (z : ByteArray) (n a f u bq cq hq : Int) (w : World) (hs : s.In w) (hr : RulesAt w) (hn : s.l.length ≤ maxLen) (hz : z.size ≤ maxLen) (hb0 : 0 ≤ bq ∧ bq < 18446744073709551616) (hc0 : 0 ≤ cq ∧ cq < 256) (hh0 : 0 ≤ hq ∧ hq < 256) :
    Calls Tryz.prog 4 #[.agg #[.string s.x, .int .i64 s.typ, .int .i64 s.life, s.v], .string z, .agg #[.int .i64 n, .int .i64 a], .int .i64 f, .int .i64 u, .int .u64 bq, .int .u8 cq, .int .u8 hq] w (ToB true w) := by
  cases hu : usableB s z n a f u
  · exact damage_not s z n a f u bq cq hq w hs hr hn hz hu
  · obtain ⟨x, typ, life, v, l⟩ := s
    have hok : St.ok ⟨x, typ, life, v, l⟩ = true := by
      have h := usable_sign hu
      unfold signB at h
      simp only [Bool.and_eq_true] at h
      exact h.1.1.1.1
    have hl1 : 1 ≤ l.length := (setB_facts hok).2.2.2.2.2.1
    obtain ⟨p, cp, hv⟩ := hs.hA.form
    simp only at hv
    subst hv
    obtain ⟨b, off, rfl, h1, h2⟩ := hs.hA.at_ hl1
    exact damage_yes x typ life b off cp l z n a f u bq cq hq w hs ⟨h1, h2⟩ hr hn hz hb0 hc0 hh0 hu
end Go.Proofs.YtpkjpogkimjpoaaGreatDoor
