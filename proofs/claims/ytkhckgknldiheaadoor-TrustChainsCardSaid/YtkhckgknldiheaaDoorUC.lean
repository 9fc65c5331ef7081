/- TrustChains of layer 10, walked; no condition beyond those that each theorem names. -/
import Derived.Test.YtkhckgknldiheaaDoorT1
import Derived.Deep.RegionLaw
import Derived.IntWalk
import Derived.Test.YtkhckgknldiheaaDoorPA
import Derived.Test.YtkhckgknldiheaaDoorTI
import Derived.Test.YtkhckgknldiheaaDoorVI
import Derived.Test.YtkhckgknldiheaaDoorUA
import Derived.Test.YtkhckgknldiheaaDoorUP
import Derived.Deep.CutRange
import Derived.RegionTactic
import Derived.BigRegion
namespace Go.Proofs.YtkhckgknldiheaaDoor
set_option linter.unusedSimpArgs false
set_option linter.unusedVariables false
open Go.RowKit
open NmP SpP

theorem news_k (w : World) (s : Sp) : ∀ (j : Nat) (u : Value), (valsS s)[j]? = some u → (w.alloc (.cells #[.int .i64 s.1, .int .i64 s.2] 44)).cell? ((⟨w.heap.size, 0, none⟩ : Addr).add j) = some u :=
  World.news_of_block (cs := #[.int .i64 s.1, .int .i64 s.2]) (t := 44) (fr := (0, 0)) (heap_alloc_new w _)
theorem below_drU {b : Nat} {W W' : World} (h : Below b W W') : Below b W W'.drew := h.trans ⟨rfl, rfl, rfl, Nat.le_refl _, fun _ _ => rfl⟩
set_option maxHeartbeats 2000000 in
set_option maxRecDepth 100000 in
theorem rlist_any (s : St) (w : World) (hs : s.In w) (hn : s.l.length ≤ 1000) :
    Calls Tryd.prog 24 #[.agg #[.string s.x, .int .i64 s.typ, .int .i64 s.life, s.v]] w (KeysTo (keysL s.l) w) := by
  have hb0 := (Below.refl _ w).alloc (Nat.le_refl _) (.cells #[.string s.x, .int .i64 s.typ, .int .i64 s.life, s.v] 25)
  have hblk : (w.alloc (.cells #[.string s.x, .int .i64 s.typ, .int .i64 s.life, s.v] 25)).heap[w.heap.size]? = some (Obj.cells #[.string s.x, .int .i64 s.typ, .int .i64 s.life, s.v] 25 (0, 0)) := heap_alloc_new w _
  have hA := hs.hA.keep hb0
  obtain ⟨p, c, hvv⟩ := hs.hA.form
  obtain ⟨x, typ, life, v, l⟩ := s
  simp only at hvv hb0 hblk hA hn ⊢
  subst hvv
  obtain ⟨n, hln⟩ : ∃ n, l.length = n := ⟨_, rfl⟩
  rw [hln] at hb0 hblk hA hn ⊢
  have HL := Lib.hid hln
  have HA := Lib.hid hA
  have HB0 := Lib.hid hb0
  have HK := Lib.hid hblk
  obtain ⟨i0, hi0, hz0, hz1, hz2⟩ := info_parts infoK
  have HI := Lib.hid hi0
  have HZ0 := Lib.hid hz0
  have HZ1 := Lib.hid hz1
  have HZ2 := Lib.hid hz2
  clear hi0 hz0 hz1 hz2 hb0 hblk hA hln hs
  go_enter Tryd.func24, Tryd.ntmps24
  go_wp2
  obtain ⟨q, hq⟩ : ∃ q, w.heap.size = q := ⟨_, rfl⟩
  rw [hq] at HK HB0 ⊢
  have HQ := Lib.hid hq
  clear hq
  generalize w.alloc _ = W0 at *
  have hqs : q < W0.heap.size := (Array.getElem?_eq_some_iff.1 HK.out).1
  go_loopw [3, 4] (fun s3 s4 wr => ∃ (i cap : Nat) (pp : Option Addr), s3 = .slice pp i cap ∧ i ≤ n ∧ s4 = .int .i64 i ∧ Hid (wr.ownsRow W0.heap.size 44 2 s3 i (rowS (keysL (l.take i)))) ∧ Hid (Below W0.heap.size W0 wr)) (fun _ s4 _ => n - (intOf s4).toNat)
  case atStart => exact ⟨0, 0, none, rfl, Nat.zero_le _, rfl, Lib.hid (World.ownsRow_nil _ _ _ _), Lib.hid (Below.refl _ _)⟩
  case round =>
    obtain ⟨i, cap, pp, rfl, hi, rfl, HO, HW⟩ := hrel
    have hbx := (HW.out.block q hqs).trans HK.out
    have c3 := cell_of_blk hbx 3 (.slice p n c) rfl
    have hql : q < wr.heap.size := (Array.getElem?_eq_some_iff.1 hbx).1
    clear hbx
    by_cases hlt : i < n
    · have ia : i < l.length := by rw [HL.out]; exact hlt
      have ga : l[i]? = some l[i] := List.getElem?_eq_getElem ia
      obtain ⟨b, off, rfl, hb, hR⟩ := HA.out.at_ (by omega)
      obtain ⟨a0, a1, a2⟩ := (hR.keep hb HW.out).at_ ga
      have HT : Hid (rowS (keysL (l.take (i + 1))) = rowS (keysL (l.take i)) ++ [.int .i64 l[i].2.1, .int .i64 l[i].2.2]) := Lib.hid (by unfold keysL; rw [List.take_add_one, ga, List.map_append, rowS_append]; rfl)
      have hws := HW.out.size
      generalize l[i] = d at *
      obtain ⟨x1, n1, m1⟩ := d
      simp only at a0 a1 a2
      have hx1 : (i : Int) < (n : Int) := by omega
      have hx0 : (0 : Int) ≤ (i : Int) := by omega
      clear ga hR a0
      go_upto_region 5 with fail
      go_region_law (refine step_append_lies _ rfl (.tmp 12) (.tmp 26) 26 rfl W0.heap.size 44 i0 zKey 2 16 Tryd.underlying26 HI.out HZ0.out HZ1.out HZ2.out rfl (by decide) (.slice pp i cap) i (rowS (keysL (l.take i))) rfl (World.ownsRow.alloc HO.out _) ⟨wr.heap.size, 0, none⟩ 1 1 (valsS (n1, m1)) rfl rfl (news_k wr (n1, m1)) (by simp [valsS, Value.oneCell']) (by decide) (by unfold maxLen; omega) (by omega) (by simp; omega) _ rfl (fun g2 cap2 w6 hown' hgrow _ _ => ?_))
      all_goals
        have HO6 := Lib.hid hown'
        have HB6 : Hid (Below W0.heap.size W0 w6) := by first | exact Lib.hid ((below_drU (HW.out.alloc HW.out.size _)).grown hgrow (by simp; omega) (fun k hk => (World.ownsRow.lt HO.out k hk).1)) | exact Lib.hid ((HW.out.alloc HW.out.size _).grown hgrow (by simp; omega) (fun k hk => (World.ownsRow.lt HO.out k hk).1))
        clear hown' hgrow
        go_wp2
        go_roundw
        case rel => exact ⟨i + 1, cap2, _, rfl, hlt, by go_num, Lib.hid (by rw [HT.out]; exact HO6.out), HB6⟩
        case measure => simp [intOf]; omega
    · obtain rfl : i = n := by omega
      have h := HO.out
      rw [List.take_of_length_le (by have := HL.out; omega)] at h
      have HS := Lib.hid h
      clear h
      go_wp2
      go_ret
      refine ⟨_, rfl, ?_, ?_⟩
      · have h2 : OwnK W0.heap.size (.slice pp i cap) (keysL l) wr := by unfold OwnK; unfold keysL; rw [List.length_map, HL.out]; exact HS.out
        exact h2.mono (by rw [HQ.out]; omega)
      · rw [HQ.out]; exact HB0.out.trans (HW.out.mono (by omega))
end Go.Proofs.YtkhckgknldiheaaDoor

namespace Go.Proofs.YtkhckgknldiheaaDoor
set_option linter.unusedSimpArgs false
set_option linter.unusedVariables false
open Go.RowKit
open NmP SpP

theorem revI_snd (L : List Stp) : (revI L).map (·.2) = L.reverse := by
  unfold revI
  rw [List.map_reverse, List.map_map]
  congr 1
  show L.zipIdx.map (fun p => p.1) = L
  exact List.zipIdx_map_fst 0 L
theorem downF_eq (known : List Sd) (root : St) (t d : Int) (L : List Stp) : downF known root t d L = folF known root t d L.reverse (.run [] ⟨#[]⟩) := by
  unfold downF atF
  rw [revI_snd]
theorem down_cons (known : List Sd) (root : St) (t d : Int) (p : Stp) (L : List Stp) : downF known root t d (p :: L) = folF known root t d [p] (downF known root t d L) := by
  rw [downF_eq, downF_eq, List.reverse_cons, folF_app]
theorem step_run {known : List Sd} {root : St} {t d : Int} {p : Stp} {keys K : List Sp} {ab ab' : ByteArray} (h : stepF known root t d p keys ab = .run K ab') :
    ab' = p.1 ∧ ∃ s, findK known p.1 7 = some s ∧ K = keysL s.l ∧ matchB (if p.1 = dotB then root else p.2.st) s t d = true ∧ (p.1 = dotB ∨ signedB p.2.st p.2.g ab keys t d = true) := by
  unfold stepF at h
  split at h
  · cases h
  · rename_i hc
    split at h
    · cases h
    · rename_i s hf
      cases hm : matchB (if p.1 = dotB then root else p.2.st) s t d with
      | false => rw [hm] at h; simp at h
      | true =>
        rw [hm] at h
        simp only [↓reduceIte, FR.run.injEq] at h
        obtain ⟨rfl, rfl⟩ := h
        refine ⟨rfl, s, hf, rfl, hm, ?_⟩
        by_cases hz : p.1 = dotB
        · exact .inl hz
        · right
          cases hs : signedB p.2.st p.2.g ab keys t d with
          | true => rfl
          | false => exact absurd (by simp [hz, hs]) hc
theorem down_run {known : List Sd} {root : St} {t d : Int} {p : Stp} {L : List Stp} {K : List Sp} {ab : ByteArray} (h : downF known root t d (p :: L) = .run K ab) :
    ∃ K' ab', downF known root t d L = .run K' ab' ∧ stepF known root t d p K' ab' = .run K ab := by
  rw [down_cons] at h
  cases hd : downF known root t d L with
  | run K' ab' =>
    rw [hd] at h
    exact ⟨K', ab', rfl, h⟩
  | miss z =>
    rw [hd, folF_miss] at h
    cases h
  | bad =>
    rw [hd, folF_bad] at h
    cases h
theorem way_mono (known : List Sd) : ∀ n z l, wayR known n z = .good l → wayR known (n + 1) z = .good l
  | 0, z, l, h => by cases h
  | n + 1, z, l, h => by
    unfold wayR at h ⊢
    split at h
    · rename_i hz
      rw [if_pos hz]
      exact h
    · rename_i hz
      rw [if_neg hz]
      cases hf : findK known z 6 with
      | none => rw [hf] at h; cases h
      | some s =>
        rw [hf] at h
        simp only at h ⊢
        cases hg : s.g with
        | nil => rw [hg] at h; cases h
        | cons g r =>
          rw [hg] at h
          simp only at h ⊢
          split at h
          · rename_i hs
            rw [if_pos hs]
            cases hr : wayR known n g.z with
            | good l' => rw [hr] at h; rw [way_mono known n g.z l' hr]; exact h
            | miss y => rw [hr] at h; cases h
            | bad => rw [hr] at h; cases h
          · cases h
theorem way_head {known : List Sd} {n : Nat} {z : ByteArray} {l : List Stp} (h : wayR known n z = .good l) : ∃ p L, l ++ [(dotB, zSd)] = p :: L ∧ p.1 = z := by
  cases n with
  | zero => cases h
  | succ n =>
    unfold wayR at h
    split at h
    · rename_i hz
      cases h
      exact ⟨(dotB, zSd), [], rfl, hz.symm⟩
    · cases hf : findK known z 6 with
      | none => rw [hf] at h; cases h
      | some s =>
        rw [hf] at h
        simp only at h
        cases hg : s.g with
        | nil => rw [hg] at h; cases h
        | cons g r =>
          rw [hg] at h
          simp only at h
          split at h
          · cases hr : wayR known n g.z with
            | good l' =>
              rw [hr] at h
              cases h
              exact ⟨(z, s), l' ++ [(dotB, zSd)], rfl, rfl⟩
            | miss y => rw [hr] at h; cases h
            | bad => rw [hr] at h; cases h
          · cases h
theorem way_step {known : List Sd} {n : Nat} {z : ByteArray} {l : List Stp} (h : wayR known (n + 1) z = .good l) (hz : z ≠ dotB) : ∃ s g r l', findK known z 6 = some s ∧ s.g = g :: r ∧ stepB z g.z = true ∧ wayR known n g.z = .good l' ∧ l = (z, s) :: l' := by
  unfold wayR at h
  rw [if_neg hz] at h
  cases hf : findK known z 6 with
  | none => rw [hf] at h; cases h
  | some s =>
    rw [hf] at h
    simp only at h
    cases hg : s.g with
    | nil => rw [hg] at h; cases h
    | cons g r =>
      rw [hg] at h
      simp only at h
      split at h
      · rename_i hs
        cases hr : wayR known n g.z with
        | good l' =>
          rw [hr] at h
          cases h
          exact ⟨s, g, r, l', rfl, hg, hs, hr, rfl⟩
        | miss y => rw [hr] at h; cases h
        | bad => rw [hr] at h; cases h
      · cases h
theorem step_args {known : List Sd} {a : St} {z y : ByteArray} {t d : Int} (h : argsB known a z t d = true) (hs : stepB z y = true) : argsB known a y t d = true := by
  unfold argsB at h ⊢
  unfold stepB inB at hs
  simp only [Bool.and_eq_true, Bool.not_eq_true'] at h hs ⊢
  exact ⟨⟨⟨⟨h.1.1.1.1, h.1.1.1.2⟩, hs.1.1.1.2⟩, hs.2⟩, h.2⟩
/-- What it means that Path returns keys. -/
theorem path_keys {known : List Sd} {a : St} {z : ByteArray} {t d : Int} {K : List Sp} (h : pathR known a z t d = .keys K) :
    argsB known a z t d = true ∧ ∃ sk, findK known z 7 = some sk ∧ K = keysL sk.l ∧
      ((z = dotB ∧ matchB a sk t d = true) ∨
       (z ≠ dotB ∧ ∃ sa g r, findK known z 6 = some sa ∧ sa.g = g :: r ∧ stepB z g.z = true ∧ matchB sa.st sk t d = true ∧ ∃ K', pathR known a g.z t d = .keys K' ∧ signedB sa.st sa.g g.z K' t d = true)) := by
  unfold pathR at h
  split at h
  · rename_i ha
    refine ⟨ha, ?_⟩
    unfold pathW at h
    cases hw : wayR known 63 z with
    | good l =>
      rw [hw] at h
      simp only at h
      cases hd : downF known a t d (l ++ [(dotB, zSd)]) with
      | run K1 ab =>
        rw [hd] at h
        cases h
        by_cases hz : z = dotB
        · subst hz
          have hl : l = [] := by
            have h0 : wayR known 63 dotB = .good [] := by unfold wayR; rw [if_pos rfl]
            rw [h0] at hw
            cases hw
            rfl
          subst hl
          obtain ⟨K', ab', _, hs⟩ := down_run hd
          obtain ⟨rfl, s, h1, h2, h3, _⟩ := step_run hs
          exact ⟨s, h1, h2, .inl ⟨rfl, by simpa using h3⟩⟩
        · obtain ⟨sa, g, r, l', h1, h2, h3, h4, rfl⟩ := way_step hw hz
          obtain ⟨K', ab', hd', hs⟩ := down_run (L := l' ++ [(dotB, zSd)]) hd
          obtain ⟨_, sk, k1, k2, k3, k4⟩ := step_run hs
          have hab : ab' = g.z := by
            obtain ⟨p, L, hp, hpz⟩ := way_head h4
            rw [hp] at hd'
            obtain ⟨_, _, _, hs'⟩ := down_run hd'
            rw [(step_run hs').1, hpz]
          subst hab
          refine ⟨sk, k1, k2, .inr ⟨hz, sa, g, r, h1, h2, h3, ?_, K', ?_, ?_⟩⟩
          · simpa [hz] using k3
          · unfold pathR
            rw [if_pos (step_args ha h3), way_mono known 62 g.z l' h4]
            show pathD (downF known a t d (l' ++ [(dotB, zSd)])) = _
            rw [hd']
            rfl
          · rcases k4 with k4 | k4
            · exact absurd k4 hz
            · exact k4
      | miss y => rw [hd] at h; cases h
      | bad => rw [hd] at h; cases h
    | miss y => rw [hw] at h; cases h
    | bad => rw [hw] at h; cases h
  · cases h
end Go.Proofs.YtkhckgknldiheaaDoor

namespace Go.Proofs.YtkhckgknldiheaaDoor
set_option linter.unusedSimpArgs false
set_option linter.unusedVariables false
open Go.RowKit
open NmP SpP

/-- The box of TrustChains. -/
structure CBx (w W : World) (ax : ByteArray) (aty al : Int) (av : Value) : Prop where
  bel : Below w.heap.size w W
  ax : W.heap[w.heap.size]? = some (Obj.cells #[.string ax, .int .i64 aty, .int .i64 al, av] 25 (0, 0))
theorem CBx.keep {w W W' : World} {ax : ByteArray} {aty al : Int} {av : Value} (h : CBx w W ax aty al av) (hb : Below W.heap.size W W') : CBx w W' ax aty al av :=
  ⟨h.bel.trans (hb.mono h.bel.size), (hb.block _ (Array.getElem?_eq_some_iff.1 h.ax).1).trans h.ax⟩
theorem CBx.lt {w W : World} {ax : ByteArray} {aty al : Int} {av : Value} (h : CBx w W ax aty al av) : w.heap.size < W.heap.size := (Array.getElem?_eq_some_iff.1 h.ax).1
theorem cbox (w : World) (ax : ByteArray) (aty al : Int) (av : Value) : CBx w (w.alloc (.cells #[.string ax, .int .i64 aty, .int .i64 al, av] 25)) ax aty al av :=
  ⟨(Below.refl _ w).alloc (Nat.le_refl _) _, heap_alloc_new w _⟩
theorem in_true {z y : ByteArray} (h : stepB z y = true) (W : World) : Calls Tryd.prog 25 #[.string z, .string y] W (ToB true W) := by
  unfold stepB inB at h
  simp only [Bool.and_eq_true, Bool.not_eq_true'] at h
  have h1 := h.1.1.1.1
  have h2 := h.1.1.1.2
  have a := rin_any z y W (by have := (valid_len h1).2.2; rw [tl_len] at this; omega) (by have := (valid_len h2).2.2; rw [tl_len] at this; omega)
  rw [end_under (valid_ok h1), h.1.1.2] at a
  exact a
theorem args_ok {known : List Sd} {a : St} {z : ByteArray} {t d : Int} (h : argsB known a z t d = true) {s : Sd} (hs : s ∈ known) : s.st.ok = true := by
  unfold argsB knownB at h
  simp only [Bool.and_eq_true, Bool.not_eq_true'] at h
  have h1 := h.1.1.1.1.2
  cases hb : s.st.ok with
  | true => rfl
  | false =>
    rw [List.any_eq_false] at h1
    exact absurd (by unfold badK; rw [hb]; rfl) (h1 s hs)
theorem knownAt {W : World} {b off : Nat} {known : List Sd} {w : World} {j : Nat} {s : Sd} (hR : RK b off known w) (hb : b < w.heap.size) (hB : Below w.heap.size w W) (hj : known[j]? = some s) : KAt W b (off + j * 5) s := (hR.keep hb hB).at_ hj

set_option maxHeartbeats 4000000 in
set_option maxRecDepth 100000 in
theorem chains_walk (kv : Value) (known : List Sd) (a : St) (z : ByteArray) (t d : Int) (w : World) (hk : SlK kv known w) (hkn : known.length ≤ maxLen) (ha : a.In w) (han : a.l.length ≤ maxLen) (hz : z.size ≤ maxLen) (hr : RulesAt w) :
    Calls Tryd.prog 6 #[kv, .agg #[.string a.x, .int .i64 a.typ, .int .i64 a.life, a.v], .string z, .int .i64 t, .int .i64 d] w fun e w' => e = .returned (.bool true) ∧ Below w.heap.size w w' := by
  obtain ⟨pk, ck, rfl⟩ := hk.form
  obtain ⟨pa, ca, hav⟩ := ha.hA.form
  have AB0 := Lib.hid (cbox w a.x a.typ a.life a.v)
  have CH := Lib.hid (fun W (hb : Below w.heap.size w W) => head_any W (hr.keep hb))
  have CF1 := Lib.hid (fun W (hb : Below w.heap.size w W) => rfew_any (.slice pk known.length ck) known W (hk.keep hb) hkn)
  have CP := Lib.hid (fun y (hy : y.size ≤ maxLen) W (hb : Below w.heap.size w W) => path_any (.slice pk known.length ck) known a y t d W (hk.keep hb) hkn (ha.keep hb) hy (hr.keep hb))
  have CP1 := Lib.hid (fun W (hb : Below w.heap.size w W) => path_any (.slice pk known.length ck) known a z t d W (hk.keep hb) hkn (ha.keep hb) hz (hr.keep hb))
  have CK1 := Lib.hid (fun y c W (hb : Below w.heap.size w W) => rknown_any (.slice pk known.length ck) known y c W (hk.keep hb) hkn)
  have CMa := Lib.hid (fun (s : Sd) (hs : s ∈ known) W (hb : Below w.heap.size w W) => match_any a s t d W (ha.keep hb) ((hk.2 s hs).keep hb) (hr.keep hb))
  have HKA := Lib.hid (fun (j : Nat) (s : Sd) (hj : known[j]? = some s) => (by
    obtain ⟨b, off, hp, hb, hR⟩ := hk.at_ (by have := (List.getElem?_eq_some_iff.1 hj).1; omega)
    exact ⟨b, off, hp, hb, fun W hB => knownAt hR hb hB hj⟩ : ∃ b off, pk = some ⟨b, off, none⟩ ∧ b < w.heap.size ∧ ∀ W, Below w.heap.size w W → KAt W b (off + j * 5) s))
  have HMI := Lib.hid (fun (s : Sd) (hs : s ∈ known) => hk.2 s hs)
  have HRU := Lib.hid (fun W (hb : Below w.heap.size w W) => hr.keep hb)
  have HPK := Lib.hid (fun K h => path_keys (known := known) (a := a) (z := z) (t := t) (d := d) (K := K) h)
  have HPI := Lib.hid (fun y c h => (path_miss (known := known) (a := a) (z := z) (t := t) (d := d) (y := y) (c := c) h).2)
  obtain ⟨R, hR⟩ : ∃ R, pathR known a z t d = R := ⟨_, rfl⟩
  rw [hR] at CP1
  have HR := Lib.hid hR
  obtain ⟨ax, aty, al, av, aL⟩ := a
  simp only at hav
  subst hav
  obtain ⟨na, hna⟩ : ∃ n, aL.length = n := ⟨_, rfl⟩
  obtain ⟨nk, hnk⟩ : ∃ n, known.length = n := ⟨_, rfl⟩
  simp only at AB0 CP CP1 CMa HPK HPI HR ⊢
  rw [hnk] at CF1 CP CP1 CK1 ⊢
  rw [hna] at AB0 CP CP1 CMa HPK HPI HR ⊢
  have HNK := Lib.hid hnk
  have hlk : nk ≤ 9223372036854775807 := by rw [← hnk]; exact hkn
  have hla : na ≤ 9223372036854775807 := by
    rw [← hna]
    exact han
  clear hk hkn ha han hz hr hna hnk hR
  cases hf1 : fewB known
  · rw [hf1] at CF1
    clear hf1
    as_aux_lemma =>
      go_enter Tryd.func6, Tryd.ntmps6
      go_wp2_with (first | (go_at_call 9; (with_reducible refine (CH.out _ AB0.out.bel).mono ?_); rintro e w1 ⟨rfl, hb⟩; have AB := Lib.hid (AB0.out.keep hb); clear hb; have x0 := cell_of_blk AB.out.ax 0 (.string ax) rfl; have x1 := cell_of_blk AB.out.ax 1 (.int .i64 aty) rfl; have x2 := cell_of_blk AB.out.ax 2 (.int .i64 al) rfl; have x3 := cell_of_blk AB.out.ax 3 (.slice pa na ca) rfl; have z1 := AB.out.lt) | (go_at_call 10; (with_reducible refine (CF1.out _ AB.out.bel).mono ?_); rintro e w' ⟨rfl, rfl⟩))
      go_ret
      exact ⟨rfl, AB.out.bel⟩
  rw [hf1] at CF1
  have hk60 := (few_facts hf1).1
  rw [HNK.out] at hk60
  clear hf1
  by_cases c3 : 20 < na
  · as_aux_lemma =>
      go_enter Tryd.func6, Tryd.ntmps6
      go_wp2_with (first | (go_at_call 9; (with_reducible refine (CH.out _ AB0.out.bel).mono ?_); rintro e w1 ⟨rfl, hb⟩; have AB := Lib.hid (AB0.out.keep hb); clear hb; have x0 := cell_of_blk AB.out.ax 0 (.string ax) rfl; have x1 := cell_of_blk AB.out.ax 1 (.int .i64 aty) rfl; have x2 := cell_of_blk AB.out.ax 2 (.int .i64 al) rfl; have x3 := cell_of_blk AB.out.ax 3 (.slice pa na ca) rfl; have z1 := AB.out.lt) | (go_at_call 10; (with_reducible refine (CF1.out _ AB.out.bel).mono ?_); rintro e w' ⟨rfl, rfl⟩))
      go_ret
      exact ⟨rfl, AB.out.bel⟩
  cases R with
  | arg =>
    unfold PathTo at CP1
    simp only at CP1
    as_aux_lemma =>
      go_enter Tryd.func6, Tryd.ntmps6
      go_wp2_with (first | (go_at_call 9; (with_reducible refine (CH.out _ AB0.out.bel).mono ?_); rintro e w1 ⟨rfl, hb⟩; have AB := Lib.hid (AB0.out.keep hb); clear hb; have x0 := cell_of_blk AB.out.ax 0 (.string ax) rfl; have x1 := cell_of_blk AB.out.ax 1 (.int .i64 aty) rfl; have x2 := cell_of_blk AB.out.ax 2 (.int .i64 al) rfl; have x3 := cell_of_blk AB.out.ax 3 (.slice pa na ca) rfl; have z1 := AB.out.lt) | (go_at_call 10; (with_reducible refine (CF1.out _ AB.out.bel).mono ?_); rintro e w' ⟨rfl, rfl⟩) | (go_at_call 11; (with_reducible refine (CP1.out _ AB.out.bel).mono ?_); rintro e w5 ⟨rfl, hb⟩; have HQ := Lib.hid (heap_alloc_new w5 (.cells #[.string ⟨#[]⟩, .int .i64 0] 30)); replace AB := Lib.hid ((AB.out.keep hb).keep (bnewE w5 (.cells #[.string ⟨#[]⟩, .int .i64 0] 30))); clear hb x0 x1 x2 x3 z1; have x0 := cell_of_blk AB.out.ax 0 (.string ax) rfl; have x1 := cell_of_blk AB.out.ax 1 (.int .i64 aty) rfl; have x2 := cell_of_blk AB.out.ax 2 (.int .i64 al) rfl; have x3 := cell_of_blk AB.out.ax 3 (.slice pa na ca) rfl; have z1 := AB.out.lt; have q0 := cell_of_blk HQ.out 0 (.string ⟨#[]⟩) rfl; have q1 := cell_of_blk HQ.out 1 (.int .i64 0) rfl))
      go_ret
      exact ⟨rfl, AB.out.bel⟩
  | bad =>
    unfold PathTo at CP1
    simp only at CP1
    as_aux_lemma =>
      go_enter Tryd.func6, Tryd.ntmps6
      go_wp2_with (first | (go_at_call 9; (with_reducible refine (CH.out _ AB0.out.bel).mono ?_); rintro e w1 ⟨rfl, hb⟩; have AB := Lib.hid (AB0.out.keep hb); clear hb; have x0 := cell_of_blk AB.out.ax 0 (.string ax) rfl; have x1 := cell_of_blk AB.out.ax 1 (.int .i64 aty) rfl; have x2 := cell_of_blk AB.out.ax 2 (.int .i64 al) rfl; have x3 := cell_of_blk AB.out.ax 3 (.slice pa na ca) rfl; have z1 := AB.out.lt) | (go_at_call 10; (with_reducible refine (CF1.out _ AB.out.bel).mono ?_); rintro e w' ⟨rfl, rfl⟩) | (go_at_call 11; (with_reducible refine (CP1.out _ AB.out.bel).mono ?_); rintro e w5 ⟨rfl, hb⟩; have HQ := Lib.hid (heap_alloc_new w5 (.cells #[.string ⟨#[]⟩, .int .i64 0] 30)); replace AB := Lib.hid ((AB.out.keep hb).keep (bnewE w5 (.cells #[.string ⟨#[]⟩, .int .i64 0] 30))); clear hb x0 x1 x2 x3 z1; have x0 := cell_of_blk AB.out.ax 0 (.string ax) rfl; have x1 := cell_of_blk AB.out.ax 1 (.int .i64 aty) rfl; have x2 := cell_of_blk AB.out.ax 2 (.int .i64 al) rfl; have x3 := cell_of_blk AB.out.ax 3 (.slice pa na ca) rfl; have z1 := AB.out.lt; have q0 := cell_of_blk HQ.out 0 (.string ⟨#[]⟩) rfl; have q1 := cell_of_blk HQ.out 1 (.int .i64 0) rfl))
      go_ret
      exact ⟨rfl, AB.out.bel⟩
  | miss y c =>
    have hc := HPI.out y c HR.out
    unfold PathTo at CP1
    simp only at CP1
    rcases hc with rfl | rfl
    · as_aux_lemma =>
        go_enter Tryd.func6, Tryd.ntmps6
        go_wp2_with (first | (go_at_call 9; (with_reducible refine (CH.out _ AB0.out.bel).mono ?_); rintro e w1 ⟨rfl, hb⟩; have AB := Lib.hid (AB0.out.keep hb); clear hb; have x0 := cell_of_blk AB.out.ax 0 (.string ax) rfl; have x1 := cell_of_blk AB.out.ax 1 (.int .i64 aty) rfl; have x2 := cell_of_blk AB.out.ax 2 (.int .i64 al) rfl; have x3 := cell_of_blk AB.out.ax 3 (.slice pa na ca) rfl; have z1 := AB.out.lt) | (go_at_call 10; (with_reducible refine (CF1.out _ AB.out.bel).mono ?_); rintro e w' ⟨rfl, rfl⟩) | (go_at_call 11; (with_reducible refine (CP1.out _ AB.out.bel).mono ?_); rintro e w5 ⟨rfl, hb⟩; have HQ := Lib.hid (heap_alloc_new w5 (.cells #[.string y, .int .i64 6] 30)); replace AB := Lib.hid ((AB.out.keep hb).keep (bnewE w5 (.cells #[.string y, .int .i64 6] 30))); clear hb x0 x1 x2 x3 z1; have x0 := cell_of_blk AB.out.ax 0 (.string ax) rfl; have x1 := cell_of_blk AB.out.ax 1 (.int .i64 aty) rfl; have x2 := cell_of_blk AB.out.ax 2 (.int .i64 al) rfl; have x3 := cell_of_blk AB.out.ax 3 (.slice pa na ca) rfl; have z1 := AB.out.lt; have q0 := cell_of_blk HQ.out 0 (.string y) rfl; have q1 := cell_of_blk HQ.out 1 (.int .i64 6) rfl))
        go_ret
        exact ⟨rfl, AB.out.bel⟩
    · as_aux_lemma =>
        go_enter Tryd.func6, Tryd.ntmps6
        go_wp2_with (first | (go_at_call 9; (with_reducible refine (CH.out _ AB0.out.bel).mono ?_); rintro e w1 ⟨rfl, hb⟩; have AB := Lib.hid (AB0.out.keep hb); clear hb; have x0 := cell_of_blk AB.out.ax 0 (.string ax) rfl; have x1 := cell_of_blk AB.out.ax 1 (.int .i64 aty) rfl; have x2 := cell_of_blk AB.out.ax 2 (.int .i64 al) rfl; have x3 := cell_of_blk AB.out.ax 3 (.slice pa na ca) rfl; have z1 := AB.out.lt) | (go_at_call 10; (with_reducible refine (CF1.out _ AB.out.bel).mono ?_); rintro e w' ⟨rfl, rfl⟩) | (go_at_call 11; (with_reducible refine (CP1.out _ AB.out.bel).mono ?_); rintro e w5 ⟨rfl, hb⟩; have HQ := Lib.hid (heap_alloc_new w5 (.cells #[.string y, .int .i64 7] 30)); replace AB := Lib.hid ((AB.out.keep hb).keep (bnewE w5 (.cells #[.string y, .int .i64 7] 30))); clear hb x0 x1 x2 x3 z1; have x0 := cell_of_blk AB.out.ax 0 (.string ax) rfl; have x1 := cell_of_blk AB.out.ax 1 (.int .i64 aty) rfl; have x2 := cell_of_blk AB.out.ax 2 (.int .i64 al) rfl; have x3 := cell_of_blk AB.out.ax 3 (.slice pa na ca) rfl; have z1 := AB.out.lt; have q0 := cell_of_blk HQ.out 0 (.string y) rfl; have q1 := cell_of_blk HQ.out 1 (.int .i64 7) rfl))
        go_ret
        exact ⟨rfl, AB.out.bel⟩
  | keys K =>
    obtain ⟨hargs, sk, hsk, rfl, hcase⟩ := HPK.out K HR.out
    obtain ⟨j, hj, hjk⟩ := knownI_some hsk
    have hmem := List.mem_of_getElem? hjk
    have hkin := HMI.out sk hmem
    have hokk := args_ok hargs hmem
    have hl8 := (ok_len hokk).2
    obtain ⟨b, off, rfl, hb, hKA⟩ := HKA.out j sk hjk
    have HKB := Lib.hid hKA
    have hjl : j < nk := by rw [← HNK.out]; exact (List.getElem?_eq_some_iff.1 hjk).1
    have CK7 := Lib.hid (fun W hb => CK1.out z 7 W hb)
    rw [hj] at CK7
    have CL := Lib.hid (fun W (hb : Below w.heap.size w W) => rlist_any sk.st W (hkin.keep hb).hs (by omega))
    have CS := Lib.hid (fun va vb W (ha : SlS va (keysL sk.l) W) (hb : SlS vb (keysL sk.l) W) => same_any ha hb (by unfold keysL; rw [List.length_map]; show sk.l.length ≤ maxLen; exact Nat.le_trans hl8 (by decide)))
    simp only [decide_true] at CS
    have CMk := Lib.hid (CMa.out sk hmem)
    unfold KeysTo at CL
    unfold PathTo at CP1
    simp only at CP1
    have hj1 : (j : Int) < (nk : Int) := by omega
    have hj2 : ¬ (j : Int) < 0 := by omega
    have hj3 : (0 : Int) ≤ (j : Int) := by omega
    have hK8 : (keysL sk.l).length ≤ 8 := by unfold keysL; rw [List.length_map]; exact hl8
    have HMS := Lib.hid hkin
    clear hKA hjk hj hokk hkin HPI
    rcases hcase with ⟨rfl, hM⟩ | ⟨hz, sa, g, r, ha6, hag, hst, hM, K', hP', hS'⟩
    · rw [hM] at CMk
      clear hM hmem hargs hsk HR HPK CMa CP HMI HRU HMS HKA
      have e1 : (dotB.toList == [46]) = true := by rw [dot_list]; rfl
      obtain ⟨kx, kt, kf, kp, kn, kc, kq, km, kd, kl, kg⟩ := sk
      simp only [Sd.st] at CL CS CMk CP1 HKB hl8 hK8
      generalize keysL kl = K0 at *
      obtain ⟨m, hm⟩ : ∃ m, K0.length = m := ⟨_, rfl⟩
      rw [hm] at CP1 hK8
      clear hm
      go_enter Tryd.func6, Tryd.ntmps6
      go_upto_region 11 with (first | (go_at_call 9; (with_reducible refine (CH.out _ AB0.out.bel).mono ?_); rintro e w1 ⟨rfl, hb⟩; have AB := Lib.hid (AB0.out.keep hb); clear hb; have x0 := cell_of_blk AB.out.ax 0 (.string ax) rfl; have x1 := cell_of_blk AB.out.ax 1 (.int .i64 aty) rfl; have x2 := cell_of_blk AB.out.ax 2 (.int .i64 al) rfl; have x3 := cell_of_blk AB.out.ax 3 (.slice pa na ca) rfl; have z1 := AB.out.lt) | (go_at_call 10; (with_reducible refine (CF1.out _ AB.out.bel).mono ?_); rintro e w' ⟨rfl, rfl⟩) | (go_at_call 11; (with_reducible refine (CP1.out _ AB.out.bel).mono ?_); rintro e w5 ⟨⟨p5, c5, rfl, hs5, hl5⟩, hb⟩; have HQ := Lib.hid (heap_alloc_new w5 (.cells #[.string ⟨#[]⟩, .int .i64 0] 30)); replace AB := Lib.hid ((AB.out.keep hb).keep (bnewE w5 (.cells #[.string ⟨#[]⟩, .int .i64 0] 30))); have H5 := Lib.hid (hs5.keep (bnewE w5 (.cells #[.string ⟨#[]⟩, .int .i64 0] 30))); clear hs5; clear hb x0 x1 x2 x3 z1; have x0 := cell_of_blk AB.out.ax 0 (.string ax) rfl; have x1 := cell_of_blk AB.out.ax 1 (.int .i64 aty) rfl; have x2 := cell_of_blk AB.out.ax 2 (.int .i64 al) rfl; have x3 := cell_of_blk AB.out.ax 3 (.slice pa na ca) rfl; have z1 := AB.out.lt; have q0 := cell_of_blk HQ.out 0 (.string ⟨#[]⟩) rfl; have q1 := cell_of_blk HQ.out 1 (.int .i64 0) rfl) | (go_at_call 23; (with_reducible refine (CK7.out _ AB.out.bel).mono ?_); rintro e w' ⟨rfl, rfl⟩; obtain ⟨m0, m1, m2, m3, m4⟩ := HKB.out _ AB.out.bel) | (go_at_call 24; (with_reducible refine (CL.out _ AB.out.bel).mono ?_); rintro e w7 ⟨v7, rfl, ho7, hb⟩; have HO7 := Lib.hid ho7.sl; clear ho7; replace AB := Lib.hid (AB.out.keep hb); replace HQ := Lib.hid ((hb.block _ (Array.getElem?_eq_some_iff.1 HQ.out).1).trans HQ.out); replace H5 := Lib.hid (H5.out.keep hb); clear hb x0 x1 x2 x3 z1 q0 q1 m0 m1 m2 m3 m4; have x0 := cell_of_blk AB.out.ax 0 (.string ax) rfl; have x1 := cell_of_blk AB.out.ax 1 (.int .i64 aty) rfl; have x2 := cell_of_blk AB.out.ax 2 (.int .i64 al) rfl; have x3 := cell_of_blk AB.out.ax 3 (.slice pa na ca) rfl; have z1 := AB.out.lt; have q0 := cell_of_blk HQ.out 0 (.string ⟨#[]⟩) rfl; have q1 := cell_of_blk HQ.out 1 (.int .i64 0) rfl; obtain ⟨m0, m1, m2, m3, m4⟩ := HKB.out _ AB.out.bel) | (go_at_call 13; (with_reducible refine (CS.out _ _ _ H5.out HO7.out).mono ?_); rintro e w8 ⟨rfl, hb⟩; clear HO7; replace AB := Lib.hid (AB.out.keep hb); replace HQ := Lib.hid ((hb.block _ (Array.getElem?_eq_some_iff.1 HQ.out).1).trans HQ.out); replace H5 := Lib.hid (H5.out.keep hb); clear hb x0 x1 x2 x3 z1 q0 q1 m0 m1 m2 m3 m4; have x0 := cell_of_blk AB.out.ax 0 (.string ax) rfl; have x1 := cell_of_blk AB.out.ax 1 (.int .i64 aty) rfl; have x2 := cell_of_blk AB.out.ax 2 (.int .i64 al) rfl; have x3 := cell_of_blk AB.out.ax 3 (.slice pa na ca) rfl; have z1 := AB.out.lt; have q0 := cell_of_blk HQ.out 0 (.string ⟨#[]⟩) rfl; have q1 := cell_of_blk HQ.out 1 (.int .i64 0) rfl; obtain ⟨m0, m1, m2, m3, m4⟩ := HKB.out _ AB.out.bel))
      go_region_held3 (fun w' => w'.cell? ⟨b, off + j * 5, none⟩ = some (.string kx) ∧ w'.cell? ⟨b, off + j * 5 + 1, none⟩ = some (.int .i64 kt) ∧ w'.cell? ⟨b, off + j * 5 + 2, none⟩ = some (.int .i64 kf) ∧ w'.cell? ⟨b, off + j * 5 + 3, none⟩ = some (.slice kp kn kc) ∧ w'.cell? ⟨b, off + j * 5 + 4, none⟩ = some (.slice kq km kd) ∧ w'.cell? ⟨w.heap.size, 0, none⟩ = some (.string ax) ∧ w'.cell? ⟨w.heap.size, 1, none⟩ = some (.int .i64 aty) ∧ w'.cell? ⟨w.heap.size, 2, none⟩ = some (.int .i64 al) ∧ w'.cell? ⟨w.heap.size, 3, none⟩ = some (.slice pa na ca)) (go_keep) ((go_at_call 16; (with_reducible refine (CMk.out _ (below_drU AB.out.bel)).mono ?_); rintro e w9 ⟨rfl, hb⟩; have HB9 := Lib.hid (AB.out.keep ((below_drU (Below.refl _ w8)).trans (hb.mono (Nat.le_refl _)))); clear hb x0 x1 x2 x3 m0 m1 m2 m3 m4; have x0 := cell_of_blk HB9.out.ax 0 (.string ax) rfl; have x1 := cell_of_blk HB9.out.ax 1 (.int .i64 aty) rfl; have x2 := cell_of_blk HB9.out.ax 2 (.int .i64 al) rfl; have x3 := cell_of_blk HB9.out.ax 3 (.slice pa na ca) rfl; obtain ⟨m0, m1, m2, m3, m4⟩ := HKB.out _ HB9.out.bel))
      go_wp2
      go_ret
      exact ⟨rfl, HB9.out.bel⟩
    · obtain ⟨ja, hja, hjka⟩ := knownI_some ha6
      have hmema := List.mem_of_getElem? hjka
      have hain := HMI.out sa hmema
      obtain ⟨b', off', hbo, hb', hKA'⟩ := HKA.out ja sa hjka
      cases hbo
      have HKC := Lib.hid hKA'
      have hjla : ja < nk := by rw [← HNK.out]; exact (List.getElem?_eq_some_iff.1 hjka).1
      have CK6 := Lib.hid (fun W hb => CK1.out z 6 W hb)
      rw [hja] at CK6
      have CMs := Lib.hid (fun W (hb : Below w.heap.size w W) => match_any sa.st sk t d W (hain.keep hb).hs (HMS.out.keep hb) (HRU.out W hb))
      rw [hM] at CMs
      have hgz := hain.hz g (by rw [hag]; exact List.mem_cons_self)
      have CPg := Lib.hid (fun W hb => CP.out g.z hgz W hb)
      rw [hP'] at CPg
      unfold PathTo at CPg
      simp only at CPg
      have CI := Lib.hid (in_true hst)
      unfold ToB at CI
      have CT := Lib.hid (fun W kv (hb : Below w.heap.size w W) (hk : SlS kv K' W) (hn : K'.length ≤ maxLen) => signed_any sa.st sa.sv sa.g g.z kv K' t d W (hain.keep hb).hs (HRU.out W hb) hk (hain.keep hb).hg hain.hz hn hain.hl)
      rw [hS'] at CT
      have hm1 : 1 ≤ sa.m := by rw [hain.len.2, hag]; simp
      have HGA : Hid (∀ W, Below w.heap.size w W → ∃ gb go, sa.q = some ⟨gb, go, none⟩ ∧ W.cell? ⟨gb, go, none⟩ = some (.string g.z)) := Lib.hid (fun W hb => by
        have h1 := (hain.keep hb).hg
        unfold Sd.sv at h1
        obtain ⟨gb, go, e1, _, h2⟩ := h1.at_ (by rw [hag]; simp)
        have h3 := h2.at_ (i := 0) (t := g) (by rw [hag]; rfl)
        exact ⟨gb, go, e1, by simpa using h3.c0⟩)
      obtain ⟨gb, go, hsq, _⟩ := HGA.out w (Below.refl _ _)
      have HGC : Hid (∀ W, Below w.heap.size w W → W.cell? ⟨gb, go, none⟩ = some (.string g.z)) := Lib.hid (fun W hb => by
        obtain ⟨gb', go', h1, h2⟩ := HGA.out W hb
        rw [hsq] at h1
        cases h1
        exact h2)
      have e1 : (z.toList == [46]) = false := by
        rw [beq_eq_false_iff_ne, ← dot_list]
        exact fun h => hz (ba_eqT h)
      have e2 : (g.z.toList == z.toList) = false := by
        unfold stepB at hst
        simp only [Bool.and_eq_true, Bool.not_eq_true', decide_eq_false_iff_not] at hst
        rw [beq_eq_false_iff_ne]
        exact fun h => hst.1.2 (ba_eqT h)
      have e3 : (!g.z.toList == z.toList) = true := by rw [e2]; rfl
      have hja1 : (ja : Int) < (nk : Int) := by omega
      have hja2 : ¬ (ja : Int) < 0 := by omega
      have hja3 : (0 : Int) ≤ (ja : Int) := by omega
      clear hM hmem hmema hargs hsk HR HPK CMa CMk CP HMI HRU HMS hst hP' hS' hz ha6 hja hjka hKA' hgz HGA hb' HKA CK1 hjla
      obtain ⟨gz, gk, ga, gf, gu, gm⟩ := g
      obtain ⟨kx, kt, kf, kp, kn, kc, kq, km, kd, kl, kg⟩ := sk
      obtain ⟨sx, st, sf, sp, sn, sc, sq, sm, sd, sl, sg⟩ := sa
      simp only at hsq
      subst hsq
      simp only [Sd.st, Sd.sv] at CL CS CMs CP1 CPg CT CI HKB HKC HGC e2 e3 hm1 hl8 hK8
      have hm2 : (0 : Int) < (sm : Int) := by omega
      have hm3 : ((sm : Int) == 0) = false := by simp; omega
      clear hag hain
      generalize keysL kl = K0 at *
      obtain ⟨m, hm⟩ : ∃ m, K0.length = m := ⟨_, rfl⟩
      rw [hm] at CP1 hK8
      obtain ⟨m', hm'⟩ : ∃ m, K'.length = m := ⟨_, rfl⟩
      rw [hm'] at CPg CT
      clear hm hm'
      go_enter Tryd.func6, Tryd.ntmps6
      go_upto_region 13 with (first | (go_at_call 9; (with_reducible refine (CH.out _ AB0.out.bel).mono ?_); rintro e w1 ⟨rfl, hb⟩; have AB := Lib.hid (AB0.out.keep hb); clear hb; have x0 := cell_of_blk AB.out.ax 0 (.string ax) rfl; have x1 := cell_of_blk AB.out.ax 1 (.int .i64 aty) rfl; have x2 := cell_of_blk AB.out.ax 2 (.int .i64 al) rfl; have x3 := cell_of_blk AB.out.ax 3 (.slice pa na ca) rfl; have z1 := AB.out.lt) | (go_at_call 10; (with_reducible refine (CF1.out _ AB.out.bel).mono ?_); rintro e w' ⟨rfl, rfl⟩) | (go_at_call 11; (with_reducible refine (CP1.out _ AB.out.bel).mono ?_); rintro e w5 ⟨⟨p5, c5, rfl, hs5, hl5⟩, hb⟩; have HQ := Lib.hid (heap_alloc_new w5 (.cells #[.string ⟨#[]⟩, .int .i64 0] 30)); replace AB := Lib.hid ((AB.out.keep hb).keep (bnewE w5 (.cells #[.string ⟨#[]⟩, .int .i64 0] 30))); have H5 := Lib.hid (hs5.keep (bnewE w5 (.cells #[.string ⟨#[]⟩, .int .i64 0] 30))); clear hs5; clear hb x0 x1 x2 x3 z1; have x0 := cell_of_blk AB.out.ax 0 (.string ax) rfl; have x1 := cell_of_blk AB.out.ax 1 (.int .i64 aty) rfl; have x2 := cell_of_blk AB.out.ax 2 (.int .i64 al) rfl; have x3 := cell_of_blk AB.out.ax 3 (.slice pa na ca) rfl; have z1 := AB.out.lt; have q0 := cell_of_blk HQ.out 0 (.string ⟨#[]⟩) rfl; have q1 := cell_of_blk HQ.out 1 (.int .i64 0) rfl) | (go_at_call 23; (with_reducible refine (CK7.out _ AB.out.bel).mono ?_); rintro e w' ⟨rfl, rfl⟩; obtain ⟨m0, m1, m2, m3, m4⟩ := HKB.out _ AB.out.bel) | (go_at_call 24; (with_reducible refine (CL.out _ AB.out.bel).mono ?_); rintro e w7 ⟨v7, rfl, ho7, hb⟩; have HO7 := Lib.hid ho7.sl; clear ho7; replace AB := Lib.hid (AB.out.keep hb); replace HQ := Lib.hid ((hb.block _ (Array.getElem?_eq_some_iff.1 HQ.out).1).trans HQ.out); replace H5 := Lib.hid (H5.out.keep hb); clear hb x0 x1 x2 x3 z1 q0 q1 m0 m1 m2 m3 m4; have x0 := cell_of_blk AB.out.ax 0 (.string ax) rfl; have x1 := cell_of_blk AB.out.ax 1 (.int .i64 aty) rfl; have x2 := cell_of_blk AB.out.ax 2 (.int .i64 al) rfl; have x3 := cell_of_blk AB.out.ax 3 (.slice pa na ca) rfl; have z1 := AB.out.lt; have q0 := cell_of_blk HQ.out 0 (.string ⟨#[]⟩) rfl; have q1 := cell_of_blk HQ.out 1 (.int .i64 0) rfl; obtain ⟨m0, m1, m2, m3, m4⟩ := HKB.out _ AB.out.bel) | (go_at_call 13; (with_reducible refine (CS.out _ _ _ H5.out HO7.out).mono ?_); rintro e w8 ⟨rfl, hb⟩; clear HO7; replace AB := Lib.hid (AB.out.keep hb); replace HQ := Lib.hid ((hb.block _ (Array.getElem?_eq_some_iff.1 HQ.out).1).trans HQ.out); replace H5 := Lib.hid (H5.out.keep hb); clear hb x0 x1 x2 x3 z1 q0 q1 m0 m1 m2 m3 m4; have x0 := cell_of_blk AB.out.ax 0 (.string ax) rfl; have x1 := cell_of_blk AB.out.ax 1 (.int .i64 aty) rfl; have x2 := cell_of_blk AB.out.ax 2 (.int .i64 al) rfl; have x3 := cell_of_blk AB.out.ax 3 (.slice pa na ca) rfl; have z1 := AB.out.lt; have q0 := cell_of_blk HQ.out 0 (.string ⟨#[]⟩) rfl; have q1 := cell_of_blk HQ.out 1 (.int .i64 0) rfl; obtain ⟨m0, m1, m2, m3, m4⟩ := HKB.out _ AB.out.bel) | (go_at_call 23; (with_reducible refine (CK6.out _ AB.out.bel).mono ?_); rintro e w' ⟨rfl, rfl⟩; obtain ⟨n0, n1, n2, n3, n4⟩ := HKC.out _ AB.out.bel))
      go_cut [120] from 95 to 120 (fun s120 wx => s120 = .bool false ∧ Hid (CBx w wx ax aty al (.slice pa na ca)))
      case first =>
        go_region_held3 (fun w' => w'.cell? ⟨b, off + j * 5, none⟩ = some (.string kx) ∧ w'.cell? ⟨b, off + j * 5 + 1, none⟩ = some (.int .i64 kt) ∧ w'.cell? ⟨b, off + j * 5 + 2, none⟩ = some (.int .i64 kf) ∧ w'.cell? ⟨b, off + j * 5 + 3, none⟩ = some (.slice kp kn kc) ∧ w'.cell? ⟨b, off + j * 5 + 4, none⟩ = some (.slice kq km kd) ∧ w'.cell? ⟨b, off + ja * 5, none⟩ = some (.string sx) ∧ w'.cell? ⟨b, off + ja * 5 + 1, none⟩ = some (.int .i64 st) ∧ w'.cell? ⟨b, off + ja * 5 + 2, none⟩ = some (.int .i64 sf) ∧ w'.cell? ⟨b, off + ja * 5 + 3, none⟩ = some (.slice sp sn sc) ∧ w'.cell? ⟨b, off + ja * 5 + 4, none⟩ = some (.slice (some ⟨gb, go, none⟩) sm sd)) (go_keep) ((go_at_call 16; (with_reducible refine (CMs.out _ (below_drU AB.out.bel)).mono ?_); rintro e w9 ⟨rfl, hb⟩; have HB9 := Lib.hid (AB.out.keep ((below_drU (Below.refl _ w8)).trans (hb.mono (Nat.le_refl _)))); clear hb; clear m0 m1 m2 m3 m4 n0 n1 n2 n3 n4; obtain ⟨m0, m1, m2, m3, m4⟩ := HKB.out _ HB9.out.bel; obtain ⟨n0, n1, n2, n3, n4⟩ := HKC.out _ HB9.out.bel))
        go_wp2_with fail
        go_meet
        exact ⟨rfl, HB9⟩
      case rest =>
        obtain ⟨rfl, HC⟩ := hcut
        clear AB HQ H5 x0 x1 x2 x3 z1 q0 q1 m0 m1 m2 m3 m4 n0 n1 n2 n3 n4
        have AB := HC
        clear HC
        have x0 := cell_of_blk AB.out.ax 0 (.string ax) rfl
        have x1 := cell_of_blk AB.out.ax 1 (.int .i64 aty) rfl
        have x2 := cell_of_blk AB.out.ax 2 (.int .i64 al) rfl
        have x3 := cell_of_blk AB.out.ax 3 (.slice pa na ca) rfl
        have z1 := AB.out.lt
        obtain ⟨n0, n1, n2, n3, n4⟩ := HKC.out _ AB.out.bel
        have g0 := HGC.out _ AB.out.bel
        go_wp2_with (first | (go_at_call 11; (with_reducible refine (CPg.out _ AB.out.bel).mono ?_); rintro e w10 ⟨⟨p6, c6, rfl, hs6, hl6⟩, hb⟩; have H6 := Lib.hid (hs6.keep (bnewE w10 (.cells #[.string ⟨#[]⟩, .int .i64 0] 30))); replace AB := Lib.hid ((AB.out.keep hb).keep (bnewE w10 (.cells #[.string ⟨#[]⟩, .int .i64 0] 30))); clear hb hs6; obtain ⟨n0, n1, n2, n3, n4⟩ := HKC.out _ AB.out.bel) | (go_at_call 25; (with_reducible refine (CI.out _).mono ?_); rintro e w11 ⟨rfl, hb⟩; replace AB := Lib.hid (AB.out.keep hb); replace H6 := Lib.hid (H6.out.keep hb); clear hb n0 n1 n2 n3 n4; obtain ⟨n0, n1, n2, n3, n4⟩ := HKC.out _ AB.out.bel) | (go_at_call 18; (with_reducible refine (CT.out _ _ AB.out.bel H6.out (Nat.le_trans hl6 (by decide))).mono ?_); rintro e w12 ⟨rfl, hb⟩; replace AB := Lib.hid (AB.out.keep hb); clear hb))
        go_ret
        exact ⟨rfl, AB.out.bel⟩
end Go.Proofs.YtkhckgknldiheaaDoor
