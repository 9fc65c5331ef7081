/- TrustWays of layer 10, walked, and slices of texts that are arguments, opened; no condition beyond those that each theorem names. -/
import Derived.Test.YtkhckgknldiheaaDoorPA
import Derived.Test.YtkhckgknldiheaaDoorN1
import Derived.Maps.Own
import Derived.DeepKeys4
import Derived.Lib.Hide
import Derived.Test.YtkhckgknldiheaaDoorVV
import Derived.Test.YtkhckgknldiheaaDoorUA
import Derived.Test.YtkhckgknldiheaaDoorTI
import Derived.Test.YtkhckgknldiheaaDoorVI
import Derived.Laws.AppendOwnNone
import Derived.Deep.CutRange
import Derived.RegionTactic
import Derived.BigRegion
import Derived.Test.YtkhckgknldiheaaDoorOS
namespace Go.Proofs.YtkhckgknldiheaaDoor
set_option linter.unusedSimpArgs false
set_option linter.unusedVariables false
open Go.RowKit
open NmP SpP

theorem revI_snd (L : List Stp) : (revI L).map (·.2) = L.reverse := by
  unfold revI
  rw [List.map_reverse, List.map_map]
  congr 1
  show L.zipIdx.map (fun p => p.1) = L
  exact List.zipIdx_map_fst 0 L
theorem downF_eq (known : List Sd) (root : St) (t d : Int) (L : List Stp) : downF known root t d L = folF known root t d L.reverse (.run [] ⟨#[]⟩) := by
  unfold downF atF
  rw [revI_snd]
theorem down_cons (known : List Sd) (root : St) (t d : Int) (p : Stp) (L : List Stp) : downF known root t d (p :: L) = folF known root t d [p] (downF known root t d L) := by
  rw [downF_eq, downF_eq, List.reverse_cons, folF_app]
theorem step_run {known : List Sd} {root : St} {t d : Int} {p : Stp} {keys K : List Sp} {ab ab' : ByteArray} (h : stepF known root t d p keys ab = .run K ab') :
    ab' = p.1 ∧ ∃ s, findK known p.1 7 = some s ∧ K = keysL s.l ∧ matchB (if p.1 = dotB then root else p.2.st) s t d = true ∧ (p.1 = dotB ∨ signedB p.2.st p.2.g ab keys t d = true) := by
  unfold stepF at h
  split at h
  · cases h
  · rename_i hc
    split at h
    · cases h
    · rename_i s hf
      cases hm : matchB (if p.1 = dotB then root else p.2.st) s t d with
      | false => rw [hm] at h; simp at h
      | true =>
        rw [hm] at h
        simp only [↓reduceIte, FR.run.injEq] at h
        obtain ⟨rfl, rfl⟩ := h
        refine ⟨rfl, s, hf, rfl, hm, ?_⟩
        by_cases hz : p.1 = dotB
        · exact .inl hz
        · right
          cases hs : signedB p.2.st p.2.g ab keys t d with
          | true => rfl
          | false => exact absurd (by simp [hz, hs]) hc
theorem down_run {known : List Sd} {root : St} {t d : Int} {p : Stp} {L : List Stp} {K : List Sp} {ab : ByteArray} (h : downF known root t d (p :: L) = .run K ab) :
    ∃ K' ab', downF known root t d L = .run K' ab' ∧ stepF known root t d p K' ab' = .run K ab := by
  rw [down_cons] at h
  cases hd : downF known root t d L with
  | run K' ab' =>
    rw [hd] at h
    exact ⟨K', ab', rfl, h⟩
  | miss z =>
    rw [hd, folF_miss] at h
    cases h
  | bad =>
    rw [hd, folF_bad] at h
    cases h
theorem way_mono (known : List Sd) : ∀ n z l, wayR known n z = .good l → wayR known (n + 1) z = .good l
  | 0, z, l, h => by cases h
  | n + 1, z, l, h => by
    unfold wayR at h ⊢
    split at h
    · rename_i hz
      rw [if_pos hz]
      exact h
    · rename_i hz
      rw [if_neg hz]
      cases hf : findK known z 6 with
      | none => rw [hf] at h; cases h
      | some s =>
        rw [hf] at h
        simp only at h ⊢
        cases hg : s.g with
        | nil => rw [hg] at h; cases h
        | cons g r =>
          rw [hg] at h
          simp only at h ⊢
          split at h
          · rename_i hs
            rw [if_pos hs]
            cases hr : wayR known n g.z with
            | good l' => rw [hr] at h; rw [way_mono known n g.z l' hr]; exact h
            | miss y => rw [hr] at h; cases h
            | bad => rw [hr] at h; cases h
          · cases h
theorem way_head {known : List Sd} {n : Nat} {z : ByteArray} {l : List Stp} (h : wayR known n z = .good l) : ∃ p L, l ++ [(dotB, zSd)] = p :: L ∧ p.1 = z := by
  cases n with
  | zero => cases h
  | succ n =>
    unfold wayR at h
    split at h
    · rename_i hz
      cases h
      exact ⟨(dotB, zSd), [], rfl, hz.symm⟩
    · cases hf : findK known z 6 with
      | none => rw [hf] at h; cases h
      | some s =>
        rw [hf] at h
        simp only at h
        cases hg : s.g with
        | nil => rw [hg] at h; cases h
        | cons g r =>
          rw [hg] at h
          simp only at h
          split at h
          · cases hr : wayR known n g.z with
            | good l' =>
              rw [hr] at h
              cases h
              exact ⟨(z, s), l' ++ [(dotB, zSd)], rfl, rfl⟩
            | miss y => rw [hr] at h; cases h
            | bad => rw [hr] at h; cases h
          · cases h
theorem way_step {known : List Sd} {n : Nat} {z : ByteArray} {l : List Stp} (h : wayR known (n + 1) z = .good l) (hz : z ≠ dotB) : ∃ s g r l', findK known z 6 = some s ∧ s.g = g :: r ∧ stepB z g.z = true ∧ wayR known n g.z = .good l' ∧ l = (z, s) :: l' := by
  unfold wayR at h
  rw [if_neg hz] at h
  cases hf : findK known z 6 with
  | none => rw [hf] at h; cases h
  | some s =>
    rw [hf] at h
    simp only at h
    cases hg : s.g with
    | nil => rw [hg] at h; cases h
    | cons g r =>
      rw [hg] at h
      simp only at h
      split at h
      · rename_i hs
        cases hr : wayR known n g.z with
        | good l' =>
          rw [hr] at h
          cases h
          exact ⟨s, g, r, l', rfl, hg, hs, hr, rfl⟩
        | miss y => rw [hr] at h; cases h
        | bad => rw [hr] at h; cases h
      · cases h
theorem step_args {known : List Sd} {a : St} {z y : ByteArray} {t d : Int} (h : argsB known a z t d = true) (hs : stepB z y = true) : argsB known a y t d = true := by
  unfold argsB at h ⊢
  unfold stepB inB at hs
  simp only [Bool.and_eq_true, Bool.not_eq_true'] at h hs ⊢
  exact ⟨⟨⟨⟨h.1.1.1.1, h.1.1.1.2⟩, hs.1.1.1.2⟩, hs.2⟩, h.2⟩
/-- What it means that Path returns keys. -/
theorem path_keys {known : List Sd} {a : St} {z : ByteArray} {t d : Int} {K : List Sp} (h : pathR known a z t d = .keys K) :
    argsB known a z t d = true ∧ ∃ sk, findK known z 7 = some sk ∧ K = keysL sk.l ∧
      ((z = dotB ∧ matchB a sk t d = true) ∨
       (z ≠ dotB ∧ ∃ sa g r, findK known z 6 = some sa ∧ sa.g = g :: r ∧ stepB z g.z = true ∧ matchB sa.st sk t d = true ∧ ∃ K', pathR known a g.z t d = .keys K' ∧ signedB sa.st sa.g g.z K' t d = true)) := by
  unfold pathR at h
  split at h
  · rename_i ha
    refine ⟨ha, ?_⟩
    unfold pathW at h
    cases hw : wayR known 63 z with
    | good l =>
      rw [hw] at h
      simp only at h
      cases hd : downF known a t d (l ++ [(dotB, zSd)]) with
      | run K1 ab =>
        rw [hd] at h
        cases h
        by_cases hz : z = dotB
        · subst hz
          have hl : l = [] := by
            have h0 : wayR known 63 dotB = .good [] := by unfold wayR; rw [if_pos rfl]
            rw [h0] at hw
            cases hw
            rfl
          subst hl
          obtain ⟨K', ab', _, hs⟩ := down_run hd
          obtain ⟨rfl, s, h1, h2, h3, _⟩ := step_run hs
          exact ⟨s, h1, h2, .inl ⟨rfl, by simpa using h3⟩⟩
        · obtain ⟨sa, g, r, l', h1, h2, h3, h4, rfl⟩ := way_step hw hz
          obtain ⟨K', ab', hd', hs⟩ := down_run (L := l' ++ [(dotB, zSd)]) hd
          obtain ⟨_, sk, k1, k2, k3, k4⟩ := step_run hs
          have hab : ab' = g.z := by
            obtain ⟨p, L, hp, hpz⟩ := way_head h4
            rw [hp] at hd'
            obtain ⟨_, _, _, hs'⟩ := down_run hd'
            rw [(step_run hs').1, hpz]
          subst hab
          refine ⟨sk, k1, k2, .inr ⟨hz, sa, g, r, h1, h2, h3, ?_, K', ?_, ?_⟩⟩
          · simpa [hz] using k3
          · unfold pathR
            rw [if_pos (step_args ha h3), way_mono known 62 g.z l' h4]
            show pathD (downF known a t d (l' ++ [(dotB, zSd)])) = _
            rw [hd']
            rfl
          · rcases k4 with k4 | k4
            · exact absurd k4 hz
            · exact k4
      | miss y => rw [hd] at h; cases h
      | bad => rw [hd] at h; cases h
    | miss y => rw [hw] at h; cases h
    | bad => rw [hw] at h; cases h
  · cases h
end Go.Proofs.YtkhckgknldiheaaDoor

namespace Go.Proofs.YtkhckgknldiheaaDoor
set_option linter.unusedSimpArgs false
set_option linter.unusedVariables false
open Go.RowKit Go.ChangeMaps Go.MapKept
open Go.WideElems (Fit rd rg pl rd_mk)
open Go.Maps (Keyed)

/-- A value of a map, read as itself. -/
def Rf (v : Value) : Option (DataW Value × List MemPlace) := some (.held v, [])
/-- Block b is a map that has these entries, in the order in which they came. -/
def MapE (P : Program) (k : TypeId) (b : Nat) (E : List (Value × Value)) (w : World) : Prop :=
  ∃ es clock, w.heap[b]? = some (.map es clock) ∧ Fit P k Rf es clock ∧ es.toList.map (fun x => (x.key, x.val)) = E
section
variable {P : Program} {k : TypeId} {b : Nat} {E : List (Value × Value)} {w w' : World}
theorem mapE_new (P : Program) (k : TypeId) (w : World) : MapE P k w.heap.size [] (w.alloc (.map #[] 0)) :=
  ⟨#[], 0, (MapKept.heap_alloc w _).1, ⟨by simp, stamped_empty 0, by simp⟩, rfl⟩
theorem MapE.lt (h : MapE P k b E w) : b < w.heap.size := by
  obtain ⟨es, clock, hb, _⟩ := h
  exact (Array.getElem?_eq_some_iff.1 hb).1
theorem MapE.keep (h : MapE P k b E w) (hb : Below w.heap.size w w') : MapE P k b E w' := by
  have hlt := h.lt
  obtain ⟨es, clock, hx, F, hE⟩ := h
  exact ⟨es, clock, (hb.block b hlt).trans hx, F, hE⟩
theorem MapE.of_block (h : MapE P k b E w) (hb : w'.heap[b]? = w.heap[b]?) : MapE P k b E w' := by
  obtain ⟨es, clock, hx, F, hE⟩ := h
  exact ⟨es, clock, hb.trans hx, F, hE⟩
theorem MapE.small (h : MapE P k b E w) : E.length ≤ maxLen := by
  obtain ⟨es, clock, _, F, rfl⟩ := h
  simpa using F.size
/-- A new key. -/
theorem MapE.put {t e : TypeId} (h : MapE P k b E w) (K : Keyed P k) (ht : P.underlying t = some (.map k e)) (hn : E.length < maxLen) {key val : Value} {kl : Lit} (hkey : keyOf P k key = some kl) (hnew : ∀ p ∈ E, p.1 ≠ key) :
    ∃ w', (Instr.mapUpdate t (.map (some b)) key val).run P w = .ok () w' ∧ MapE P k b (E ++ [(key, val)]) w' ∧ w.grownBy w' (some b) := by
  obtain ⟨es, clock, hb, F, rfl⟩ := h
  have h2 : ∀ x ∈ es.toList, x.key ≠ key := fun x hx => hnew (x.key, x.val) (List.mem_map.2 ⟨x, hx, rfl⟩)
  have hkeys : ∀ x ∈ es.toList, ∃ l, keyOf P k x.key = some l := fun x hx => by
    obtain ⟨y, hy⟩ := F.reads x hx
    exact ⟨_, Go.WideElems.rd_key hy⟩
  rcases K.find w hkey es.toList hkeys with ⟨h1, _⟩ | ⟨j, e0, h1, h3, h4⟩
  · refine ⟨setBlock w b (.map (es.push ⟨key, val, clock⟩) (clock + 1)), ?_, ⟨es.push ⟨key, val, clock⟩, clock + 1, heap_setBlock_same hb _, ⟨?_, stamped_push F.stamped h2, ?_⟩, by simp⟩, ⟨rfl, rfl, rfl, by simp [setBlock], fun i _ hi => heap_setBlock_other hb _ (fun e => hi (by rw [e]))⟩⟩
    · simp [Instr.mapUpdate, run_underlying ht, MapKept.run_getObj_map hb, K.check w false hkey, h1, MapKept.run_setObj_map _ hb, Result.andThen, setBlock]
    · simp only [List.length_map, Array.length_toList] at hn
      simp only [Array.size_push]
      omega
    · intro x hx
      simp only [Array.toList_push, List.mem_append, List.mem_singleton] at hx
      rcases hx with hx | rfl
      · exact F.reads x hx
      · exact ⟨_, Go.WideElems.rd_mk (yv := (.held val, [])) hkey rfl⟩
  · exact absurd h4 (h2 e0 (List.mem_of_getElem? h3))
/-- A look-up of a key that the map has. -/
theorem MapE.look {t e : TypeId} (h : MapE P k b E w) (K : Keyed P k) (ht : P.underlying t = some (.map k e)) {z : Value} (hz : (zeroValue e).run P w = .ok z w) {key : Value} {kl : Lit} (hkey : keyOf P k key = some kl) (c : Bool) :
    ((∀ p ∈ E, p.1 ≠ key) ∧ (Instr.lookup t (.map (some b)) key c).run P w = .ok (if c then .tuple #[z, .bool false] else z) w) ∨
    ∃ v, (key, v) ∈ E ∧ (Instr.lookup t (.map (some b)) key c).run P w = .ok (if c then .tuple #[v, .bool true] else v) w := by
  obtain ⟨es, clock, hb, F, rfl⟩ := h
  rcases Maps.fit_look c K ht hz hb F hkey with ⟨hrun, hno, _⟩ | ⟨e0, y, hm, he, hrun, _⟩
  · refine .inl ⟨fun p hp => ?_, hrun⟩
    obtain ⟨x, hx, rfl⟩ := List.mem_map.1 hp
    exact hno x hx
  · exact .inr ⟨e0.val, List.mem_map.2 ⟨e0, hm, by rw [he]⟩, hrun⟩
/-- The length. -/
theorem MapE.len (h : MapE P k b E w) {t e ty : TypeId} (ht : P.underlying t = some (.map k e)) : (Builtin.len_ #[t] ty #[.map (some b)]).run P w = .ok (.int .i64 E.length) w := by
  obtain ⟨es, clock, hb, F, rfl⟩ := h
  simp [Builtin.len_, run_underlying ht, MapKept.run_getObj_map hb, goInt]
/-- A new key, for the walk. -/
theorem wpList_putE {ops : Array Oper} {rest : List Oper} {o : Oper} {a : Act} {Q : Exit → Act → World → Prop}
    (hg : o.guard = none) (m x v : Operand) (t : TypeId) (hop : o.op = Op.mapUpdate t m x v) (e : TypeId) (K : Keyed P k) (ht : P.underlying t = some (.map k e)) (hm : a.eval m = .map (some b)) (h : MapE P k b E w) (hn : E.length < maxLen)
    (key val : Value) (kl : Lit) (hx : a.eval x = key) (hv : a.eval v = val) (hkey : keyOf P k key = some kl) (hnew : ∀ p ∈ E, p.1 ≠ key)
    (hK : ∀ w', MapE P k b (E ++ [(key, val)]) w' → w.grownBy w' (some b) → wpList P ops Q rest (a.put o.dst undef) w') :
    wpList P ops Q (o :: rest) a w := by
  refine wpList_plain hg fun K' hK' => ?_
  obtain ⟨w', hrun, r1, r2⟩ := h.put K ht hn (val := val) hkey hnew
  unfold Oper.wp
  simp [execOp, hop, hm, hx, hv, hrun, Result.andThen]
  exact hK' _ _ (hK w' r1 r2)
end
theorem laidK : laidOutB Tryd.prog = true := by kernel_rfl
theorem keyedQ : Keyed Tryd.prog 30 := Keyed.of_law (deep_law_laid laidK (m := 2) (by omega) (of_decide_eq_true (by kernel_rfl)) (by kernel_rfl) (by rw [Tryd.underlying30]))
theorem keyOfQ (z : ByteArray) (c : Int) (hz : z.size ≤ maxLen) (hc : (Lit.int .i64 c).wf = true) : ∃ l, keyOf Tryd.prog 30 (.agg #[.string z, .int .i64 c]) = some l := by
  have hT : Tryd.prog.keyType 30 = true := by kernel_rfl
  have h2 : Tryd.prog.cellsOf 30 = 2 := by kernel_rfl
  have h1 : Tryd.prog.cellsOf 9 = 1 := by kernel_rfl
  have h3 : Tryd.prog.cellsOf 3 = 1 := by kernel_rfl
  have hF : (Value.agg #[.string z, .int .i64 c]).formed Tryd.prog 30 = true := by simp [Value.formed, Tryd.underlying30, h2]
  obtain ⟨m, hm⟩ : ∃ m, Tryd.prog.types.size = m + 1 := ⟨Tryd.prog.types.size - 1, by have : 30 < Tryd.prog.types.size := of_decide_eq_true (by kernel_rfl); omega⟩
  have hS : Tryd.prog.keyLits (m + 1) 9 [.string z] = some [.string z.data.toList] := by simp [Program.keyLits, Tryd.underlying9, hz]
  have hI : Tryd.prog.keyLits (m + 1) 3 [.int .i64 c] = some [.int .i64 c] := by simp [Program.keyLits, Tryd.underlying3, hc]
  refine ⟨.string (keyBytes [.string z.data.toList, .int .i64 c]), ?_⟩
  unfold keyOf
  rw [Tryd.underlying30]
  simp only [hT, hF, Bool.and_self, ↓reduceIte]
  rw [hm]
  unfold Program.keyLits
  rw [Tryd.underlying30]
  simp [h1, h2, h3, Value.cells, hS, hI]
end Go.Proofs.YtkhckgknldiheaaDoor

namespace Go.Proofs.YtkhckgknldiheaaDoor
set_option linter.unusedSimpArgs false
set_option linter.unusedVariables false
open Go.RowKit
open NmP

theorem label_nodotW {l : Bs} {f : Bool} (h : labelB l f = true) : (46 : UInt8) ∉ l := by
  intro hm
  simp only [labelB, Bool.or_eq_true, Bool.and_eq_true, beq_iff_eq] at h
  rcases h with ⟨_, h⟩ | h
  · rw [h] at hm; simp at hm
  · have := List.all_eq_true.1 h.2 46 hm
    exact absurd this (by decide)
theorem label_leW {l : Bs} {f : Bool} (h : labelB l f = true) : l.length ≤ 12 := by
  simp only [labelB, Bool.or_eq_true, Bool.and_eq_true, beq_iff_eq, decide_eq_true_eq] at h
  rcases h with ⟨_, h⟩ | h
  · rw [h]; simp
  · exact h.1.1.1.2
theorem labs_leW : ∀ {r : List Bs} {f : Bool}, labsOK f r = true → ∀ x ∈ r, x.length ≤ 12
  | [], _, _, x, hx => absurd hx List.not_mem_nil
  | a :: r, f, h, x, hx => by
    rw [labsOK, Bool.and_eq_true] at h
    rcases List.mem_cons.1 hx with rfl | hx
    · exact label_leW h.1
    · exact labs_leW h.2 x hx
theorem splitF_joinW : ∀ {r : List Bs} {f : Bool}, r ≠ [] → labsOK f r = true → splitF (joinD r) = r
  | [], _, h, _ => absurd rfl h
  | [x], f, _, h => by
    simp only [labsOK, Bool.and_true] at h
    exact splitF_none _ (label_nodotW h)
  | x :: y :: r, f, _, h => by
    rw [labsOK, Bool.and_eq_true] at h
    rw [joinD_cons _ _ (by simp), splitF_dot, splitF_none _ (label_nodotW h.1), splitF_joinW (by simp) h.2]
    rfl
theorem labs_joinW {r : List Bs} (hr : r ≠ []) (h : labsOK true r = true) : joinD r ≠ [46] ∧ labs (joinD r) = r := by
  have hs := splitF_joinW hr h
  have hne : joinD r ≠ [46] := fun q => by
    rw [q] at hs
    have h2 := labsOK_ne h [] (by rw [← hs]; simp [splitF])
    exact h2 rfl
  exact ⟨hne, by rw [labs_of hne, hs]⟩
theorem tlz_take (L : List ByteArray) (k : Nat) : tlz (L.take k) = (tlz L).take k := by simp [tlz]
theorem tlz_get {L : List ByteArray} {k : Nat} (hk : k < L.length) : (tlz L).take (k + 1) = (tlz L).take k ++ [L[k].toList] := by
  rw [List.take_add_one]
  simp [tlz, hk]
/-- What Glue returns. -/
def GlueTo (L : List ByteArray) (w : World) (e : Ending) (w' : World) : Prop := ∃ y : ByteArray, e = .returned (.string y) ∧ y.toList = joinD (tlz L) ∧ y.size ≤ 13 * L.length ∧ w = w'

set_option maxHeartbeats 2000000 in
set_option maxRecDepth 100000 in
theorem rglue_any (v : Value) (L : List ByteArray) (w : World) (hv : SlZ v L w) (h1 : 1 ≤ L.length) (h9 : L.length ≤ 100) (hs : ∀ x ∈ L, x.size ≤ 12) :
    Calls Tryd.prog 61 #[v] w (GlueTo L w) := by
  obtain ⟨p, c, rfl⟩ := hv.form
  obtain ⟨n, hn⟩ : ∃ n, L.length = n := ⟨_, rfl⟩
  rw [hn] at hv h1 h9 ⊢
  obtain ⟨g, rfl, hg, hc⟩ := hv.at_ (by omega)
  have HN := Lib.hid hn
  have HC := Lib.hid hc
  have HS := Lib.hid hs
  have z := hc 0 (by omega)
  have hT : (L[0]'(by omega)).toList = joinD ((tlz L).take 1) := by
    have h := tlz_get (L := L) (k := 0) (by omega)
    rw [Nat.zero_add, List.take_zero, List.nil_append] at h
    rw [h]
    rfl
  have hT2 : (L[0]'(by omega)).size ≤ 13 * 1 := by have := hs L[0] (List.getElem_mem (by omega)); omega
  have HT := Lib.hid hT
  unfold GlueTo
  generalize L[0]'(by omega) = y0 at *
  clear hT hn hc hs hv
  go_enter Tryd.func61, Tryd.ntmps61
  have hn0 : ((n : Int) == 0) = false := by simp; omega
  go_wp2
  go_loop [3, 4] (fun s3 s4 => ∃ (i : Nat) (y : ByteArray), 1 ≤ i ∧ i ≤ n ∧ s4 = .int .i64 i ∧ s3 = .string y ∧ y.size ≤ 13 * i ∧ Hid (y.toList = joinD ((tlz L).take i))) (fun _ s4 => n - (intOf s4).toNat)
  case atStart => exact ⟨1, y0, Nat.le_refl _, h1, rfl, rfl, hT2, HT⟩
  case round =>
    obtain ⟨i, y, hi1, hi, rfl, rfl, hy, HY⟩ := hrel
    by_cases hlt : i < n
    · have hil : i < L.length := by rw [HN.out]; exact hlt
      have z2 := HC.out i hil
      have hx := HS.out L[i] (List.getElem_mem hil)
      have HJ : Hid (∀ u : ByteArray, u.toList = y.toList ++ 46 :: L[i].toList → u.toList = joinD ((tlz L).take (i + 1))) := Lib.hid (fun u hu => by
        rw [hu, tlz_get hil, joinD_append _ _ (by intro h; have h2 := congrArg List.length h; rw [List.length_take, tlz_len, HN.out, List.length_nil, Nat.min_eq_left (by omega)] at h2; omega) (by simp), HY.out]
        rfl)
      generalize L[i] = x at *
      have hi2 : (i : Int) < (n : Int) := by omega
      have k1 : ¬ 9223372036854775807 < y.size + 1 := by omega
      have k2 : ¬ 9223372036854775807 < y.size + 1 + x.size := by omega
      clear HY HT z
      go_wp2
      go_round
      case rel => exact ⟨i + 1, _, by omega, hlt, by go_num, rfl, by rw [ByteArray.size_append, ByteArray.size_append]; show y.size + 1 + x.size ≤ _; omega, Lib.hid (HJ.out _ (by rw [tl_app, tl_app]; simp [tl]))⟩
      case measure => simp [intOf]; omega
    · obtain rfl : i = n := by omega
      have h := HY.out
      rw [List.take_of_length_le (by rw [tlz_len, HN.out]; exact Nat.le_refl _)] at h
      have HF := Lib.hid h
      clear h HY
      go_wp2
      go_ret
      exact ⟨y, rfl, HF.out, by rw [HN.out]; exact hy, rfl⟩
/-- What Join returns. -/
def JoinTo (L : List ByteArray) (w : World) (e : Ending) (w' : World) : Prop := ((∃ y : ByteArray, e = .returned (.tuple #[.string y, .int .i64 0]) ∧ y.toList = joinD (tlz L) ∧ labsOK true (tlz L) = true ∧ L.length ≤ 8 ∧ y.size ≤ 60) ∨ e = .returned (.tuple #[.string ⟨#[]⟩, .int .i64 11])) ∧ w = w'

set_option maxHeartbeats 2000000 in
set_option maxRecDepth 100000 in
theorem rjoin_any (v : Value) (L : List ByteArray) (w : World) (hv : SlZ v L w) (h1 : 1 ≤ L.length) (h9 : L.length ≤ 100) (hs : ∀ x ∈ L, x.size ≤ maxLen) :
    Calls Tryd.prog 27 #[v] w (JoinTo L w) := by
  have CG := Lib.hid (fun h => rglue_any v L w hv h1 h9 (fun x hx => by have := labs_leW (r := tlz L) (f := true) h x.toList (List.mem_map.2 ⟨x, hx, rfl⟩); rw [tl_len] at this; exact this))
  obtain ⟨p, c, rfl⟩ := hv.form
  obtain ⟨n, hn⟩ : ∃ n, L.length = n := ⟨_, rfl⟩
  rw [hn] at hv h1 h9 CG ⊢
  have HNN := Lib.hid hn
  have HZZ := Lib.hid hv
  have HZ := Lib.hid hs
  unfold JoinTo
  unfold GlueTo at CG
  rw [hn] at CG ⊢
  obtain ⟨R, hR⟩ : ∃ R, labsOK (decide (0 = 0)) ((tlz L).drop 0) = R := ⟨_, rfl⟩
  have HR := Lib.hid hR
  rw [decide_eq_true rfl, List.drop_zero] at hR
  rw [hR] at CG ⊢
  clear hv hn hs hR
  go_enter Tryd.func27, Tryd.ntmps27
  go_wp2
  go_loop [4] (fun s4 => ∃ k : Nat, k ≤ n ∧ s4 = .int .i64 k ∧ Hid (labsOK (decide (k = 0)) ((tlz L).drop k) = R)) (fun s4 => n - (intOf s4).toNat)
  case atStart => exact ⟨0, by omega, rfl, HR⟩
  case round =>
    obtain ⟨k, hk, rfl, H1⟩ := hrel
    by_cases hlt : k < n
    · have hkl : k < L.length := by rw [HNN.out]; exact hlt
      obtain ⟨g, rfl, hgl, hc⟩ := HZZ.out.at_ (by omega)
      have z := hc k hkl
      have HY := Lib.hid (fun W => rlabel_any L[k] W (HZ.out L[k] (List.getElem_mem hkl)))
      have h4 := labs_next H1.out hkl
      have e0 : decide (k + 1 = 0) = false := decide_eq_false (by omega)
      rw [labelB_or] at h4
      generalize labelB L[k].toList false = b at *
      generalize L[k] = y at *
      have hi : (k : Int) < (n : Int) := by omega
      clear hc HR
      cases b
      · by_cases hk0 : k = 0
        · subst hk0
          cases h5 : (y.toList == [42])
          · obtain rfl : R = false := by rw [← h4, h5]; rfl
            clear h4
            go_wp2_with (go_at_call 60; (with_reducible refine (HY.out _).mono ?_); rintro e w2 ⟨rfl, rfl⟩)
            go_ret2
            exact ⟨.inr rfl, rfl⟩
          · rw [h5] at h4
            have H2 : Hid (labsOK (decide (0 + 1 = 0)) ((tlz L).drop (0 + 1)) = R) := Lib.hid h4
            clear h4
            go_wp2_with (go_at_call 60; (with_reducible refine (HY.out _).mono ?_); rintro e w2 ⟨rfl, rfl⟩)
            go_round
            · exact ⟨0 + 1, hlt, by go_num, H2⟩
            · simp [intOf]
              omega
        · have e1 : decide (k = 0) = false := decide_eq_false hk0
          obtain rfl : R = false := by rw [← h4, e1]; rfl
          have hk1 : (0 : Int) < (k : Int) := by omega
          clear h4 e1
          go_wp2_with (go_at_call 60; (with_reducible refine (HY.out _).mono ?_); rintro e w2 ⟨rfl, rfl⟩)
          go_ret2
          exact ⟨.inr rfl, rfl⟩
      · rw [Bool.or_true, Bool.true_and] at h4
        have H2 := Lib.hid h4
        clear h4
        go_wp2_with (go_at_call 60; (with_reducible refine (HY.out _).mono ?_); rintro e w2 ⟨rfl, rfl⟩)
        go_round
        · exact ⟨k + 1, hlt, by go_num, H2⟩
        · simp [intOf]
          omega
    · obtain rfl : k = n := by omega
      have h4 := H1.out
      rw [List.drop_eq_nil_of_le (by rw [tlz_len, HNN.out]; exact Nat.le_refl _)] at h4
      have hRt : R = true := by rw [← h4]; cases decide (k = 0) <;> rfl
      subst hRt
      have CG2 := Lib.hid (CG.out rfl)
      clear h4 H1 HR CG
      go_wp2_with (go_at_call 61; fail)
      (with_reducible refine (CG2.out).mono ?_)
      rintro e w2 ⟨y, rfl, hy1, hy2, rfl⟩
      have HY := Lib.hid hy1
      clear hy1
      have hyk : y.size ≤ 1300 := by omega
      by_cases c8 : 8 < k
      · have c8' : (8 : Int) < (k : Int) := by omega
        go_wp2
        go_ret2
        exact ⟨.inr rfl, rfl⟩
      · have c8' : ¬ (8 : Int) < (k : Int) := by omega
        by_cases c60 : 60 < y.size
        · have c60' : (60 : Int) < (y.size : Int) := by omega
          go_wp2
          go_ret2
          exact ⟨.inr rfl, rfl⟩
        · have c60' : ¬ (60 : Int) < (y.size : Int) := by omega
          go_wp2
          go_ret2
          exact ⟨.inl ⟨y, rfl, HY.out, by omega, by omega⟩, rfl⟩
end Go.Proofs.YtkhckgknldiheaaDoor

namespace Go.Proofs.YtkhckgknldiheaaDoor
set_option linter.unusedSimpArgs false
set_option linter.unusedVariables false
open Go.RowKit
open NmP SpP

/-- Zones below each other, from the root on. -/
structure ChainZ (Z : List ByteArray) : Prop where
  hd : Z[0]? = some dotB
  st : ∀ (i : Nat) (x y : ByteArray), Z[i]? = some x → Z[i + 1]? = some y → stepB y x = true
  ln : ∀ (i : Nat) (x : ByteArray), Z[i]? = some x → (labs x.toList).length = i
  nw : ∀ (i : Nat) (x : ByteArray), Z[i]? = some x → wildB x.toList = false
  vl : ∀ (i : Nat) (x : ByteArray), Z[i]? = some x → validB x.toList = true
theorem ChainZ.inj {Z : List ByteArray} (h : ChainZ Z) {i j : Nat} {x : ByteArray} (hi : Z[i]? = some x) (hj : Z[j]? = some x) : i = j := by
  rw [← h.ln i x hi, ← h.ln j x hj]
theorem ChainZ.dot {Z : List ByteArray} (h : ChainZ Z) {i : Nat} {x : ByteArray} (hi : Z[i]? = some x) : x = dotB ↔ i = 0 := by
  constructor
  · rintro rfl
    exact h.inj hi h.hd
  · rintro rfl
    rw [h.hd] at hi
    exact (Option.some.inj hi).symm
theorem chain_one : ChainZ [dotB] := by
  have hl : labs dotB.toList = [] := by rw [dot_list]; rfl
  refine ⟨rfl, fun i x y h1 h2 => ?_, fun i x h => ?_, fun i x h => ?_, fun i x h => ?_⟩
  · simp at h2
  all_goals
    have hlt := (List.getElem?_eq_some_iff.1 h).1
    simp only [List.length_singleton] at hlt
    obtain rfl : i = 0 := by omega
    simp only [List.getElem?_cons_zero, Option.some.injEq] at h
    subst h
  · rw [hl]; rfl
  · rw [dot_list]; rfl
  · rw [dot_list]; rfl
theorem label_not_wild {l : Bs} (h : labelB l false = true) : l[0]? ≠ some 42 := by
  intro hc
  cases l with
  | nil => simp at hc
  | cons c r =>
    simp only [List.getElem?_cons_zero, Option.some.injEq] at hc
    subst hc
    unfold labelB at h
    simp only [Bool.false_and, Bool.false_or, Bool.and_eq_true, List.all_cons] at h
    have h2 : okc 42 = true := h.2.1
    exact absurd h2 (by decide)
/-- One more zone. -/
theorem chain_push {Z : List ByteArray} (h : ChainZ Z) {x s y : ByteArray} (hx : Z[Z.length - 1]? = some x) (hs : s.toList ≠ [42]) (hl : labsOK true (s.toList :: labs x.toList) = true) (h8 : (labs x.toList).length + 1 ≤ 8)
    (hy : y.toList = joinD (s.toList :: labs x.toList)) (h60 : y.size ≤ 60) : ChainZ (Z ++ [y]) := by
  have hlen := (List.getElem?_eq_some_iff.1 hx).1
  obtain ⟨hne, hlabs⟩ := labs_joinW (r := s.toList :: labs x.toList) (by simp) hl
  rw [← hy] at hne hlabs
  have hsp : splitF y.toList = s.toList :: labs x.toList := by rw [← labs_of hne]; exact hlabs
  have hls : labelB s.toList true = true := by
    rw [labsOK, Bool.and_eq_true] at hl
    exact hl.1
  have hls2 : labelB s.toList false = true := by
    rw [labelB_or] at hls
    simpa [hs] using hls
  have hsn := labelB_ne hls
  have hy1 : 1 ≤ y.toList.length := by
    cases hyy : y.toList with
    | nil => rw [hyy] at hsp; simp [splitF] at hsp; exact absurd hsp.1 hsn
    | cons c r => simp
  have hval : validB y.toList = true := by
    unfold validB
    rw [hsp, hl]
    have hcl : (s.toList :: labs x.toList).length ≤ 8 := by simp only [List.length_cons]; omega
    have h6 : y.toList.length ≤ 60 := by rw [tl_len]; exact h60
    simp only [Bool.or_eq_true, Bool.and_eq_true, decide_eq_true_eq]
    exact .inr ⟨⟨⟨hy1, h6⟩, trivial⟩, hcl⟩
  have hvx := h.vl _ _ hx
  have hwx := h.nw _ _ hx
  have hnl : (labs y.toList).length = Z.length := by
    rw [hlabs, List.length_cons, h.ln _ _ hx]
    omega
  have hstep : stepB y x = true := by
    unfold stepB inB
    rw [hval, hvx, hwx]
    have hu : underB y.toList x.toList = true := by
      rw [under_iff (valid_ok hval), hlabs]
      exact List.suffix_cons _ _
    rw [hu]
    have hxy : ¬ x = y := by
      rintro rfl
      have := h.ln _ _ hx
      omega
    simp [hxy]
  have hyw : wildB y.toList = false := by
    unfold wildB
    have h0 : y.toList[0]? = s.toList[0]? := by
      rw [hy]
      cases hr : labs x.toList with
      | nil => rfl
      | cons a r =>
        rw [joinD_cons _ _ (by simp)]
        cases hss : s.toList with
        | nil => exact absurd hss hsn
        | cons c q => rfl
    rw [h0]
    have := label_not_wild hls2
    simpa using this
  have g : ∀ i u, (Z ++ [y])[i]? = some u → (i < Z.length ∧ Z[i]? = some u) ∨ (i = Z.length ∧ u = y) := fun i u hu => by
    by_cases hi : i < Z.length
    · rw [List.getElem?_append_left hi] at hu
      exact .inl ⟨hi, hu⟩
    · have hlt := (List.getElem?_eq_some_iff.1 hu).1
      simp only [List.length_append, List.length_singleton] at hlt
      obtain rfl : i = Z.length := by omega
      rw [List.getElem?_append_right (Nat.le_refl _), Nat.sub_self] at hu
      simp only [List.getElem?_cons_zero, Option.some.injEq] at hu
      exact .inr ⟨rfl, hu.symm⟩
  refine ⟨?_, fun i u v h1 h2 => ?_, fun i u h1 => ?_, fun i u h1 => ?_, fun i u h1 => ?_⟩
  · rw [List.getElem?_append_left (by omega)]
    exact h.hd
  · rcases g _ _ h2 with ⟨h3, h4⟩ | ⟨h3, rfl⟩
    · rcases g _ _ h1 with ⟨h5, h6⟩ | ⟨h5, _⟩
      · exact h.st i u v h6 h4
      · omega
    · rcases g _ _ h1 with ⟨h5, h6⟩ | ⟨h5, _⟩
      · have : i = Z.length - 1 := by omega
        subst this
        rw [hx] at h6
        cases h6
        exact hstep
      · omega
  · rcases g _ _ h1 with ⟨h5, h6⟩ | ⟨rfl, rfl⟩
    · exact h.ln i u h6
    · exact hnl
  · rcases g _ _ h1 with ⟨h5, h6⟩ | ⟨rfl, rfl⟩
    · exact h.nw i u h6
    · exact hyw
  · rcases g _ _ h1 with ⟨h5, h6⟩ | ⟨rfl, rfl⟩
    · exact h.vl i u h6
    · exact hval

/-- The key of the zone with a number, and its datum. -/
def kk (i : Nat) : Sp := ((i : Int) + 1, 1 + (i : Int) % 3)
def kD (i : Nat) : Dt := (⟨#[]⟩, (i : Int) + 1, 1 + (i : Int) % 3)
/-- The sets of a chain: key sets, and anchor sets. -/
structure Fam (Z : List ByteArray) (A K : List Sd) (t d : Int) : Prop where
  kl : K.length = Z.length
  al : A.length + 1 = Z.length
  k : ∀ (i : Nat) (z : ByteArray) (s : Sd), Z[i]? = some z → K[i]? = some s → s.x = z ∧ s.t = 7 ∧ s.l = [kD i] ∧ s.st.ok = true ∧ signedB s.st s.g z [kk i] t d = true
  a : ∀ (i : Nat) (z y : ByteArray) (s : Sd), Z[i]? = some z → Z[i + 1]? = some y → A[i]? = some s → s.x = y ∧ s.t = 6 ∧ s.l = [kD (i + 1)] ∧ s.st.ok = true ∧ (∃ g, s.g = [g] ∧ g.z = z) ∧ signedB s.st s.g z [kk i] t d = true
theorem keys_kD (i : Nat) : keysL [kD i] = [kk i] := rfl
theorem common_self (k : Sp) : commonL [k] [k] = [k] := by
  unfold commonL
  simp
/-- The stops of the way of the zone with a number. -/
def stL (Z : List ByteArray) (A : List Sd) : Nat → List Stp
  | 0 => [(dotB, zSd)]
  | i + 1 => ((Z[i + 1]?).getD dotB, (A[i]?).getD zSd) :: stL Z A i
theorem stL_succ (Z : List ByteArray) (A : List Sd) (i : Nat) : stL Z A (i + 1) = ((Z[i + 1]?).getD dotB, (A[i]?).getD zSd) :: stL Z A i := rfl
section
variable {Z : List ByteArray} {A K known : List Sd} {t d : Int}
theorem way_good (hZ : ChainZ Z) (F : Fam Z A K t d) : ∀ (i : Nat) (z : ByteArray) (f : Nat), Z[i]? = some z → i < f → (∀ (j : Nat) (y : ByteArray) (s : Sd), j < i → Z[j + 1]? = some y → A[j]? = some s → findK known y 6 = some s) → ∃ l, wayR known f z = .good l ∧ l ++ [(dotB, zSd)] = stL Z A i
  | 0, z, f, hz, hf, _ => by
    obtain ⟨f, rfl⟩ : ∃ g, f = g + 1 := ⟨f - 1, by omega⟩
    refine ⟨[], ?_, rfl⟩
    unfold wayR
    rw [if_pos ((hZ.dot hz).2 rfl)]
  | i + 1, z, f, hz, hf, hk => by
    obtain ⟨f, rfl⟩ : ∃ g, f = g + 1 := ⟨f - 1, by omega⟩
    have hlt := (List.getElem?_eq_some_iff.1 hz).1
    have hzi : Z[i]? = some (Z[i]'(by omega)) := List.getElem?_eq_getElem (by omega)
    have hai : A[i]? = some (A[i]'(by have := F.al; omega)) := List.getElem?_eq_getElem (by have := F.al; omega)
    obtain ⟨_, _, _, _, ⟨g, hg, hgz⟩, _⟩ := F.a i _ _ _ hzi hz hai
    obtain ⟨l, h1, h2⟩ := way_good hZ F i _ f hzi (by omega) (fun j y s hj => hk j y s (by omega))
    refine ⟨(z, A[i]'(by have := F.al; omega)) :: l, ?_, ?_⟩
    · unfold wayR
      rw [if_neg (fun h => by have := (hZ.dot hz).1 h; omega), hk i z _ (by omega) hz hai]
      simp only [hg]
      rw [if_pos (by rw [hgz]; exact hZ.st i _ _ hzi hz), hgz, h1]
      rfl
    · show (z, _) :: (l ++ [(dotB, zSd)]) = _
      rw [h2]
      rw [stL_succ, hz, hai]
      rfl
theorem way_missing (hZ : ChainZ Z) (F : Fam Z A K t d) {m : Nat} {zm : ByteArray} (hm : Z[m]? = some zm) (hm1 : 1 ≤ m) (hno : findK known zm 6 = none) : ∀ (i : Nat) (z : ByteArray) (f : Nat), m ≤ i → Z[i]? = some z → i < f → (∀ (j : Nat) (y : ByteArray) (s : Sd), m ≤ j → j < i → Z[j + 1]? = some y → A[j]? = some s → findK known y 6 = some s) → wayR known f z = .miss zm
  | 0, z, f, hmi, hz, hf, _ => by omega
  | i + 1, z, f, hmi, hz, hf, hk => by
    obtain ⟨f, rfl⟩ : ∃ g, f = g + 1 := ⟨f - 1, by omega⟩
    have hnd : ¬ z = dotB := fun h => by have := (hZ.dot hz).1 h; omega
    by_cases he : m = i + 1
    · subst he
      rw [hz] at hm
      cases hm
      unfold wayR
      rw [if_neg hnd, hno]
    · have hlt := (List.getElem?_eq_some_iff.1 hz).1
      have hzi : Z[i]? = some (Z[i]'(by omega)) := List.getElem?_eq_getElem (by omega)
      have hai : A[i]? = some (A[i]'(by have := F.al; omega)) := List.getElem?_eq_getElem (by have := F.al; omega)
      obtain ⟨_, _, _, _, ⟨g, hg, hgz⟩, _⟩ := F.a i _ _ _ hzi hz hai
      have h1 := way_missing hZ F hm hm1 hno i _ f (by omega) hzi (by omega) (fun j y s hj hj2 => hk j y s hj (by omega))
      unfold wayR
      rw [if_neg hnd, hk i z _ (by omega) (by omega) hz hai]
      simp only [hg]
      rw [if_pos (by rw [hgz]; exact hZ.st i _ _ hzi hz), hgz, h1]
      rfl
/-- The anchors of the root. -/
structure RootA (a : St) : Prop where
  ok : a.ok = true
  t : a.typ = 6
  x : a.x = dotB
  l : a.l = [kD 0]
theorem fam_match_root {a : St} (hR : RootA a) {s : Sd} (h : s.x = dotB ∧ s.t = 7 ∧ s.l = [kD 0] ∧ s.st.ok = true ∧ signedB s.st s.g dotB [kk 0] t d = true) : matchB a s t d = true := by
  obtain ⟨h1, h2, h3, h4, h5⟩ := h
  unfold matchB
  rw [hR.ok, hR.t, hR.x, hR.l, h1, h2, h3, h4, keys_kD, common_self, h5]
  rfl
theorem fam_match {a s : Sd} {z : ByteArray} {i : Nat} (ha : a.x = z ∧ a.t = 6 ∧ a.l = [kD i] ∧ a.st.ok = true) (h : s.x = z ∧ s.t = 7 ∧ s.l = [kD i] ∧ s.st.ok = true ∧ signedB s.st s.g z [kk i] t d = true) : matchB a.st s t d = true := by
  obtain ⟨h1, h2, h3, h4, h5⟩ := h
  obtain ⟨a1, a2, a3, a4⟩ := ha
  unfold matchB
  rw [a4, h4, h2]
  show (true && true && decide (a.t = 6) && decide ((7 : Int) = 7) && decide (a.x = s.x) && signedB s.st s.g a.x (commonL (keysL s.l) (keysL a.l)) t d) = true
  rw [a1, a2, a3, h1, h3, keys_kD, common_self, h5]
  simp
theorem down_keys {a : St} (hR : RootA a) (hZ : ChainZ Z) (F : Fam Z A K t d) : ∀ (i : Nat) (z : ByteArray), Z[i]? = some z → (∀ (j : Nat) (y : ByteArray) (s : Sd), j ≤ i → Z[j]? = some y → K[j]? = some s → findK known y 7 = some s) → downF known a t d (stL Z A i) = .run [kk i] z
  | 0, z, hz, hk => by
    have hlt := (List.getElem?_eq_some_iff.1 hz).1
    have hk0 : K[0]? = some (K[0]'(by have := F.kl; omega)) := List.getElem?_eq_getElem (by have := F.kl; omega)
    obtain rfl := (hZ.dot hz).2 rfl
    have hf := F.k 0 _ _ hz hk0
    show downF known a t d [(dotB, zSd)] = _
    rw [downF_eq]
    show stepF known a t d (dotB, zSd) [] ⟨#[]⟩ = _
    unfold stepF
    rw [if_neg (by simp), hk 0 _ _ (Nat.le_refl _) hz hk0]
    simp only [↓reduceIte]
    rw [if_pos (fam_match_root hR hf), hf.2.2.1]
    rfl
  | i + 1, z, hz, hk => by
    have hlt := (List.getElem?_eq_some_iff.1 hz).1
    have hzi : Z[i]? = some (Z[i]'(by omega)) := List.getElem?_eq_getElem (by omega)
    have hai : A[i]? = some (A[i]'(by have := F.al; omega)) := List.getElem?_eq_getElem (by have := F.al; omega)
    have hki : K[i + 1]? = some (K[i + 1]'(by have := F.kl; omega)) := List.getElem?_eq_getElem (by have := F.kl; omega)
    have ha := F.a i _ _ _ hzi hz hai
    have hf := F.k (i + 1) _ _ hz hki
    have h1 := down_keys hR hZ F i _ hzi (fun j y s hj => hk j y s (by omega))
    have hnd : ¬ z = dotB := fun h => by have := (hZ.dot hz).1 h; omega
    rw [stL_succ, hz, hai, down_cons, h1]
    show stepF known a t d (z, _) [kk i] _ = _
    unfold stepF
    rw [if_neg (by simp only [hnd, decide_false, Bool.not_false, Bool.true_and, Option.getD_some, ha.2.2.2.2.2]; simp), hk (i + 1) z _ (Nat.le_refl _) hz hki]
    simp only [hnd, ↓reduceIte, Option.getD_some]
    rw [if_pos (fam_match ⟨ha.1, ha.2.1, ha.2.2.1, ha.2.2.2.1⟩ hf), hf.2.2.1]
    rfl
theorem down_missing {a : St} (hR : RootA a) (hZ : ChainZ Z) (F : Fam Z A K t d) {m : Nat} {zm : ByteArray} (hm : Z[m]? = some zm) (hno : findK known zm 7 = none) : ∀ (i : Nat) (z : ByteArray), m ≤ i → Z[i]? = some z → (∀ (j : Nat) (y : ByteArray) (s : Sd), j < m → Z[j]? = some y → K[j]? = some s → findK known y 7 = some s) → downF known a t d (stL Z A i) = .miss zm
  | 0, z, hmi, hz, hk => by
    obtain rfl : m = 0 := by omega
    rw [hz] at hm
    cases hm
    obtain rfl := (hZ.dot hz).2 rfl
    show downF known a t d [(dotB, zSd)] = _
    rw [downF_eq]
    show stepF known a t d (dotB, zSd) [] ⟨#[]⟩ = _
    unfold stepF
    rw [if_neg (by simp), hno]
  | i + 1, z, hmi, hz, hk => by
    have hlt := (List.getElem?_eq_some_iff.1 hz).1
    have hzi : Z[i]? = some (Z[i]'(by omega)) := List.getElem?_eq_getElem (by omega)
    have hai : A[i]? = some (A[i]'(by have := F.al; omega)) := List.getElem?_eq_getElem (by have := F.al; omega)
    have ha := F.a i _ _ _ hzi hz hai
    have hnd : ¬ z = dotB := fun h => by have := (hZ.dot hz).1 h; omega
    rw [stL_succ, hz, hai, down_cons]
    by_cases he : m = i + 1
    · subst he
      rw [hz] at hm
      cases hm
      rw [down_keys hR hZ F i _ hzi (fun j y s hj => hk j y s (by omega))]
      show stepF known a t d (_, _) [kk i] _ = _
      unfold stepF
      rw [if_neg (by simp only [hnd, decide_false, Bool.not_false, Bool.true_and, Option.getD_some, ha.2.2.2.2.2]; simp)]
      simp only [Option.getD_some]
      rw [hno]
    · rw [down_missing hR hZ F hm hno i _ (by omega) hzi hk, folF_miss]
/-- The sets in the order in which Path asks for them. -/
def seqS (A K : List Sd) : List Sd := A.reverse ++ K
theorem seq_cases (F : Fam Z A K t d) {r : Nat} {s : Sd} (hs : (seqS A K)[r]? = some s) :
    (r + 1 < Z.length ∧ A[Z.length - 2 - r]? = some s) ∨ (Z.length ≤ r + 1 ∧ K[r - (Z.length - 1)]? = some s) := by
  unfold seqS at hs
  have hal := F.al
  by_cases h : r < A.reverse.length
  · rw [List.getElem?_append_left h, List.getElem?_reverse (by simpa using h)] at hs
    rw [List.length_reverse] at h
    exact .inl ⟨by omega, by rw [show Z.length - 2 - r = A.length - 1 - r by omega]; exact hs⟩
  · rw [List.getElem?_append_right (by omega)] at hs
    rw [List.length_reverse] at h hs
    exact .inr ⟨by omega, by rw [show r - (Z.length - 1) = r - A.length by omega]; exact hs⟩
theorem seq_facts (F : Fam Z A K t d) {r : Nat} {s : Sd} (hs : (seqS A K)[r]? = some s) :
    (r + 1 < Z.length ∧ Z[Z.length - 1 - r]? = some s.x ∧ s.t = 6) ∨ (Z.length ≤ r + 1 ∧ Z[r - (Z.length - 1)]? = some s.x ∧ s.t = 7) := by
  rcases seq_cases F hs with ⟨h1, h2⟩ | ⟨h1, h2⟩
  · have hz : Z[Z.length - 2 - r]? = some (Z[Z.length - 2 - r]'(by omega)) := List.getElem?_eq_getElem (by omega)
    have hz2 : Z[Z.length - 2 - r + 1]? = some (Z[Z.length - 2 - r + 1]'(by omega)) := List.getElem?_eq_getElem (by omega)
    have h3 := F.a _ _ _ _ hz hz2 h2
    refine .inl ⟨h1, ?_, h3.2.1⟩
    rw [h3.1, show Z.length - 1 - r = Z.length - 2 - r + 1 by omega]
    exact hz2
  · have hl := (List.getElem?_eq_some_iff.1 h2).1
    have hkl := F.kl
    have hz : Z[r - (Z.length - 1)]? = some (Z[r - (Z.length - 1)]'(by omega)) := List.getElem?_eq_getElem (by omega)
    have h3 := F.k _ _ _ hz h2
    refine .inr ⟨h1, ?_, h3.2.1⟩
    rw [h3.1]
    exact hz
theorem seq_inj (hZ : ChainZ Z) (F : Fam Z A K t d) {i j : Nat} {s u : Sd} (hi : (seqS A K)[i]? = some s) (hj : (seqS A K)[j]? = some u) (hx : s.x = u.x) (ht : s.t = u.t) : i = j := by
  rcases seq_facts F hi with ⟨h1, h2, h3⟩ | ⟨h1, h2, h3⟩ <;> rcases seq_facts F hj with ⟨k1, k2, k3⟩ | ⟨k1, k2, k3⟩
  · rw [hx] at h2
    have := hZ.inj h2 k2
    omega
  · rw [ht, k3] at h3
    exact absurd h3 (by decide)
  · rw [ht, k3] at h3
    exact absurd h3 (by decide)
  · rw [hx] at h2
    have := hZ.inj h2 k2
    omega
theorem seq_find (hZ : ChainZ Z) (F : Fam Z A K t d) {i : Nat} {s : Sd} (hs : (seqS A K)[i]? = some s) (r : Nat) : findK ((seqS A K).take r) s.x s.t = if i < r then some s else none := by
  have huniq : ∀ u, findK ((seqS A K).take r) s.x s.t = some u → i < r ∧ u = s := fun u hu => by
    have hm := List.mem_of_find?_eq_some hu
    have hq := List.find?_some hu
    unfold isQ at hq
    simp only [Bool.and_eq_true, decide_eq_true_eq] at hq
    obtain ⟨j, hj⟩ := List.getElem?_of_mem hm
    have hjr : j < r := by
      have := (List.getElem?_eq_some_iff.1 hj).1
      rw [List.length_take] at this
      omega
    rw [List.getElem?_take, if_pos hjr] at hj
    have hij := seq_inj hZ F hj hs hq.1 hq.2
    subst hij
    rw [hj] at hs
    cases hs
    exact ⟨hjr, rfl⟩
  cases hf : findK ((seqS A K).take r) s.x s.t with
  | some u =>
    obtain ⟨h1, rfl⟩ := huniq u hf
    rw [if_pos h1]
  | none =>
    by_cases h : i < r
    · have hm : s ∈ (seqS A K).take r := List.mem_of_getElem? (by rw [List.getElem?_take, if_pos h]; exact hs)
      have := List.find?_eq_none.1 hf s hm
      unfold isQ at this
      simp at this
    · rw [if_neg h]
theorem seq_len (F : Fam Z A K t d) : (seqS A K).length + 1 = 2 * Z.length := by
  have h1 := F.al
  have h2 := F.kl
  unfold seqS
  rw [List.length_append, List.length_reverse]
  omega
theorem seq_A (F : Fam Z A K t d) {j : Nat} {s : Sd} (hs : A[j]? = some s) : (seqS A K)[Z.length - 2 - j]? = some s := by
  have hal := F.al
  have hl := (List.getElem?_eq_some_iff.1 hs).1
  unfold seqS
  rw [List.getElem?_append_left (by rw [List.length_reverse]; omega), List.getElem?_reverse (by omega), show A.length - 1 - (Z.length - 2 - j) = j by omega]
  exact hs
theorem seq_K (F : Fam Z A K t d) {j : Nat} {s : Sd} (hs : K[j]? = some s) : (seqS A K)[Z.length - 1 + j]? = some s := by
  have hal := F.al
  unfold seqS
  rw [List.getElem?_append_right (by rw [List.length_reverse]; omega), List.length_reverse, show Z.length - 1 + j - A.length = j by omega]
  exact hs
theorem find_A (hZ : ChainZ Z) (F : Fam Z A K t d) {j r : Nat} {y : ByteArray} {s : Sd} (hy : Z[j + 1]? = some y) (hs : A[j]? = some s) : findK ((seqS A K).take r) y 6 = if Z.length - 2 - j < r then some s else none := by
  have hl := (List.getElem?_eq_some_iff.1 hy).1
  have hz : Z[j]? = some (Z[j]'(by omega)) := List.getElem?_eq_getElem (by omega)
  have h1 := F.a _ _ _ _ hz hy hs
  have h2 := seq_find hZ F (seq_A F hs) r
  rw [h1.1, h1.2.1] at h2
  exact h2
theorem find_K (hZ : ChainZ Z) (F : Fam Z A K t d) {j r : Nat} {y : ByteArray} {s : Sd} (hy : Z[j]? = some y) (hs : K[j]? = some s) : findK ((seqS A K).take r) y 7 = if Z.length - 1 + j < r then some s else none := by
  have h1 := F.k _ _ _ hy hs
  have h2 := seq_find hZ F (seq_K F hs) r
  rw [h1.1, h1.2.1] at h2
  exact h2
theorem seq_args {a : St} (hR : RootA a) (hZ : ChainZ Z) (F : Fam Z A K t d) (hn : Z.length ≤ 8) (htd : timeB t d = true) {i : Nat} {z : ByteArray} (hz : Z[i]? = some z) (r : Nat) : argsB ((seqS A K).take r) a z t d = true := by
  have hok : ∀ s ∈ seqS A K, s.st.ok = true := fun s hs => by
    obtain ⟨j, hj⟩ := List.getElem?_of_mem hs
    rcases seq_cases F hj with ⟨h1, h2⟩ | ⟨h1, h2⟩
    · have hz : Z[Z.length - 2 - j]? = some (Z[Z.length - 2 - j]'(by omega)) := List.getElem?_eq_getElem (by omega)
      have hz2 : Z[Z.length - 2 - j + 1]? = some (Z[Z.length - 2 - j + 1]'(by omega)) := List.getElem?_eq_getElem (by omega)
      exact (F.a _ _ _ _ hz hz2 h2).2.2.2.1
    · have hl := (List.getElem?_eq_some_iff.1 h2).1
      have hkl := F.kl
      have hz : Z[j - (Z.length - 1)]? = some (Z[j - (Z.length - 1)]'(by omega)) := List.getElem?_eq_getElem (by omega)
      exact (F.k _ _ _ hz h2).2.2.2.1
  have hlen := seq_len F
  unfold argsB knownB rootedB
  rw [hR.ok, hR.t, hR.x, hZ.vl _ _ hz, hZ.nw _ _ hz, htd]
  have h1 : ((seqS A K).take r).length ≤ 400 := by rw [List.length_take]; omega
  have h2 : ((seqS A K).take r).any badK = false := by
    rw [List.any_eq_false]
    intro s hs
    unfold badK
    rw [hok s (List.mem_of_mem_take hs)]
    simp
  rw [decide_eq_true h1, h2]
  simp
/-- With the first sets known, Path asks for the next one. -/
theorem seq_path {a : St} (hR : RootA a) (hZ : ChainZ Z) (F : Fam Z A K t d) (hn : Z.length ≤ 8) (htd : timeB t d = true) {z : ByteArray} (hz : Z[Z.length - 1]? = some z) {r : Nat} {s : Sd} (hs : (seqS A K)[r]? = some s) :
    pathR ((seqS A K).take r) a z t d = .miss s.x s.t := by
  have hlz := (List.getElem?_eq_some_iff.1 hz).1
  unfold pathR
  rw [if_pos (seq_args hR hZ F hn htd hz r)]
  rcases seq_facts F hs with ⟨h1, h2, h3⟩ | ⟨h1, h2, h3⟩
  · have hm := way_missing (known := (seqS A K).take r) hZ F h2 (by omega) (by
      have := seq_find hZ F hs r
      rw [h3, if_neg (by omega)] at this
      exact this) (Z.length - 1) z 63 (by omega) hz (by omega) (fun j y u hj hj2 hy hu => by
      rw [find_A hZ F hy hu, if_pos (by omega)])
    unfold pathW
    rw [hm, h3]
  · obtain ⟨l, hl1, hl2⟩ := way_good (known := (seqS A K).take r) hZ F (Z.length - 1) z 63 hz (by omega) (fun j y u hj hy hu => by
      rw [find_A hZ F hy hu, if_pos (by omega)])
    have hm := down_missing (known := (seqS A K).take r) hR hZ F h2 (by
      have := seq_find hZ F hs r
      rw [h3, if_neg (by omega)] at this
      exact this) (Z.length - 1) z (by have := (List.getElem?_eq_some_iff.1 h2).1; omega) hz (fun j y u hj hy hu => by
      rw [find_K hZ F hy hu, if_pos (by omega)])
    unfold pathW
    rw [hl1]
    show pathD (downF _ a t d (l ++ [(dotB, zSd)])) = _
    rw [hl2, hm, h3]
    rfl
theorem seq_end {a : St} (hR : RootA a) (hZ : ChainZ Z) (F : Fam Z A K t d) (hn : Z.length ≤ 8) (htd : timeB t d = true) {z : ByteArray} (hz : Z[Z.length - 1]? = some z) : pathR (seqS A K) a z t d = .keys [kk (Z.length - 1)] := by
  have hlz := (List.getElem?_eq_some_iff.1 hz).1
  have hlen := seq_len F
  have ht : (seqS A K).take (2 * Z.length) = seqS A K := List.take_of_length_le (by omega)
  have h := seq_args hR hZ F hn htd hz (2 * Z.length)
  obtain ⟨l, hl1, hl2⟩ := way_good (known := (seqS A K).take (2 * Z.length)) hZ F (Z.length - 1) z 63 hz (by omega) (fun j y u hj hy hu => by
    rw [find_A hZ F hy hu, if_pos (by omega)])
  have hm := down_keys (known := (seqS A K).take (2 * Z.length)) hR hZ F (Z.length - 1) z hz (fun j y u hj hy hu => by
    rw [find_K hZ F hy hu, if_pos (by omega)])
  rw [ht] at h hl1 hm
  unfold pathR
  rw [if_pos h]
  unfold pathW
  rw [hl1]
  show pathD (downF _ a t d (l ++ [(dotB, zSd)])) = _
  rw [hl2, hm]
  rfl
end
end Go.Proofs.YtkhckgknldiheaaDoor

namespace Go.Proofs.YtkhckgknldiheaaDoor
set_option linter.unusedSimpArgs false
set_option linter.unusedVariables false
open Go.RowKit
open NmP SpP

set_option maxHeartbeats 1000000 in
theorem when_W (t d : Int) (w : World) : Calls Tryd.prog 21 #[.int .i64 t, .int .i64 d] w fun e w' => e = .returned (.bool (timeB t d)) ∧ w = w' := by
  unfold timeB
  generalize hd1 : decide (0 ≤ t) = d1
  generalize hd2 : decide (t ≤ 10000000) = d2
  generalize hd3 : decide (0 ≤ d) = d3
  generalize hd4 : decide (d ≤ 1000) = d4
  cases d1 <;> cases d2 <;> cases d3 <;> cases d4
  all_goals
    go_enter Tryd.func21, Tryd.ntmps21
    go_wp2
    go_ret
    exact ⟨rfl, rfl⟩
set_option maxHeartbeats 1000000 in
theorem window_W (f u : Int) (w : World) : Calls Tryd.prog 26 #[.int .i64 f, .int .i64 u] w fun e w' => e = .returned (.bool (winB f u)) ∧ w = w' := by
  unfold winB
  generalize hd1 : decide (0 ≤ f) = d1
  generalize hd2 : decide (f ≤ u) = d2
  generalize hd3 : decide (u ≤ 20000000) = d3
  cases d1 <;> cases d2 <;> cases d3
  all_goals
    go_enter Tryd.func26, Tryd.ntmps26
    go_wp2
    go_ret
    exact ⟨rfl, rfl⟩
theorem time_W {t d : Int} (h : timeB t d = true) : 0 ≤ t ∧ t ≤ 10000000 ∧ 0 ≤ d ∧ d ≤ 1000 := by
  unfold timeB at h
  simp only [Bool.and_eq_true, decide_eq_true_eq] at h
  omega
theorem win_W {f u : Int} (h : winB f u = true) : 0 ≤ f ∧ f ≤ u ∧ u ≤ 20000000 := by
  unfold winB at h
  simp only [Bool.and_eq_true, decide_eq_true_eq] at h
  omega
/-- A slice that holds texts, wherever it begins. -/
def SlY (v : Value) (L : List ByteArray) (W : World) : Prop := (L = [] ∧ ∃ p c, v = .slice p 0 c) ∨ ∃ b off c, v = .slice (some ⟨b, off, none⟩) L.length c ∧ b < W.heap.size ∧ ∀ (j : Nat) (hj : j < L.length), W.cell? ⟨b, off + j, none⟩ = some (.string L[j])
theorem SlY.form {v : Value} {L : List ByteArray} {W : World} (h : SlY v L W) : ∃ p c, v = .slice p L.length c := by
  rcases h with ⟨h, p, c, h2⟩ | ⟨b, off, c, h1, _⟩
  · exact ⟨p, c, by rw [h2, h]; rfl⟩
  · exact ⟨_, c, h1⟩
theorem SlY.at_ {p : Option Addr} {n c : Nat} {L : List ByteArray} {W : World} (h : SlY (.slice p n c) L W) (h1 : 0 < L.length) : ∃ b off, p = some ⟨b, off, none⟩ ∧ b < W.heap.size ∧ ∀ (j : Nat) (hj : j < L.length), W.cell? ⟨b, off + j, none⟩ = some (.string L[j]) := by
  rcases h with ⟨h, _⟩ | ⟨b, off, c, h2, h3, h4⟩
  · rw [h] at h1; cases h1
  · cases h2; exact ⟨b, off, rfl, h3, h4⟩
/-- A slice from which one can append texts: nil, or one with an address. -/
def SrcL (v : Value) (L : List ByteArray) (W : World) : Prop := (v = .slice none 0 0 ∧ L = []) ∨ ∃ g c, v = .slice (some ⟨g, 0, none⟩) L.length c ∧ ∀ (j : Nat) (hj : j < L.length), W.cell? ⟨g, j, none⟩ = some (.string L[j])
/-- What Parts returns. -/
def PartsS (x : ByteArray) (w : World) (e : Ending) (w' : World) : Prop := ∃ v L, e = .returned v ∧ tlz L = labs x.toList ∧ SrcL v L w' ∧ Below w.heap.size w w'
set_option maxHeartbeats 1000000 in
theorem parts_root (w : World) : Calls Tryd.prog 28 #[.string dotB] w fun e w' => e = .returned (.slice none 0 0) ∧ w = w' := by
  have e1 : (dotB.toList == [46]) = true := by rw [dot_list]; rfl
  go_enter Tryd.func28, Tryd.ntmps28
  go_wp2
  go_ret
  exact ⟨rfl, rfl⟩
theorem parts_W (x : ByteArray) (w : World) (hv : validB x.toList = true) : Calls Tryd.prog 28 #[.string x] w (PartsS x w) := by
  by_cases hx : x = dotB
  · subst hx
    refine (parts_root w).mono fun e w' h => ?_
    obtain ⟨rfl, rfl⟩ := h
    exact ⟨_, [], rfl, by rw [dot_list]; rfl, .inl ⟨rfl, rfl⟩, Below.refl _ _⟩
  · refine (rparts_any x w (by have := (valid_len hv).2.2; rw [tl_len] at this; omega)).mono fun e w' h => ?_
    obtain ⟨v, L, rfl, hL, hS, hb⟩ := h
    refine ⟨v, L, rfl, hL, ?_, hb⟩
    rcases hS with ⟨rfl, p, c, rfl⟩ | ⟨g, c, rfl, hg, hc⟩
    · exfalso
      have hne : x.toList ≠ [46] := fun h => hx (ba_eqT (by rw [h, dot_list]))
      rw [labs_of hne] at hL
      exact splitF_ne _ hL.symm
    · exact .inr ⟨g, c, rfl, hc⟩
theorem infoStr : (Tryd.prog.info? 9).map (fun i => (i.zero, i.size, i.bytes)) = some (some (.string ⟨#[]⟩), 1, 16) := by kernel_rfl
/-- Texts are appended to a row that the call owns. -/
theorem append_lab {w : World} {ops : Array Oper} {rest : List Oper} {o : Oper} {a : Act} {Q : Exit → Act → World → Prop} (hgd : o.guard = none) (s x : Operand)
    (ho : o.op = .call { callee := .builtin .append, args := #[s, x], argTypes := #[59, 59] })
    (B : Nat) (v : Value) (I : List ByteArray) (W0 : World) (hs : a.eval s = v) (hown : StrBuf B v I W0 w)
    (y : Value) (hx : a.eval x = y) (L : List ByteArray) (hy : SrcL y L w) (h63 : I.length + L.length ≤ 1000)
    (h : ∀ v' w', StrBuf B v' (I ++ L) W0 w' → w.grownBy w' v.ownBlock → wpList Tryd.prog ops Q rest (a.put o.dst v') w') : wpList Tryd.prog ops Q (o :: rest) a w := by
  obtain ⟨i0, hi0, hz0, hz1, hz2⟩ := info_parts infoStr
  rcases hy with ⟨rfl, rfl⟩ | ⟨g, c, rfl, hc⟩
  · refine wpList_append_own_none hgd s x _ ho B 9 i0 1 Tryd.underlying59 hi0 v I.length (I.map strV) hs hown.1 hx (h v w ?_ (World.grownBy.refl w _))
    simpa using hown
  · refine wpList_append_own w hgd s x _ ho B 9 i0 (.string ⟨#[]⟩) 1 16 Tryd.underlying59 hi0 hz0 hz1 hz2 rfl (by decide) v I.length (I.map strV) hs hown.1 ⟨g, 0, none⟩ L.length c (L.map strV) hx (by simp) (fun j u hj => ?_) (fun u hu => ?_) (by unfold maxLen; omega) (by omega) hown.2.2 (fun v' w' h1 h2 _ => h v' w' (hown.grown (by rw [List.length_append, List.map_append]; exact h1) h2) h2)
    · have hjl : j < L.length := by
        have := (List.getElem?_eq_some_iff.1 hj).1
        simpa using this
      rw [List.getElem?_map, List.getElem?_eq_getElem hjl] at hj
      simp only [Option.map_some, Option.some.injEq] at hj
      subst hj
      have := hc j hjl
      rw [Go.WideShapes.add_plain, Nat.zero_add]
      exact this
    · obtain ⟨q, _, rfl⟩ := List.mem_map.1 hu
      rfl
theorem StrBuf.keep {B : Nat} {v : Value} {L : List ByteArray} {W0 w w' : World} (h : StrBuf B v L W0 w) (hb : Below w.heap.size w w') : StrBuf B v L W0 w' := by
  obtain ⟨⟨h0, h1⟩, h2, h3⟩ := h
  refine ⟨⟨h0, ?_⟩, h2.trans (hb.mono h3), Nat.le_trans h3 hb.size⟩
  rcases h1 with h1 | ⟨g, cap, cur, h4, h5, h6, h7⟩
  · exact .inl h1
  · exact .inr ⟨g, cap, cur, h4, h5, (hb.block g (Array.getElem?_eq_some_iff.1 h6).1).trans h6, h7⟩
theorem tlz_small {L : List ByteArray} {x : ByteArray} (hL : tlz L = labs x.toList) (hv : validB x.toList = true) : L.length ≤ 8 ∧ ∀ y ∈ L, y.size ≤ maxLen := by
  have h1 := (valid_len hv).1
  have h3 := (valid_len hv).2.2
  rw [← hL, tlz_len] at h1
  refine ⟨h1, fun y hy => ?_⟩
  have hm : y.toList ∈ labs x.toList := by rw [← hL]; exact List.mem_map.2 ⟨y, hy, rfl⟩
  unfold labs at hm
  split at hm
  · exact absurd hm List.not_mem_nil
  · have := splitF_le _ _ hm
    rw [tl_len] at this
    unfold maxLen
    omega
/-- A key set or an anchor set of a zone is valid. -/
theorem kset_ok {z : ByteArray} (hv : validB z.toList = true) (hw : wildB z.toList = false) {i : Nat} (hi : i ≤ 100) {k : Int} (hk : k = 6 ∨ k = 7) : setB z.toList k 0 [kD i] = true := by
  have h1 : okD k.toNat (kD i) = true := by
    rcases hk with rfl | rfl
    all_goals
      show fitsB 0 1 1000000 1 3 _ (⟨#[]⟩ : ByteArray).toList ((i : Int) + 1) (1 + (i : Int) % 3) = true
      have t1 : textB 0 (⟨#[]⟩ : ByteArray).toList = true := by rw [tl]; rfl
      unfold fitsB
      rw [t1, decide_eq_true (show (1 : Int) ≤ (i : Int) + 1 by omega), decide_eq_true (show (i : Int) + 1 ≤ 1000000 by omega), decide_eq_true (show (1 : Int) ≤ 1 + (i : Int) % 3 by omega), decide_eq_true (show 1 + (i : Int) % 3 ≤ 3 by omega)]
      rfl
  have h2 : okFrom k.toNat none [kD i] = true := by
    unfold okFrom
    rw [h1]
    rfl
  unfold setB
  rw [hv, hw, h2]
  rcases hk with rfl | rfl <;> rfl
theorem ksign {z zone : ByteArray} {v : Value} {i : Nat} {j : Nat} {k f u : Int} (hs : setB z.toList k 0 [kD i] = true) (hj : j ≤ 100) (hw : winB f u = true) (hzw : wildB zone.toList = false) (hin : inB z.toList zone.toList = true) :
    signB ⟨z, k, 0, v, [kD i]⟩ zone (j + 1) (1 + (j : Int) % 3) f u = true := by
  unfold signB
  have hk : keyB ((j : Int) + 1) (1 + (j : Int) % 3) = true := by
    unfold keyB
    simp only [Bool.and_eq_true, decide_eq_true_eq]
    omega
  rw [hk, hw, hzw, hin]
  show (setB z.toList k 0 [kD i] && true && true && !false && true) = true
  rw [hs]
  rfl
theorem ksigned {s : St} {zone : ByteArray} {j : Nat} {f u t d : Int} (hs : signB s zone (j + 1) (1 + (j : Int) % 3) f u = true) (ht : timeB t d = true) (h1 : f ≤ t - d) (h2 : t + d ≤ u) :
    signedB s [⟨zone, j + 1, 1 + (j : Int) % 3, f, u, sigSum s zone (j + 1) (1 + (j : Int) % 3) f u⟩] zone [kk j] t d = true := by
  unfold signedB
  rw [ht, Bool.true_and, List.any_cons, List.any_nil, Bool.or_false]
  unfold okG checkB
  simp only
  rw [hs, decide_eq_true h1, decide_eq_true h2]
  simp [kk]
/-- The sets of the first zones. -/
structure PFam (Z : List ByteArray) (A K : List Sd) (t d : Int) (i : Nat) : Prop where
  kl : K.length = i
  al : A.length = i - 1
  k : ∀ (j : Nat) (s : Sd), K[j]? = some s → ∃ z, Z[j]? = some z ∧ s.x = z ∧ s.t = 7 ∧ s.l = [kD j] ∧ s.st.ok = true ∧ signedB s.st s.g z [kk j] t d = true
  a : ∀ (j : Nat) (s : Sd), A[j]? = some s → ∃ z y, Z[j]? = some z ∧ Z[j + 1]? = some y ∧ s.x = y ∧ s.t = 6 ∧ s.l = [kD (j + 1)] ∧ s.st.ok = true ∧ (∃ g, s.g = [g] ∧ g.z = z) ∧ signedB s.st s.g z [kk j] t d = true
theorem pfam_none (Z : List ByteArray) (t d : Int) : PFam Z [] [] t d 0 := ⟨rfl, rfl, fun j s h => by simp at h, fun j s h => by simp at h⟩
theorem PFam.fam {Z : List ByteArray} {A K : List Sd} {t d : Int} (h : PFam Z A K t d Z.length) (h1 : 1 ≤ Z.length) : Fam Z A K t d := by
  refine ⟨h.kl, by have := h.al; omega, fun i z s hz hs => ?_, fun i z y s hz hy hs => ?_⟩
  · obtain ⟨z', hz', r⟩ := h.k i s hs
    rw [hz] at hz'
    cases hz'
    exact r
  · obtain ⟨z', y', hz', hy', r⟩ := h.a i s hs
    rw [hz] at hz'
    cases hz'
    rw [hy] at hy'
    cases hy'
    exact r
theorem get_snoc {T : Type} {l : List T} {x u : T} {j : Nat} (h : (l ++ [x])[j]? = some u) : l[j]? = some u ∨ (j = l.length ∧ u = x) := by
  by_cases hi : j < l.length
  · rw [List.getElem?_append_left hi] at h
    exact .inl h
  · have hlt := (List.getElem?_eq_some_iff.1 h).1
    simp only [List.length_append, List.length_singleton] at hlt
    obtain rfl : j = l.length := by omega
    rw [List.getElem?_append_right (Nat.le_refl _), Nat.sub_self] at h
    simp only [List.getElem?_cons_zero, Option.some.injEq] at h
    exact .inr ⟨rfl, h.symm⟩
theorem PFam.first {Z : List ByteArray} {t d : Int} {z : ByteArray} {s : Sd} (hz : Z[0]? = some z) (hs : s.x = z ∧ s.t = 7 ∧ s.l = [kD 0] ∧ s.st.ok = true ∧ signedB s.st s.g z [kk 0] t d = true) : PFam Z [] [s] t d 1 := by
  refine ⟨rfl, rfl, fun j u h => ?_, fun j u h => by simp at h⟩
  rcases get_snoc (l := []) h with h | ⟨rfl, rfl⟩
  · simp at h
  · exact ⟨z, hz, hs⟩
theorem PFam.push {Z : List ByteArray} {A K : List Sd} {t d : Int} {i : Nat} (h : PFam Z A K t d (i + 1)) {z y : ByteArray} {s r : Sd} (hz : Z[i]? = some z) (hy : Z[i + 1]? = some y)
    (hs : s.x = y ∧ s.t = 7 ∧ s.l = [kD (i + 1)] ∧ s.st.ok = true ∧ signedB s.st s.g y [kk (i + 1)] t d = true) (hr : r.x = y ∧ r.t = 6 ∧ r.l = [kD (i + 1)] ∧ r.st.ok = true ∧ (∃ g, r.g = [g] ∧ g.z = z) ∧ signedB r.st r.g z [kk i] t d = true) :
    PFam Z (A ++ [r]) (K ++ [s]) t d (i + 2) := by
  have hkl := h.kl
  have hal := h.al
  refine ⟨by simp [hkl], by simp [hal], fun j u hu => ?_, fun j u hu => ?_⟩
  · rcases get_snoc hu with hu | ⟨rfl, rfl⟩
    · exact h.k j u hu
    · rw [hkl]
      exact ⟨y, hy, hs⟩
  · rcases get_snoc hu with hu | ⟨rfl, rfl⟩
    · exact h.a j u hu
    · rw [hal, Nat.add_sub_cancel]
      exact ⟨z, y, hz, hy, hr⟩
/-- An entry of the map: the question for a set, and the set. -/
def entOf (s : Sd) : Value × Value := (.agg #[.string s.x, .int .i64 s.t], .agg #[.string s.x, .int .i64 s.t, .int .i64 s.f, .slice s.p s.n s.c, .slice s.q s.m s.d])
theorem PFam.where_ {Z : List ByteArray} {A K : List Sd} {t d : Int} {i : Nat} (h : PFam Z A K t d i) {s : Sd} (hs : s ∈ A ∨ s ∈ K) : ∃ j, j < i ∧ Z[j]? = some s.x ∧ (s.t = 6 ∨ s.t = 7) := by
  rcases hs with hs | hs
  · obtain ⟨j, hj⟩ := List.getElem?_of_mem hs
    obtain ⟨z, y, _, hy, hx, ht, _⟩ := h.a j s hj
    have := (List.getElem?_eq_some_iff.1 hj).1
    have hal := h.al
    exact ⟨j + 1, by omega, by rw [hx]; exact hy, .inl ht⟩
  · obtain ⟨j, hj⟩ := List.getElem?_of_mem hs
    obtain ⟨z, hz, hx, ht, _⟩ := h.k j s hj
    have := (List.getElem?_eq_some_iff.1 hj).1
    have hkl := h.kl
    exact ⟨j, by omega, by rw [hx]; exact hz, .inr ht⟩
/-- The key of the next zone is new. -/
theorem fresh_key {Z : List ByteArray} (hZ : ChainZ Z) {A K L : List Sd} {t d : Int} {i : Nat} (h : PFam Z A K t d i) (hL : ∀ s, s ∈ L → s ∈ A ∨ s ∈ K) {z : ByteArray} (hz : Z[i]? = some z) (k : Int) : ∀ p ∈ L.map entOf, p.1 ≠ .agg #[.string z, .int .i64 k] := by
  intro p hp
  obtain ⟨s, hs, rfl⟩ := List.mem_map.1 hp
  obtain ⟨j, hj, hzj, _⟩ := h.where_ (hL s hs)
  intro he
  simp only [entOf, Value.agg.injEq] at he
  have h1 := congrArg Array.toList he
  simp only [List.cons.injEq, Value.string.injEq] at h1
  have hx : s.x = z := h1.1
  rw [hx] at hzj
  have := hZ.inj hzj hz
  omega
end Go.Proofs.YtkhckgknldiheaaDoor

namespace Go.Proofs.YtkhckgknldiheaaDoor
set_option linter.unusedSimpArgs false
set_option linter.unusedVariables false
open Go.RowKit
open NmP SpP

theorem slG_W {W : World} {q : Nat} {T : TypeId} (g : Sg) (h : W.heap[q]? = some (Obj.cells #[.string g.z, .int .i64 g.k, .int .i64 g.a, .int .i64 g.f, .int .i64 g.u, .int .u64 g.m] T (0, 0))) : SlG (.slice (some ⟨q, 0, none⟩) 1 1) [g] W := by
  refine .inr ⟨_, _, _, rfl, (Array.getElem?_eq_some_iff.1 h).1, fun m u hm => ?_⟩
  refine cell_of_blk h (0 + m) u ?_
  rw [Nat.zero_add, ← Array.getElem?_toList]
  exact hm
theorem slD_W {W : World} {q : Nat} {T : TypeId} (i : Nat) (h : W.heap[q]? = some (Obj.cells #[.string ⟨#[]⟩, .int .i64 ((i : Int) + 1), .int .i64 (1 + (i : Int) % 3)] T (0, 0))) : SlD (.slice (some ⟨q, 0, none⟩) 1 1) [kD i] W := by
  refine .inr ⟨_, _, _, rfl, (Array.getElem?_eq_some_iff.1 h).1, fun m u hm => ?_⟩
  refine cell_of_blk h (0 + m) u ?_
  rw [Nat.zero_add, ← Array.getElem?_toList]
  exact hm
/-- The sum of the signature of a set of a chain. -/
def mS (z zone : ByteArray) (k : Int) (i j : Nat) (f u : Int) : Int := sigSum ⟨z, k, 0, .slice none 0 0, [kD i]⟩ zone (j + 1) (1 + (j : Int) % 3) f u
def gS (z zone : ByteArray) (k : Int) (i j : Nat) (f u : Int) : Sg := ⟨zone, (j : Int) + 1, 1 + (j : Int) % 3, f, u, mS z zone k i j f u⟩
/-- A signed set of a chain. -/
def sdS (z zone : ByteArray) (k : Int) (i j : Nat) (f u : Int) (db gb : Nat) : Sd := ⟨z, k, 0, some ⟨db, 0, none⟩, 1, 1, some ⟨gb, 0, none⟩, 1, 1, [kD i], [gS z zone k i j f u]⟩
theorem sdS_in {z zone : ByteArray} {k : Int} {i j : Nat} {f u : Int} {db gb : Nat} {W : World} {T T' : TypeId} (hz : z.size ≤ maxLen) (hzo : zone.size ≤ maxLen) (hd : W.heap[db]? = some (Obj.cells #[.string ⟨#[]⟩, .int .i64 ((i : Int) + 1), .int .i64 (1 + (i : Int) % 3)] T (0, 0)))
    (hg : W.heap[gb]? = some (Obj.cells #[.string zone, .int .i64 ((j : Int) + 1), .int .i64 (1 + (j : Int) % 3), .int .i64 f, .int .i64 u, .int .u64 (mS z zone k i j f u)] T' (0, 0))) : (sdS z zone k i j f u db gb).In W :=
  ⟨⟨hz, fun d hd => by rw [List.mem_singleton.1 hd]; exact Nat.zero_le _, slD_W i hd⟩, by simp [sdS, maxLen], slG_W (gS z zone k i j f u) hg, fun g hg => by rw [List.mem_singleton.1 hg]; exact hzo, by simp [sdS, maxLen]⟩
theorem sdS_facts {z zone : ByteArray} {k : Int} {i j : Nat} {f u t d : Int} (db gb : Nat) (hk : k = 6 ∨ k = 7) (hi : i ≤ 100) (hj : j ≤ 100) (hv : validB z.toList = true) (hw : wildB z.toList = false) (hzw : wildB zone.toList = false) (hin : inB z.toList zone.toList = true) (hwin : winB f u = true) (ht : timeB t d = true) (h1 : f ≤ t - d) (h2 : t + d ≤ u) :
    (sdS z zone k i j f u db gb).st.ok = true ∧ signedB (sdS z zone k i j f u db gb).st (sdS z zone k i j f u db gb).g zone [kk j] t d = true := by
  have h3 := kset_ok hv hw hi hk
  refine ⟨h3, ?_⟩
  exact ksigned (s := (sdS z zone k i j f u db gb).st) (ksign (v := .slice (some ⟨db, 0, none⟩) 1 1) h3 hj hwin hzw hin) ht h1 h2
/-- Signing a set of a chain. -/
theorem sign_S {z zone : ByteArray} {k : Int} {i j : Nat} {f u : Int} {db : Nat} {W : World} {T : TypeId} (hz : z.size ≤ maxLen) (hzo : zone.size ≤ maxLen) (hd : W.heap[db]? = some (Obj.cells #[.string ⟨#[]⟩, .int .i64 ((i : Int) + 1), .int .i64 (1 + (i : Int) % 3)] T (0, 0))) (hr : RulesAt W)
    (hk : k = 6 ∨ k = 7) (hi : i ≤ 100) (hj : j ≤ 100) (hv : validB z.toList = true) (hw : wildB z.toList = false) (hzw : wildB zone.toList = false) (hin : inB z.toList zone.toList = true) (hwin : winB f u = true) :
    Calls Tryd.prog 22 #[.agg #[.string z, .int .i64 k, .int .i64 0, .slice (some ⟨db, 0, none⟩) 1 1], .string zone, .agg #[.int .i64 ((j : Int) + 1), .int .i64 (1 + (j : Int) % 3)], .int .i64 f, .int .i64 u] W fun e w' => e = .returned (.tuple #[.agg #[.string zone, .int .i64 ((j : Int) + 1), .int .i64 (1 + (j : Int) % 3), .int .i64 f, .int .i64 u, .int .u64 (mS z zone k i j f u)], .int .i64 0]) ∧ Below W.heap.size W w' := by
  have h3 := kset_ok hv hw hi hk
  have c := sign_any ⟨z, k, 0, .slice (some ⟨db, 0, none⟩) 1 1, [kD i]⟩ zone ((j : Int) + 1) (1 + (j : Int) % 3) f u W ⟨hz, fun d hd => by rw [List.mem_singleton.1 hd]; exact Nat.zero_le _, slD_W i hd⟩ hr hzo
  unfold signV at c
  rw [if_pos (ksign (v := .slice (some ⟨db, 0, none⟩) 1 1) h3 hj hwin hzw hin)] at c
  exact c
/-- All blocks of cells are as they were; further ones may be there. -/
structure CK (W W' : World) : Prop where
  size : W.heap.size ≤ W'.heap.size
  blk : ∀ (k : Nat) (cs : Array Value) (T : TypeId) (fr : Nat × Nat), W.heap[k]? = some (Obj.cells cs T fr) → W'.heap[k]? = some (Obj.cells cs T fr)
theorem CK.of_below {W W' : World} (h : Below W.heap.size W W') : CK W W' := ⟨h.size, fun k cs T fr hk => (h.block k (Array.getElem?_eq_some_iff.1 hk).1).trans hk⟩
theorem CK.below {W W1 W' : World} (h : CK W W1) (hb : Below W1.heap.size W1 W') : CK W W' := ⟨Nat.le_trans h.size hb.size, fun k cs T fr hk => (hb.block k (Array.getElem?_eq_some_iff.1 (h.blk k cs T fr hk)).1).trans (h.blk k cs T fr hk)⟩
theorem CK.grown {W W1 W' : World} {mb : Nat} {k : TypeId} {E : List (Value × Value)} (h : CK W W1) (hg : W1.grownBy W' (some mb)) (hm : MapE Tryd.prog k mb E W1) : CK W W' := by
  obtain ⟨es, c, hx, _⟩ := hm
  refine ⟨Nat.le_trans h.size hg.size, fun k cs T fr hk => ?_⟩
  have h1 := h.blk k cs T fr hk
  refine (hg.block k (Array.getElem?_eq_some_iff.1 h1).1 (fun e => ?_)).trans h1
  cases e
  rw [hx] at h1
  cases h1
theorem CK.set {W W1 : World} (h : CK W W1) {q : Nat} (hq : W.heap.size ≤ q) (j : Nat) (v : Value) : CK W (W1.setCell ⟨q, j, none⟩ v) := by
  refine ⟨by simpa using h.size, fun k cs T fr hk => ?_⟩
  have hlt := (Array.getElem?_eq_some_iff.1 hk).1
  exact (heap_setCell_other W1 ⟨q, j, none⟩ k v (fun e => by have e2 : k = q := e; omega)).trans (h.blk k cs T fr hk)
theorem cells_of {W : World} {a : Addr} {v : Value} (h : W.cell? a = some v) : ∃ cs T fr, W.heap[a.block]? = some (Obj.cells cs T fr) := by
  unfold World.cell? at h
  split at h
  · rename_i cs T fr hx
    exact ⟨_, _, _, hx⟩
  · cases h
theorem CK.cell {W W' : World} (h : CK W W') {a : Addr} {v : Value} (hc : W.cell? a = some v) : W'.cell? a = some v := by
  obtain ⟨cs, T, fr, hx⟩ := cells_of hc
  rw [World.cell?_of_block ((h.blk _ _ _ _ hx).trans hx.symm)]
  exact hc
theorem SlD.ck {v : Value} {l : List Dt} {W W' : World} (h : SlD v l W) (hc : CK W W') : SlD v l W' := by
  rcases h with h | ⟨b, off, c, h1, h2, h3⟩
  · exact .inl h
  · exact .inr ⟨b, off, c, h1, Nat.lt_of_lt_of_le h2 hc.size, fun m u hm => hc.cell (h3 m u hm)⟩
theorem SlG.ck {v : Value} {l : List Sg} {W W' : World} (h : SlG v l W) (hc : CK W W') : SlG v l W' := by
  rcases h with h | ⟨b, off, c, h1, h2, h3⟩
  · exact .inl h
  · exact .inr ⟨b, off, c, h1, Nat.lt_of_lt_of_le h2 hc.size, fun m u hm => hc.cell (h3 m u hm)⟩
theorem Sd.In.ck {s : Sd} {W W' : World} (h : s.In W) (hc : CK W W') : s.In W' := ⟨⟨h.hs.hx, h.hs.hs, h.hs.hA.ck hc⟩, h.hn, h.hg.ck hc, h.hz, h.hl⟩
/-- What the second loop keeps. -/
structure LInv (W1 W : World) (mb ab : Nat) (Z : List ByteArray) (A K L : List Sd) (t d : Int) (i : Nat) : Prop where
  bel : Below W1.heap.size W1 W
  fam : PFam Z A K t d i
  mem : ∀ s, s ∈ L → s ∈ A ∨ s ∈ K
  has : ∀ s, s ∈ A ∨ s ∈ K → s ∈ L
  len : L.length = 2 * i - 1
  ins : ∀ s ∈ L, s.In W
  map : MapE Tryd.prog 30 mb (L.map entOf) W
  low : W1.heap.size ≤ mb ∧ W1.heap.size ≤ ab
  box : ∃ x k l sv, W.heap[ab]? = some (Obj.cells #[.string x, .int .i64 k, .int .i64 l, sv] 25 (0, 0)) ∧ (1 ≤ i → x = dotB ∧ k = 6 ∧ l = 0 ∧ SlD sv [kD 0] W)
theorem LInv.keep {W1 W W' : World} {mb ab : Nat} {Z : List ByteArray} {A K L : List Sd} {t d : Int} {i : Nat} (h : LInv W1 W mb ab Z A K L t d i) (hb : Below W.heap.size W W') : LInv W1 W' mb ab Z A K L t d i := by
  obtain ⟨x, k, l, sv, h1, h2⟩ := h.box
  exact ⟨h.bel.trans (hb.mono h.bel.size), h.fam, h.mem, h.has, h.len, fun s hs => (h.ins s hs).keep hb, h.map.keep hb, h.low, ⟨x, k, l, sv, (hb.block _ (Array.getElem?_eq_some_iff.1 h1).1).trans h1, fun hi => by
    obtain ⟨a, b, c, e⟩ := h2 hi
    exact ⟨a, b, c, e.keep hb⟩⟩⟩
theorem linv_start (W1 : World) (Z : List ByteArray) (t d : Int) : LInv W1 ((W1.alloc (.map #[] 0)).alloc (.cells #[.string ⟨#[]⟩, .int .i64 0, .int .i64 0, .slice none 0 0] 25)) W1.heap.size (W1.heap.size + 1) Z [] [] [] t d 0 := by
  have h1 := mapE_new Tryd.prog 30 W1
  have hb := bnewE (W1.alloc (.map #[] 0)) (.cells #[.string ⟨#[]⟩, .int .i64 0, .int .i64 0, .slice none 0 0] 25)
  have h2 := heap_alloc_new (W1.alloc (.map #[] 0)) (.cells #[.string ⟨#[]⟩, .int .i64 0, .int .i64 0, .slice none 0 0] 25)
  rw [show (W1.alloc (.map #[] 0)).heap.size = W1.heap.size + 1 by simp] at h2
  exact ⟨((Below.refl _ W1).alloc (Nat.le_refl _) _).alloc (by simp) _, pfam_none Z t d, fun s h => absurd h List.not_mem_nil, fun s h => by rcases h with h | h <;> exact absurd h List.not_mem_nil, rfl, fun s h => absurd h List.not_mem_nil, h1.keep hb, ⟨Nat.le_refl _, Nat.le_succ _⟩, ⟨_, _, _, _, h2, fun h => by omega⟩⟩
theorem LInv.first {W1 Wd W : World} {mb ab : Nat} {Z : List ByteArray} {A K L : List Sd} {t d : Int} {sk : Sd} {sv : Value} {z : ByteArray} (h : LInv W1 Wd mb ab Z A K L t d 0) (bel : Below W1.heap.size W1 W) (hz : Z[0]? = some z)
    (hs : sk.x = z ∧ sk.t = 7 ∧ sk.l = [kD 0] ∧ sk.st.ok = true ∧ signedB sk.st sk.g z [kk 0] t d = true) (hin : sk.In W) (map : MapE Tryd.prog 30 mb (L.map entOf ++ [entOf sk]) W)
    (hbx : W.heap[ab]? = some (Obj.cells #[.string dotB, .int .i64 6, .int .i64 0, sv] 25 (0, 0))) (hsv : SlD sv [kD 0] W) : LInv W1 W mb ab Z [] [sk] [sk] t d 1 := by
  have hL : L = [] := List.eq_nil_of_length_eq_zero h.len
  subst hL
  exact ⟨bel, PFam.first hz hs, fun s h => .inr h, fun s h => by
    rcases h with h | h
    · exact absurd h List.not_mem_nil
    · exact h, rfl, fun s h => by rw [List.mem_singleton.1 h]; exact hin, map, h.low, ⟨_, _, _, _, hbx, fun _ => ⟨rfl, rfl, rfl, hsv⟩⟩⟩
theorem LInv.next {W1 Wd W : World} {mb ab : Nat} {Z : List ByteArray} {A K L : List Sd} {t d : Int} {i : Nat} {sk sa : Sd} {z y : ByteArray} (h : LInv W1 Wd mb ab Z A K L t d (i + 1)) (hc : CK Wd W) (bel : Below W1.heap.size W1 W) (hz : Z[i]? = some z) (hy : Z[i + 1]? = some y)
    (hs : sk.x = y ∧ sk.t = 7 ∧ sk.l = [kD (i + 1)] ∧ sk.st.ok = true ∧ signedB sk.st sk.g y [kk (i + 1)] t d = true) (hr : sa.x = y ∧ sa.t = 6 ∧ sa.l = [kD (i + 1)] ∧ sa.st.ok = true ∧ (∃ g, sa.g = [g] ∧ g.z = z) ∧ signedB sa.st sa.g z [kk i] t d = true)
    (hin : sk.In W) (hin2 : sa.In W) (map : MapE Tryd.prog 30 mb (L.map entOf ++ [entOf sk] ++ [entOf sa]) W) : LInv W1 W mb ab Z (A ++ [sa]) (K ++ [sk]) (L ++ [sk] ++ [sa]) t d (i + 2) := by
  obtain ⟨x, k, l, sv, h1, h2⟩ := h.box
  refine ⟨bel, h.fam.push hz hy hs hr, fun s hs => ?_, fun s hs => ?_, ?_, fun s hs => ?_, by simpa using map, h.low, ⟨x, k, l, sv, hc.blk _ _ _ _ h1, fun _ => ?_⟩⟩
  · simp only [List.append_assoc, List.mem_append, List.mem_singleton] at hs ⊢
    rcases hs with hs | rfl | rfl
    · rcases h.mem s hs with h3 | h3
      · exact .inl (.inl h3)
      · exact .inr (.inl h3)
    · exact .inr (.inr rfl)
    · exact .inl (.inr rfl)
  · simp only [List.append_assoc, List.mem_append, List.mem_singleton] at hs ⊢
    rcases hs with (hs | rfl) | (hs | rfl)
    · exact .inl (h.has s (.inl hs))
    · exact .inr (.inr rfl)
    · exact .inl (h.has s (.inr hs))
    · exact .inr (.inl rfl)
  · have := h.len
    simp only [List.length_append, List.length_singleton]
    omega
  · simp only [List.append_assoc, List.mem_append, List.mem_singleton] at hs
    rcases hs with hs | rfl | rfl
    · exact (h.ins s hs).ck hc
    · exact hin
    · exact hin2
  · obtain ⟨a, b, c, e⟩ := h2 (by omega)
    exact ⟨a, b, c, e.ck hc⟩
/-- What holds inside a round: the set is laid, and its first entry. -/
structure RInv (W1 Vd W : World) (mb sb db gb : Nat) (z : ByteArray) (k : Int) (i : Nat) (f u : Int) (E : List (Value × Value)) : Prop where
  bel : Below W1.heap.size W1 W
  ck : CK Vd W
  map : MapE Tryd.prog 30 mb E W
  st : W.heap[sb]? = some (Obj.cells #[.string z, .int .i64 k, .int .i64 0, .slice (some ⟨db, 0, none⟩) 1 1] 25 (0, 0))
  gb : W.heap[gb]? = some (Obj.cells #[.string z, .int .i64 ((i : Int) + 1), .int .i64 (1 + (i : Int) % 3), .int .i64 f, .int .i64 u, .int .u64 (mS z z 7 i i f u)] 49 (0, 0))
theorem RInv.keep {W1 Vd W W' : World} {mb sb db gb : Nat} {z : ByteArray} {k : Int} {i : Nat} {f u : Int} {E : List (Value × Value)} (h : RInv W1 Vd W mb sb db gb z k i f u E) (hb : Below W.heap.size W W') : RInv W1 Vd W' mb sb db gb z k i f u E :=
  ⟨h.bel.trans (hb.mono h.bel.size), h.ck.below hb, h.map.keep hb, (hb.block _ (Array.getElem?_eq_some_iff.1 h.st).1).trans h.st, (hb.block _ (Array.getElem?_eq_some_iff.1 h.gb).1).trans h.gb⟩
/-- The set's type is changed. -/
theorem RInv.retype {W1 Vd W : World} {mb sb db gb : Nat} {z : ByteArray} {k : Int} {i : Nat} {f u : Int} {E : List (Value × Value)} (h : RInv W1 Vd W mb sb db gb z k i f u E) (h1 : W1.heap.size ≤ sb) (h2 : Vd.heap.size ≤ sb) (h3 : gb ≠ sb) (k' : Int) : RInv W1 Vd (W.setCell ⟨sb, 1, none⟩ (.int .i64 k')) mb sb db gb z k' i f u E := by
  have o : ∀ j, j ≠ sb → (W.setCell ⟨sb, 1, none⟩ (.int .i64 k')).heap[j]? = W.heap[j]? := fun j hj => heap_setCell_other W ⟨sb, 1, none⟩ j _ (fun e => hj e)
  have hms : mb ≠ sb := fun e => by
    obtain ⟨es, c, hx, _⟩ := h.map
    rw [e, h.st] at hx
    cases hx
  refine ⟨h.bel.setCell (p := ⟨sb, 1, none⟩) h1 _, h.ck.set h2 1 _, h.map.of_block (o mb hms), ?_, (o gb h3).trans h.gb⟩
  have := heap_setCell_same W sb 1 _ _ (.int .i64 k') h.st
  simpa using this
/-- The world in which the set is signed for the first time. -/
theorem round_new {W1 W : World} {mb ab : Nat} {Z : List ByteArray} {A K L : List Sd} {t d : Int} {i : Nat} (h : LInv W1 W mb ab Z A K L t d i) (z : ByteArray) :
    LInv W1 ((W.alloc (.cells #[.int .i64 ((i : Int) + 1), .int .i64 (1 + (i : Int) % 3)] 44)).alloc (.cells #[.string ⟨#[]⟩, .int .i64 ((i : Int) + 1), .int .i64 (1 + (i : Int) % 3)] 65)) mb ab Z A K L t d i :=
  (h.keep (bnewE W _)).keep (bnewE _ _)
/-- The boxes of a round behind the first signature. -/
structure SBx (Vd W : World) (kb db sb : Nat) (z : ByteArray) (i : Nat) : Prop where
  bel : Below Vd.heap.size Vd W
  ky : W.heap[kb]? = some (Obj.cells #[.int .i64 ((i : Int) + 1), .int .i64 (1 + (i : Int) % 3)] 44 (0, 0))
  da : W.heap[db]? = some (Obj.cells #[.string ⟨#[]⟩, .int .i64 ((i : Int) + 1), .int .i64 (1 + (i : Int) % 3)] 65 (0, 0))
  st : W.heap[sb]? = some (Obj.cells #[.string z, .int .i64 7, .int .i64 0, .slice (some ⟨db, 0, none⟩) 1 1] 25 (0, 0))
theorem SBx.keep {Vd W W' : World} {kb db sb : Nat} {z : ByteArray} {i : Nat} (h : SBx Vd W kb db sb z i) (hb : Below W.heap.size W W') : SBx Vd W' kb db sb z i :=
  ⟨h.bel.trans (hb.mono h.bel.size), (hb.block _ (Array.getElem?_eq_some_iff.1 h.ky).1).trans h.ky, (hb.block _ (Array.getElem?_eq_some_iff.1 h.da).1).trans h.da, (hb.block _ (Array.getElem?_eq_some_iff.1 h.st).1).trans h.st⟩
theorem sbx_new (W : World) (z : ByteArray) (i : Nat) :
    SBx ((W.alloc (.cells #[.int .i64 ((i : Int) + 1), .int .i64 (1 + (i : Int) % 3)] 44)).alloc (.cells #[.string ⟨#[]⟩, .int .i64 ((i : Int) + 1), .int .i64 (1 + (i : Int) % 3)] 65))
      (((W.alloc (.cells #[.int .i64 ((i : Int) + 1), .int .i64 (1 + (i : Int) % 3)] 44)).alloc (.cells #[.string ⟨#[]⟩, .int .i64 ((i : Int) + 1), .int .i64 (1 + (i : Int) % 3)] 65)).alloc (.cells #[.string z, .int .i64 7, .int .i64 0, .slice (some ⟨W.heap.size + 1, 0, none⟩) 1 1] 25)) W.heap.size (W.heap.size + 1) (W.heap.size + 1 + 1) z i := by
  have h1 := heap_alloc_new W (.cells #[.int .i64 ((i : Int) + 1), .int .i64 (1 + (i : Int) % 3)] 44)
  have s1 : (W.alloc (.cells #[.int .i64 ((i : Int) + 1), .int .i64 (1 + (i : Int) % 3)] 44)).heap.size = W.heap.size + 1 := by simp
  generalize W.alloc _ = V1 at *
  have h2 := heap_alloc_new V1 (.cells #[.string ⟨#[]⟩, .int .i64 ((i : Int) + 1), .int .i64 (1 + (i : Int) % 3)] 65)
  have s2 : (V1.alloc (.cells #[.string ⟨#[]⟩, .int .i64 ((i : Int) + 1), .int .i64 (1 + (i : Int) % 3)] 65)).heap.size = W.heap.size + 1 + 1 := by simp [s1]
  have k1 := (heap_alloc_old V1 (.cells #[.string ⟨#[]⟩, .int .i64 ((i : Int) + 1), .int .i64 (1 + (i : Int) % 3)] 65) (Array.getElem?_eq_some_iff.1 h1).1).trans h1
  rw [s1] at h2
  generalize V1.alloc _ = V2 at *
  have h3 := heap_alloc_new V2 (.cells #[.string z, .int .i64 7, .int .i64 0, .slice (some ⟨W.heap.size + 1, 0, none⟩) 1 1] 25)
  rw [s2] at h3
  exact ⟨bnewE V2 _, (heap_alloc_old V2 _ (Array.getElem?_eq_some_iff.1 k1).1).trans k1, (heap_alloc_old V2 _ (Array.getElem?_eq_some_iff.1 h2).1).trans h2, h3⟩
theorem four_setW {W : World} {q : Nat} {o0 o1 o2 o3 : Value} {t : TypeId} (a b c d : Value) (h : W.heap[q]? = some (Obj.cells #[o0, o1, o2, o3] t (0, 0))) :
    ((((W.setCell ⟨q, 0, none⟩ a).setCell ⟨q, 1, none⟩ b).setCell ⟨q, 2, none⟩ c).setCell ⟨q, 3, none⟩ d).heap[q]? = some (Obj.cells #[a, b, c, d] t (0, 0)) := by
  have h1 := heap_setCell_same W q 0 _ _ a h
  have h2 := heap_setCell_same _ q 1 _ _ b h1
  have h3 := heap_setCell_same _ q 2 _ _ c h2
  exact heap_setCell_same _ q 3 _ _ d h3
theorem four_belowW {n : Nat} {w W : World} {q : Nat} (h : Below n w W) (hq : n ≤ q) (a b c d : Value) : Below n w ((((W.setCell ⟨q, 0, none⟩ a).setCell ⟨q, 1, none⟩ b).setCell ⟨q, 2, none⟩ c).setCell ⟨q, 3, none⟩ d) :=
  (((h.setCell (p := ⟨q, 0, none⟩) hq a).setCell (p := ⟨q, 1, none⟩) hq b).setCell (p := ⟨q, 2, none⟩) hq c).setCell (p := ⟨q, 3, none⟩) hq d
theorem four_otherW {W : World} {q k : Nat} (hk : k ≠ q) (a b c d : Value) : ((((W.setCell ⟨q, 0, none⟩ a).setCell ⟨q, 1, none⟩ b).setCell ⟨q, 2, none⟩ c).setCell ⟨q, 3, none⟩ d).heap[k]? = W.heap[k]? :=
  (heap_setCell_other _ ⟨q, 3, none⟩ k d (fun e => hk e)).trans ((heap_setCell_other _ ⟨q, 2, none⟩ k c (fun e => hk e)).trans ((heap_setCell_other _ ⟨q, 1, none⟩ k b (fun e => hk e)).trans (heap_setCell_other _ ⟨q, 0, none⟩ k a (fun e => hk e))))
/-- What is known of times, windows and names in a round. -/
structure Okay (z : ByteArray) (f u t d : Int) : Prop where
  vl : validB z.toList = true
  nw : wildB z.toList = false
  zm : z.size ≤ maxLen
  win : winB f u = true
  tm : timeB t d = true
  h1 : f ≤ t - d
  h2 : t + d ≤ u
theorem in_self {z : ByteArray} (h : validB z.toList = true) : inB z.toList z.toList = true := by
  unfold inB
  rw [h, (under_iff (valid_ok h)).2 (List.suffix_refl _)]
  rfl
theorem key_facts {z : ByteArray} {f u t d : Int} (o : Okay z f u t d) {i : Nat} (hi : i ≤ 100) (db gb : Nat) :
    (sdS z z 7 i i f u db gb).x = z ∧ (sdS z z 7 i i f u db gb).t = 7 ∧ (sdS z z 7 i i f u db gb).l = [kD i] ∧ (sdS z z 7 i i f u db gb).st.ok = true ∧ signedB (sdS z z 7 i i f u db gb).st (sdS z z 7 i i f u db gb).g z [kk i] t d = true := by
  have h := sdS_facts (k := 7) (i := i) (j := i) db gb (.inr rfl) hi hi o.vl o.nw o.nw (in_self o.vl) o.win o.tm o.h1 o.h2
  exact ⟨rfl, rfl, rfl, h.1, h.2⟩
theorem anchor_facts {z x : ByteArray} {f u t d : Int} (o : Okay z f u t d) (ox : Okay x f u t d) (hin : inB z.toList x.toList = true) {j : Nat} (hj : j ≤ 90) (db gb : Nat) :
    (sdS z x 6 (j + 1) j f u db gb).x = z ∧ (sdS z x 6 (j + 1) j f u db gb).t = 6 ∧ (sdS z x 6 (j + 1) j f u db gb).l = [kD (j + 1)] ∧ (sdS z x 6 (j + 1) j f u db gb).st.ok = true ∧ (∃ g, (sdS z x 6 (j + 1) j f u db gb).g = [g] ∧ g.z = x) ∧ signedB (sdS z x 6 (j + 1) j f u db gb).st (sdS z x 6 (j + 1) j f u db gb).g x [kk j] t d = true := by
  have h := sdS_facts (k := 6) (i := j + 1) (j := j) db gb (.inl rfl) (by omega) (by omega) o.vl o.nw ox.nw hin o.win o.tm o.h1 o.h2
  exact ⟨rfl, rfl, rfl, h.1, ⟨_, rfl, rfl⟩, h.2⟩
theorem first_done {W1 Vd V6 : World} {mb ab sb db gb : Nat} {Z : List ByteArray} {A K L : List Sd} {z : ByteArray} {f u t d : Int} {T : TypeId} (hZ : ChainZ Z) (h : LInv W1 Vd mb ab Z A K L t d 0) (hR : RInv W1 Vd V6 mb sb db gb z 6 0 f u (L.map entOf ++ [entOf (sdS z z 7 0 0 f u db gb)]))
    (hz : Z[0]? = some z) (o : Okay z f u t d) (hd : Vd.heap[db]? = some (Obj.cells #[.string ⟨#[]⟩, .int .i64 (((0 : Nat) : Int) + 1), .int .i64 (1 + ((0 : Nat) : Int) % 3)] T (0, 0))) (h1 : db ≠ ab) (h2 : gb ≠ ab) :
    LInv W1 ((((V6.setCell ⟨ab, 0, none⟩ (.string z)).setCell ⟨ab, 1, none⟩ (.int .i64 6)).setCell ⟨ab, 2, none⟩ (.int .i64 0)).setCell ⟨ab, 3, none⟩ (.slice (some ⟨db, 0, none⟩) 1 1)) mb ab Z [] [sdS z z 7 0 0 f u db gb] [sdS z z 7 0 0 f u db gb] t d 1 := by
  obtain ⟨x, k, l, sv, hb, _⟩ := h.box
  have hb6 := hR.ck.blk _ _ _ _ hb
  have hd6 := hR.ck.blk _ _ _ _ hd
  have hma : mb ≠ ab := fun e => by
    obtain ⟨es, c, hx, _⟩ := hR.map
    rw [e, hb6] at hx
    cases hx
  have hdot := (hZ.dot hz).2 rfl
  refine h.first (four_belowW hR.bel h.low.2 _ _ _ _) hz (key_facts o (by omega) db gb) (sdS_in (k := 7) (i := 0) (j := 0) o.zm o.zm ((four_otherW h1 _ _ _ _).trans hd6) ((four_otherW h2 _ _ _ _).trans hR.gb)) (hR.map.of_block (four_otherW hma _ _ _ _)) (sv := .slice (some ⟨db, 0, none⟩) 1 1) ?_ (slD_W 0 ((four_otherW h1 _ _ _ _).trans hd6))
  have := four_setW (.string z) (.int .i64 6) (.int .i64 0) (.slice (some ⟨db, 0, none⟩) 1 1) hb6
  rw [← hdot]
  exact this
theorem next_done {W1 Vd W : World} {mb ab db gb gb2 : Nat} {Z : List ByteArray} {A K L : List Sd} {z x : ByteArray} {f u t d : Int} {j : Nat} {T : TypeId} (hZ : ChainZ Z) (h : LInv W1 Vd mb ab Z A K L t d (j + 1)) (hc : CK Vd W) (bel : Below W1.heap.size W1 W)
    (hx : Z[j]? = some x) (hz : Z[j + 1]? = some z) (o : Okay z f u t d) (ox : Okay x f u t d) (hj : j ≤ 90) (hd : Vd.heap[db]? = some (Obj.cells #[.string ⟨#[]⟩, .int .i64 (((j + 1 : Nat) : Int) + 1), .int .i64 (1 + ((j + 1 : Nat) : Int) % 3)] T (0, 0)))
    (hg : W.heap[gb]? = some (Obj.cells #[.string z, .int .i64 (((j + 1 : Nat) : Int) + 1), .int .i64 (1 + ((j + 1 : Nat) : Int) % 3), .int .i64 f, .int .i64 u, .int .u64 (mS z z 7 (j + 1) (j + 1) f u)] 49 (0, 0)))
    (hg2 : W.heap[gb2]? = some (Obj.cells #[.string x, .int .i64 ((j : Int) + 1), .int .i64 (1 + (j : Int) % 3), .int .i64 f, .int .i64 u, .int .u64 (mS z x 6 (j + 1) j f u)] 49 (0, 0)))
    (map : MapE Tryd.prog 30 mb (L.map entOf ++ [entOf (sdS z z 7 (j + 1) (j + 1) f u db gb)] ++ [entOf (sdS z x 6 (j + 1) j f u db gb2)]) W) :
    LInv W1 W mb ab Z (A ++ [sdS z x 6 (j + 1) j f u db gb2]) (K ++ [sdS z z 7 (j + 1) (j + 1) f u db gb]) (L ++ [sdS z z 7 (j + 1) (j + 1) f u db gb] ++ [sdS z x 6 (j + 1) j f u db gb2]) t d (j + 2) := by
  have hin : inB z.toList x.toList = true := by
    have := hZ.st j x z hx hz
    unfold stepB at this
    simp only [Bool.and_eq_true] at this
    exact this.1.1
  have hd6 := hc.blk _ _ _ _ hd
  exact h.next hc bel hx hz (key_facts o (by omega) db gb) (anchor_facts o ox hin hj db gb2) (sdS_in (k := 7) (i := j + 1) (j := j + 1) o.zm o.zm hd6 hg) (sdS_in (k := 6) (i := j + 1) (j := j) o.zm ox.zm hd6 hg2) map
def zSdW : Value := .agg #[.string ⟨#[]⟩, .int .i64 0, .int .i64 0, .slice none 0 0, .slice none 0 0]
theorem infoSdW : (Tryd.prog.info? 37).map (fun i => (i.zero, i.size, i.bytes)) = some (some zSdW, 5, 80) := by kernel_rfl
theorem zeroSdW (w : World) : (zeroValue 37).run Tryd.prog w = .ok zSdW w := by kernel_rfl
/-- Known sets that a call owns. -/
def OwnW (B : Nat) (v : Value) (l : List Sd) (w : World) : Prop := w.ownsRow B 37 5 v l.length (rowK l)
theorem OwnW.sl {B : Nat} {v : Value} {l : List Sd} {w : World} (h : OwnW B v l w) (hin : ∀ s ∈ l, s.In w) : SlK v l w := by
  refine ⟨?_, hin⟩
  obtain ⟨h0, h1⟩ := h
  rcases h1 with ⟨rfl, h2⟩ | ⟨g, cap, cur, rfl, h2, h3, h4, h5, h6, h7⟩
  · exact .inl ⟨List.length_eq_zero_iff.1 h2, none, 0, rfl⟩
  · refine .inr ⟨g, 0, cap, rfl, (Array.getElem?_eq_some_iff.1 h3).1, fun m u hm => ?_⟩
    rw [Nat.zero_add]
    rw [← h7, List.getElem?_take] at hm
    split at hm
    · exact cell_of_blk h3 m u (by simpa using hm)
    · cases hm
theorem OwnW.keep {B : Nat} {v : Value} {l : List Sd} {w w' : World} (h : OwnW B v l w) (hb : Below w.heap.size w w') : OwnW B v l w' := by
  obtain ⟨h0, h1⟩ := h
  refine ⟨h0, ?_⟩
  rcases h1 with h1 | ⟨g, cap, cur, h4, h5, h6, h7⟩
  · exact .inl h1
  · exact .inr ⟨g, cap, cur, h4, h5, (hb.block g (Array.getElem?_eq_some_iff.1 h6).1).trans h6, h7⟩
theorem OwnW.lt {B : Nat} {v : Value} {l : List Sd} {w : World} (h : OwnW B v l w) : ∀ k, v.ownBlock = some k → B ≤ k ∧ k < w.heap.size := fun k hk => World.ownsRow.lt h k hk
theorem ownW_nil (B : Nat) (w : World) : OwnW B (.slice none 0 0) [] w := ⟨rfl, .inl ⟨rfl, rfl⟩⟩
/-- One known set is appended. -/
theorem append_W {w : World} {ops : Array Oper} {rest : List Oper} {o : Oper} {a : Act} {Q : Exit → Act → World → Prop} (hgd : o.guard = none) (s x : Operand)
    (ho : o.op = .call { callee := .builtin .append, args := #[s, x], argTypes := #[22, 22] })
    (base : Nat) (v : Value) (hs : a.eval s = v) (l : List Sd) (hown : OwnW base v l w) (u : Sd) {T : TypeId} (b : Nat) (hbw : w.heap.size = b)
    (hx : a.eval x = .slice (some ⟨b, 0, none⟩) 1 1) (h63 : l.length + 1 ≤ 1000) (hbase : base ≤ w.heap.size)
    (h : ∀ v' w', OwnW base v' (l ++ [u]) w' → (w.alloc (.cells #[.string u.x, .int .i64 u.t, .int .i64 u.f, .slice u.p u.n u.c, .slice u.q u.m u.d] T)).grownBy w' v.ownBlock → wpList Tryd.prog ops Q rest (a.put o.dst v') w') :
    wpList Tryd.prog ops Q (o :: rest) a (w.alloc (.cells #[.string u.x, .int .i64 u.t, .int .i64 u.f, .slice u.p u.n u.c, .slice u.q u.m u.d] T)) := by
  subst hbw
  obtain ⟨i0, hi0, hz0, hz1, hz2⟩ := info_parts infoSdW
  refine wpList_append_own _ hgd s x _ ho base 37 i0 zSdW 5 80 Tryd.underlying22 hi0 hz0 hz1 hz2 rfl (by decide) v l.length (rowK l) hs (World.ownsRow.alloc hown _) ⟨w.heap.size, 0, none⟩ 1 1 (valsK u) hx rfl (World.news_of_block (cs := #[.string u.x, .int .i64 u.t, .int .i64 u.f, .slice u.p u.n u.c, .slice u.q u.m u.d]) (t := T) (fr := (0, 0)) (heap_alloc_new w _)) (by simp [valsK, Value.oneCell']) (by unfold maxLen; omega) (by omega) (by simp; omega) (fun v' w' h1 h2 _ => h v' w' ?_ h2)
  unfold OwnW
  rw [List.length_append, rowK_append]
  simpa [rowK] using h1
/-- A new slice of one key. -/
theorem slS_oneW {W : World} {q : Nat} {T : TypeId} (k : Sp) (a b : Int) (h : W.heap[q]? = some (Obj.cells #[.int .i64 a, .int .i64 b] T (0, 0))) (hk : k = (a, b)) : SlS (.slice (some ⟨q, 0, none⟩) 1 1) [k] W := by
  subst hk
  refine .inr ⟨_, _, _, rfl, (Array.getElem?_eq_some_iff.1 h).1, fun m u hm => ?_⟩
  refine cell_of_blk h (0 + m) u ?_
  rw [Nat.zero_add, ← Array.getElem?_toList]
  exact hm
end Go.Proofs.YtkhckgknldiheaaDoor

namespace Go.Proofs.YtkhckgknldiheaaDoor
set_option linter.unusedSimpArgs false
set_option linter.unusedVariables false
open Go.RowKit
open NmP SpP

theorem srcL_new (W : World) (y : ByteArray) : SrcL (.slice (some ⟨W.heap.size, 0, none⟩) 1 1) [y] (W.alloc (.cells #[.string y] 9)) := by
  refine .inr ⟨_, 1, rfl, fun j hj => ?_⟩
  simp only [List.length_singleton] at hj
  obtain rfl : j = 0 := by omega
  exact cell_of_blk (heap_alloc_new W _) 0 _ rfl

set_option maxHeartbeats 8000000 in
set_option maxRecDepth 100000 in
theorem ways_walk (lv : Value) (ls : List ByteArray) (f u t d : Int) (w : World) (hl : SlY lv ls w) (hln : ls.length ≤ maxLen) (hls : ∀ x ∈ ls, x.size ≤ maxLen) (hr : RulesAt w) :
    Calls Tryd.prog 8 #[lv, .int .i64 f, .int .i64 u, .int .i64 t, .int .i64 d] w fun e w' => e = .returned (.bool true) ∧ Below w.heap.size w w' := by
  obtain ⟨pl, cl, rfl⟩ := hl.form
  obtain ⟨nl, hnl⟩ : ∃ n, ls.length = n := ⟨_, rfl⟩
  rw [hnl] at hl ⊢
  have HL := Lib.hid hl
  have HNL := Lib.hid hnl
  have HLS := Lib.hid hls
  have hl9 : nl ≤ 9223372036854775807 := by rw [← hnl]; exact hln
  have CH := Lib.hid (head_any w hr)
  have CW := Lib.hid (fun W => when_W t d W)
  have CI := Lib.hid (fun W => window_W f u W)
  have HR := Lib.hid (fun W (hb : Below w.heap.size w W) => hr.keep hb)
  clear hl hln hls hr hnl
  by_cases c1 : 5 < nl
  · clear HL HNL HLS HR
    as_aux_lemma =>
      go_enter Tryd.func8, Tryd.ntmps8
      go_wp2_with (first | (go_at_call 9; (with_reducible refine (CH.out).mono ?_); rintro e w1 ⟨rfl, hb⟩; have HB1 := Lib.hid hb; clear hb))
      go_ret
      exact ⟨rfl, HB1.out⟩
  cases ht : timeB t d
  · rw [ht] at CW
    clear HL HNL HLS HR ht
    as_aux_lemma =>
      go_enter Tryd.func8, Tryd.ntmps8
      go_wp2_with (first | (go_at_call 9; (with_reducible refine (CH.out).mono ?_); rintro e w1 ⟨rfl, hb⟩; have HB1 := Lib.hid hb; clear hb) | (go_at_call 21; (with_reducible refine (CW.out _).mono ?_); rintro e w' ⟨rfl, rfl⟩))
      go_ret
      exact ⟨rfl, HB1.out⟩
  rw [ht] at CW
  have HT := Lib.hid ht
  obtain ⟨t1, t2, d1, d2⟩ := time_W ht
  clear ht
  cases hw : winB f u
  · rw [hw] at CI
    clear HL HNL HLS HR hw
    as_aux_lemma =>
      go_enter Tryd.func8, Tryd.ntmps8
      go_wp2_with (first | (go_at_call 9; (with_reducible refine (CH.out).mono ?_); rintro e w1 ⟨rfl, hb⟩; have HB1 := Lib.hid hb; clear hb) | (go_at_call 21; (with_reducible refine (CW.out _).mono ?_); rintro e w' ⟨rfl, rfl⟩) | (go_at_call 26; (with_reducible refine (CI.out _).mono ?_); rintro e w' ⟨rfl, rfl⟩))
      go_ret
      exact ⟨rfl, HB1.out⟩
  rw [hw] at CI
  have HW := Lib.hid hw
  obtain ⟨f1, f2, f3⟩ := win_W hw
  clear hw
  by_cases p1 : t - d < f
  · clear HL HNL HLS HR HW HT
    as_aux_lemma =>
      go_enter Tryd.func8, Tryd.ntmps8
      go_wp2_with (first | (go_at_call 9; (with_reducible refine (CH.out).mono ?_); rintro e w1 ⟨rfl, hb⟩; have HB1 := Lib.hid hb; clear hb) | (go_at_call 21; (with_reducible refine (CW.out _).mono ?_); rintro e w' ⟨rfl, rfl⟩) | (go_at_call 26; (with_reducible refine (CI.out _).mono ?_); rintro e w' ⟨rfl, rfl⟩))
      go_ret
      exact ⟨rfl, HB1.out⟩
  by_cases p2 : u < t + d
  · clear HL HNL HLS HR HW HT
    as_aux_lemma =>
      go_enter Tryd.func8, Tryd.ntmps8
      go_wp2_with (first | (go_at_call 9; (with_reducible refine (CH.out).mono ?_); rintro e w1 ⟨rfl, hb⟩; have HB1 := Lib.hid hb; clear hb) | (go_at_call 21; (with_reducible refine (CW.out _).mono ?_); rintro e w' ⟨rfl, rfl⟩) | (go_at_call 26; (with_reducible refine (CI.out _).mono ?_); rintro e w' ⟨rfl, rfl⟩))
      go_ret
      exact ⟨rfl, HB1.out⟩
  go_enter Tryd.func8, Tryd.ntmps8
  go_upto_region 6 with (first | (go_at_call 9; (with_reducible refine (CH.out).mono ?_); rintro e w1 ⟨rfl, hb⟩; have HB1 := Lib.hid hb; clear hb) | (go_at_call 21; (with_reducible refine (CW.out _).mono ?_); rintro e w' ⟨rfl, rfl⟩) | (go_at_call 26; (with_reducible refine (CI.out _).mono ?_); rintro e w' ⟨rfl, rfl⟩))
  have HZ0 := Lib.hid (StrBuf.make w1 dotB)
  have HC0 := Lib.hid chain_one
  clear CH CW CI
  go_loopw [12, 72] (fun s12 s72 wr => ∃ (i c g : Nat) (Z : List ByteArray), i ≤ nl ∧ s72 = .int .i64 i ∧ s12 = .slice (some ⟨g, 0, none⟩) (i + 1) c ∧ Hid (Z.length = i + 1) ∧ Hid (ChainZ Z) ∧ Hid (StrBuf w1.heap.size s12 Z w1 wr)) (fun _ s72 _ => nl - (intOf s72).toNat)
  case atStart => exact ⟨0, 1, _, [dotB], Nat.zero_le _, rfl, rfl, Lib.hid rfl, HC0, HZ0⟩
  case round =>
    obtain ⟨i, c, g, Z, hi, rfl, rfl, HZL, HZC, HZB⟩ := hrel
    have hzl : i < Z.length := by rw [HZL.out]; omega
    have hzx : Z[i]? = some Z[i] := List.getElem?_eq_getElem hzl
    by_cases hlt : i < nl
    · have hil : i < ls.length := by rw [HNL.out]; exact hlt
      obtain ⟨b, off, rfl, hb, hlc⟩ := HL.out.at_ (by omega)
      have hBr := HZB.out.2.1
      have hBw : Below w.heap.size w wr := HB1.out.trans (hBr.mono HB1.out.size)
      have l0 := (hBw.cell (p := ⟨b, off + i, none⟩) hb).trans (hlc i hil)
      obtain ⟨g', hgg, hgl, hzc⟩ := HZB.out.slz.at_ (by omega)
      cases hgg
      have z0 := hzc i hzl
      have hss := HLS.out ls[i] (List.getElem_mem hil)
      have HBW := Lib.hid hBw
      have HZX := Lib.hid hzx
      have HVX := Lib.hid (HZC.out.vl i _ hzx)
      have CPt := Lib.hid (fun W => parts_W Z[i] W HVX.out)
      generalize ls[i] = s at *
      generalize Z[i] = x at *
      have hi1 : (i : Int) < (nl : Int) := by omega
      have hi0 : (0 : Int) ≤ (i : Int) := by omega
      clear hBr hBw hlc hzc hzx HC0 HZ0
      go_wp2_with (first | (go_at_call 28; (with_reducible refine (CPt.out _).mono ?_); rintro e w2 ⟨v2, L2, rfl, hL2, hS2, hb⟩; have HM2 := Lib.hid ((StrBuf.make wr s).keep hb); have HL2 := Lib.hid hL2; have HS2 := Lib.hid hS2; clear hb hL2 hS2) | (at_builtin; refine append_lab rfl (.tmp 78) (.tmp 85) rfl wr.heap.size (.slice (some ⟨wr.heap.size, 0, none⟩) 1 1) [s] wr rfl HM2.out v2 rfl L2 HS2.out (by have := (tlz_small HL2.out HVX.out).1; simp only [List.length_singleton]; omega) ?_; intro v3 w3 hb3 hg3; have HM3 := Lib.hid hb3; clear hb3 hg3) | (go_at_call 27; fail))
      have HSL := Lib.hid (tlz_small HL2.out HVX.out)
      (with_reducible refine (rjoin_any v3 ([s] ++ L2) w3 HM3.out.slz (by simp) (by have := HSL.out.1; simp only [List.length_append, List.length_singleton]; omega) (fun q hq => by
        rcases List.mem_append.1 hq with hq | hq
        · rw [List.mem_singleton.1 hq]
          exact hss
        · exact HSL.out.2 q hq)).mono ?_)
      rintro e w4 ⟨hj, rfl⟩
      have HB3 := Lib.hid (HB1.out.trans ((HZB.out.2.1.trans (HM3.out.2.1.mono HZB.out.2.1.size)).mono HB1.out.size))
      have HZ3 := Lib.hid (HZB.out.keep HM3.out.2.1)
      rcases hj with ⟨y, rfl, hy1, hy2, hy3, hy4⟩ | rfl
      · by_cases hst : s.toList = [42]
        · have e1 : (s.toList == [42]) = true := by rw [hst]; rfl
          clear hst hy1 hy2 hy3 hy4 l0 z0
          go_wp2
          go_ret
          exact ⟨rfl, HB3.out⟩
        · have e1 : (s.toList == [42]) = false := beq_eq_false_iff_ne.2 hst
          have HY : Hid (ChainZ (Z ++ [y])) := Lib.hid (by
            have hlx := HZC.out.ln i x HZX.out
            have e2 : tlz ([s] ++ L2) = s.toList :: labs x.toList := by rw [← HL2.out]; rfl
            rw [e2] at hy1 hy2
            have hll := HSL.out.1
            simp only [List.length_append, List.length_singleton] at hy3
            rw [← tlz_len, HL2.out] at hy3 hll
            exact chain_push HZC.out (by rw [HZL.out, Nat.add_sub_cancel]; exact HZX.out) hst hy2 (by omega) hy1 hy4)
          clear hst hy1 hy2 hy3 hy4 l0 z0
          go_wp2_with ((at_builtin; refine append_lab rfl (.tmp 97) (.tmp 99) rfl w1.heap.size (.slice (some ⟨g, 0, none⟩) (i + 1) c) Z w1 rfl (HZ3.out.alloc _) (.slice (some ⟨w3.heap.size, 0, none⟩) 1 1) rfl [y] (srcL_new w3 y) (by rw [HZL.out]; simp only [List.length_singleton]; omega) ?_; intro v5 w5 hb5 hg5; have HZ5 := Lib.hid hb5; clear hb5 hg5))
          obtain ⟨g5, c5, hv5⟩ : ∃ g5 c5, v5 = .slice (some ⟨g5, 0, none⟩) (i + 1 + 1) c5 := by
            rcases HZ5.out.slz with ⟨h5, _⟩ | ⟨g5, c5, h5, _⟩
            · simp at h5
            · exact ⟨g5, c5, by rw [h5, List.length_append, HZL.out]; rfl⟩
          subst hv5
          go_roundw
          case rel => exact ⟨i + 1, c5, g5, Z ++ [y], hlt, by go_num, rfl, Lib.hid (by rw [List.length_append, HZL.out]; rfl), HY, HZ5⟩
          case measure => simp [intOf]; omega
      · clear l0 z0
        go_wp2
        go_ret
        exact ⟨rfl, HB3.out⟩
    · obtain rfl : i = nl := by omega
      clear HL HNL HLS HC0 HZ0
      obtain ⟨W1, hW1⟩ : ∃ W, W = wr := ⟨_, rfl⟩
      subst hW1
      have hmm := @run_makeMap Tryd.prog
      obtain ⟨n, hn⟩ : ∃ n, i + 1 = n := ⟨_, rfl⟩
      have hn1 : 1 ≤ n := by omega
      have hn6 : n ≤ 6 := by omega
      rw [hn] at HZL HZB ⊢
      have HZS := Lib.hid HZB.out.slz
      have HBr := Lib.hid (HB1.out.trans (HZB.out.2.1.mono HB1.out.size))
      have HI0 := Lib.hid (linv_start W1 Z t d)
      have HLO : Hid (w.heap.size ≤ W1.heap.size) := Lib.hid HBr.out.size
      clear hn hzl hzx c1 HZB HB1
      go_upto_region 16 with fail
      obtain ⟨ab, hab⟩ : ∃ q, W1.heap.size + 1 = q := ⟨_, rfl⟩
      obtain ⟨mb, hmb⟩ : ∃ q, W1.heap.size = q := ⟨_, rfl⟩
      rw [hab] at HI0 ⊢
      rw [hmb] at HI0 ⊢
      clear hab hmb hmm
      generalize (W1.alloc _).alloc _ = V0 at *
      go_loopw [105] (fun s105 W => ∃ (i : Nat) (A K L : List Sd), i ≤ n ∧ s105 = .int .i64 i ∧ Hid (LInv W1 W mb ab Z A K L t d i)) (fun s105 _ => n - (intOf s105).toNat)
      case atStart => exact ⟨0, [], [], [], Nat.zero_le _, rfl, HI0⟩
      case round =>
        obtain ⟨i, A, K, L, hi, rfl, HI⟩ := hrel
        clear HI0
        by_cases hlt : i < n
        · have hzl : i < Z.length := by rw [HZL.out]; exact hlt
          have hzi : Z[i]? = some Z[i] := List.getElem?_eq_getElem hzl
          have HSZ := Lib.hid (HZS.out.keep HI.out.bel)
          obtain ⟨g', hgg, hgl, hzc⟩ := HSZ.out.at_ (by omega)
          cases hgg
          have z0 := hzc i hzl
          have HZI := Lib.hid hzi
          generalize Z[i] = z at *
          have hi1 : (i : Int) < (n : Int) := by omega
          have hi0 : (0 : Int) ≤ (i : Int) := by omega
          have hi6 : (i : Int) ≤ 10 := by omega
          clear hzc hzi HSZ
          have HN := Lib.hid (round_new HI.out z)
          have HS := Lib.hid (sbx_new wr z i)
          have HSB : Hid (W1.heap.size ≤ wr.heap.size) := Lib.hid HI.out.bel.size
          have HAB : Hid (ab < wr.heap.size ∧ mb < wr.heap.size) := Lib.hid (by
            obtain ⟨_, _, _, _, h, _⟩ := HI.out.box
            exact ⟨(Array.getElem?_eq_some_iff.1 h).1, HI.out.map.lt⟩)
          go_upto_region 21 with fail
          obtain ⟨kb, hkb⟩ : ∃ q, wr.heap.size = q := ⟨_, rfl⟩
          rw [hkb] at HS HSB HAB ⊢
          have hVs : ((wr.alloc (.cells #[.int .i64 ((i : Int) + 1), .int .i64 (1 + (i : Int) % 3)] 44)).alloc (.cells #[.string ⟨#[]⟩, .int .i64 ((i : Int) + 1), .int .i64 (1 + (i : Int) % 3)] 65)).heap.size = kb + 1 + 1 := by simp [hkb]
          clear hkb z0 HI hgl
          generalize (wr.alloc _).alloc _ = Vd at *
          have HVS := Lib.hid hVs
          clear hVs
          generalize Vd.alloc _ = V3 at *
          have HDA := Lib.hid ((HS.out.bel.block (kb + 1) (by rw [HVS.out]; omega)).symm.trans HS.out.da)
          have HVL := Lib.hid (HZC.out.vl i z HZI.out)
          have HNW := Lib.hid (HZC.out.nw i z HZI.out)
          have HZM : Hid (z.size ≤ maxLen) := Lib.hid (by have := (valid_len HVL.out).2.2; rw [tl_len] at this; unfold maxLen; omega)
          have HIN : Hid (inB z.toList z.toList = true) := Lib.hid (by
            unfold inB
            rw [HVL.out, (under_iff (valid_ok HVL.out)).2 (List.suffix_refl _)]
            rfl)
          have HB3 := Lib.hid (HN.out.bel.trans (HS.out.bel.mono HN.out.bel.size))
          have CS1 := Lib.hid (sign_S (k := 7) (i := i) (j := i) (f := f) (u := u) HZM.out HZM.out HS.out.da (HR.out _ (HBr.out.trans (HB3.out.mono HBr.out.size))) (.inr rfl) (by omega) (by omega) HVL.out HNW.out HNW.out HIN.out HW.out)
          have k0 := cell_of_blk HS.out.ky 0 (.int .i64 ((i : Int) + 1)) rfl; have k1 := cell_of_blk HS.out.ky 1 (.int .i64 (1 + (i : Int) % 3)) rfl; have s0 := cell_of_blk HS.out.st 0 (.string z) rfl; have s1 := cell_of_blk HS.out.st 1 (.int .i64 7) rfl; have s2 := cell_of_blk HS.out.st 2 (.int .i64 0) rfl; have s3 := cell_of_blk HS.out.st 3 (.slice (some ⟨kb + 1, 0, none⟩) 1 1) rfl
          obtain ⟨m7, hm7⟩ : ∃ m, mS z z 7 i i f u = m := ⟨_, rfl⟩
          rw [hm7] at CS1
          have HM7 := Lib.hid hm7
          clear hm7
          go_upto_region 24 with ((go_at_call 22; (with_reducible refine (CS1.out).mono ?_); rintro e w2 ⟨rfl, hb⟩; have HS2 := Lib.hid (HS.out.keep hb); have HN2 := Lib.hid ((HN.out.keep HS.out.bel).keep hb); clear hb k0 k1 s0 s1 s2 s3; have k0 := cell_of_blk HS2.out.ky 0 (.int .i64 ((i : Int) + 1)) rfl; have k1 := cell_of_blk HS2.out.ky 1 (.int .i64 (1 + (i : Int) % 3)) rfl; have s0 := cell_of_blk HS2.out.st 0 (.string z) rfl; have s1 := cell_of_blk HS2.out.st 1 (.int .i64 7) rfl; have s2 := cell_of_blk HS2.out.st 2 (.int .i64 0) rfl; have s3 := cell_of_blk HS2.out.st 3 (.slice (some ⟨kb + 1, 0, none⟩) 1 1) rfl))
          obtain ⟨r, hrr⟩ : ∃ q, w2.heap.size = q := ⟨_, rfl⟩
          have HS4 := Lib.hid (HS2.out.keep (bnewE w2 (.cells #[.string z, .int .i64 ((i : Int) + 1), .int .i64 (1 + (i : Int) % 3), .int .i64 f, .int .i64 u, .int .u64 m7] 49)))
          have HN4 := Lib.hid (HN2.out.keep (bnewE w2 (.cells #[.string z, .int .i64 ((i : Int) + 1), .int .i64 (1 + (i : Int) % 3), .int .i64 f, .int .i64 u, .int .u64 m7] 49)))
          have HG4 : Hid ((w2.alloc (.cells #[.string z, .int .i64 ((i : Int) + 1), .int .i64 (1 + (i : Int) % 3), .int .i64 f, .int .i64 u, .int .u64 m7] 49)).heap[w2.heap.size]? = some (Obj.cells #[.string z, .int .i64 ((i : Int) + 1), .int .i64 (1 + (i : Int) % 3), .int .i64 f, .int .i64 u, .int .u64 m7] 49 (0, 0))) := Lib.hid (heap_alloc_new w2 _)
          rw [hrr] at HG4 ⊢
          clear hrr k0 k1 s0 s1 s2 s3 CS1
          generalize w2.alloc _ = V4 at *
          have k0 := cell_of_blk HS4.out.ky 0 (.int .i64 ((i : Int) + 1)) rfl; have k1 := cell_of_blk HS4.out.ky 1 (.int .i64 (1 + (i : Int) % 3)) rfl; have s0 := cell_of_blk HS4.out.st 0 (.string z) rfl; have s1 := cell_of_blk HS4.out.st 1 (.int .i64 7) rfl; have s2 := cell_of_blk HS4.out.st 2 (.int .i64 0) rfl; have s3 := cell_of_blk HS4.out.st 3 (.slice (some ⟨kb + 1, 0, none⟩) 1 1) rfl
          have g0 := cell_of_blk HG4.out 0 (.string z) rfl; have g1 := cell_of_blk HG4.out 1 (.int .i64 ((i : Int) + 1)) rfl; have g2 := cell_of_blk HG4.out 2 (.int .i64 (1 + (i : Int) % 3)) rfl; have g3 := cell_of_blk HG4.out 3 (.int .i64 f) rfl; have g4 := cell_of_blk HG4.out 4 (.int .i64 u) rfl; have g5 := cell_of_blk HG4.out 5 (.int .u64 m7) rfl
          have HS5 := Lib.hid (HS4.out.keep (bnewE V4 (.cells #[.string z, .int .i64 ((i : Int) + 1), .int .i64 (1 + (i : Int) % 3), .int .i64 f, .int .i64 u, .int .u64 m7] 49)))
          have HN5 := Lib.hid (HN4.out.keep (bnewE V4 (.cells #[.string z, .int .i64 ((i : Int) + 1), .int .i64 (1 + (i : Int) % 3), .int .i64 f, .int .i64 u, .int .u64 m7] 49)))
          have HG5 : Hid ((V4.alloc (.cells #[.string z, .int .i64 ((i : Int) + 1), .int .i64 (1 + (i : Int) % 3), .int .i64 f, .int .i64 u, .int .u64 m7] 49)).heap[V4.heap.size]? = some (Obj.cells #[.string z, .int .i64 ((i : Int) + 1), .int .i64 (1 + (i : Int) % 3), .int .i64 f, .int .i64 u, .int .u64 m7] 49 (0, 0))) := Lib.hid (heap_alloc_new V4 _)
          have HV4 : Hid (kb + 1 + 1 < V4.heap.size) := Lib.hid (Array.getElem?_eq_some_iff.1 HS4.out.st).1
          obtain ⟨l7, hl7⟩ := keyOfQ z 7 HZM.out (by decide)
          obtain ⟨l6, hl6⟩ := keyOfQ z 6 HZM.out (by decide)
          have HK7 := Lib.hid hl7
          have HK6 := Lib.hid hl6
          clear hl7 hl6
          have hLs : (L.map entOf).length < 100 := by rw [List.length_map, HN.out.len]; omega
          have HLS2 := Lib.hid hLs
          clear hLs
          go_upto_region 25 with ((at_mapUpdate; refine wpList_putE rfl (.tmp 136) (.tmp 138) (.tmp 142) 63 rfl 37 keyedQ Tryd.underlying63 rfl HN5.out.map (Nat.lt_of_lt_of_le HLS2.out (by decide)) (.agg #[.string z, .int .i64 7]) (.agg #[.string z, .int .i64 7, .int .i64 0, .slice (some ⟨kb + 1, 0, none⟩) 1 1, .slice (some ⟨V4.heap.size, 0, none⟩) 1 1]) l7 rfl rfl HK7.out (fresh_key HZC.out HN.out.fam HN.out.mem HZI.out 7) ?_; intro w3 hm3 hg3; have HM3 := Lib.hid hm3; have HG3 := Lib.hid hg3; clear hm3 hg3))
          obtain ⟨gb, hgb⟩ : ∃ q, V4.heap.size = q := ⟨_, rfl⟩
          have HR3 : Hid (RInv W1 Vd w3 mb (kb + 1 + 1) (kb + 1) gb z 7 i f u (L.map entOf ++ [entOf (sdS z z 7 i i f u (kb + 1) gb)])) := Lib.hid (by
            have k5 := (CK.of_below (Below.refl _ (V4.alloc (.cells #[.string z, .int .i64 ((i : Int) + 1), .int .i64 (1 + (i : Int) % 3), .int .i64 f, .int .i64 u, .int .u64 m7] 49)))).grown HG3.out HN5.out.map
            refine ⟨HN5.out.bel.grown HG3.out HN5.out.bel.size (fun k e => by cases e; exact HN5.out.low.1), (CK.of_below HS5.out.bel).grown HG3.out HN5.out.map, ?_, k5.blk _ _ _ _ HS5.out.st, ?_⟩
            · have hm := HM3.out
              rw [hgb] at hm
              exact hm
            · have hg := k5.blk _ _ _ _ HG5.out
              rw [hgb, ← HM7.out] at hg
              exact hg)
          rw [hgb] at HV4 ⊢
          have HIN3 := Lib.hid (fun s hs => (HN5.out.ins s hs))
          clear k0 k1 s0 s1 s2 s3 g0 g1 g2 g3 g4 g5 HM3 HG3 HG5 HS5 HG4 HS4 HN4 HN5 HS2 HN2 HB3 hgb
          have s0 := cell_of_blk HR3.out.st 0 (.string z) rfl; have s1 := cell_of_blk HR3.out.st 1 (.int .i64 7) rfl; have s2 := cell_of_blk HR3.out.st 2 (.int .i64 0) rfl; have s3 := cell_of_blk HR3.out.st 3 (.slice (some ⟨kb + 1, 0, none⟩) 1 1) rfl
          have sf1 := frozen_of_blk HR3.out.st 1
          have lsb := (Array.getElem?_eq_some_iff.1 HR3.out.st).1
          go_upto_region 26 with fail
          have HR6 := Lib.hid (HR3.out.retype (by have := HSB.out; omega) (by rw [HVS.out]; omega) (by have := HV4.out; omega) 6)
          clear s0 s1 s2 s3 sf1 lsb
          generalize w3.setCell _ _ = V6 at *
          have s0 := cell_of_blk HR6.out.st 0 (.string z) rfl; have s1 := cell_of_blk HR6.out.st 1 (.int .i64 6) rfl; have s2 := cell_of_blk HR6.out.st 2 (.int .i64 0) rfl; have s3 := cell_of_blk HR6.out.st 3 (.slice (some ⟨kb + 1, 0, none⟩) 1 1) rfl
          by_cases hi00 : i = 0
          · have e0 : ((i : Int) == 0) = true := by rw [hi00]; rfl
            have HI0 := Lib.hid hi00
            clear hi00
            obtain ⟨bx, bk, bl, bsv, hbx, _⟩ := HN.out.box
            have hb6 := HR6.out.ck.blk _ _ _ _ hbx
            have b0 := cell_of_blk hb6 0 (.string bx) rfl
            have b1 := cell_of_blk hb6 1 (.int .i64 bk) rfl
            have b2 := cell_of_blk hb6 2 (.int .i64 bl) rfl
            have b3 := cell_of_blk hb6 3 bsv rfl
            have bf0 := frozen_of_blk hb6 0
            have bf1 := frozen_of_blk hb6 1
            have bf2 := frozen_of_blk hb6 2
            have bf3 := frozen_of_blk hb6 3
            have lab := (Array.getElem?_eq_some_iff.1 hb6).1
            clear hb6 hbx
            have HF := Lib.hid (fun (hi : i = 0) => (by
              subst hi
              exact first_done HZC.out HN.out HR6.out HZI.out ⟨HVL.out, HNW.out, HZM.out, HW.out, HT.out, by omega, by omega⟩ HDA.out (by have := HAB.out.1; omega) (by have := HAB.out.1; have := HV4.out; omega) : LInv W1 ((((V6.setCell ⟨ab, 0, none⟩ (.string z)).setCell ⟨ab, 1, none⟩ (.int .i64 6)).setCell ⟨ab, 2, none⟩ (.int .i64 0)).setCell ⟨ab, 3, none⟩ (.slice (some ⟨kb + 1, 0, none⟩) 1 1)) mb ab Z [] [sdS z z 7 i i f u (kb + 1) gb] [sdS z z 7 i i f u (kb + 1) gb] t d (i + 1)))
            go_wp2
            go_roundw
            case rel => exact ⟨i + 1, _, _, _, hlt, by go_num, Lib.hid (HF.out HI0.out)⟩
            case measure => simp [intOf]; omega
          · have e0 : ((i : Int) == 0) = false := by simp; omega
            have hi1' : (1 : Int) ≤ (i : Int) := by omega
            obtain ⟨j, hj⟩ : ∃ j, j + 1 = i := ⟨i - 1, by omega⟩
            have hzjl : j < Z.length := by rw [HZL.out]; omega
            have hzj : Z[j]? = some Z[j] := List.getElem?_eq_getElem hzjl
            have HSZ := Lib.hid (HZS.out.keep HR6.out.bel)
            obtain ⟨g', hgg, hgl, hzc⟩ := HSZ.out.at_ (by omega)
            cases hgg
            have z1 := hzc j hzjl
            have HZJ := Lib.hid hzj
            generalize Z[j] = x at *
            clear hzc hzj HSZ hzjl
            have HXV := Lib.hid (HZC.out.vl j x HZJ.out)
            have HXW := Lib.hid (HZC.out.nw j x HZJ.out)
            have HXM : Hid (x.size ≤ maxLen) := Lib.hid (by have := (valid_len HXV.out).2.2; rw [tl_len] at this; unfold maxLen; omega)
            have HINX : Hid (inB z.toList x.toList = true) := Lib.hid (by
              have hzi2 : Z[j + 1]? = some z := by rw [hj]; exact HZI.out
              have := HZC.out.st j x z HZJ.out hzi2
              unfold stepB at this
              simp only [Bool.and_eq_true] at this
              exact this.1.1)
            have hjj : (j : Int) = (i : Int) - 1 := by omega
            have CS2 := Lib.hid (fun W (hRI : RInv W1 Vd W mb (kb + 1 + 1) (kb + 1) gb z 6 i f u (L.map entOf ++ [entOf (sdS z z 7 i i f u (kb + 1) gb)])) => sign_S (z := z) (zone := x) (k := 6) (i := i) (j := j) (f := f) (u := u) (db := kb + 1) (W := W) HZM.out HXM.out (hRI.ck.blk _ _ _ _ HDA.out) (HR.out _ (HBr.out.trans (hRI.bel.mono HBr.out.size))) (.inl rfl) (by omega) (by omega) HVL.out HNW.out HXW.out HINX.out HW.out)
            rw [hjj, show (i : Int) - 1 + 1 = (i : Int) by omega] at CS2
            obtain ⟨m6, hm6⟩ : ∃ m, mS z x 6 i j f u = m := ⟨_, rfl⟩
            rw [hm6] at CS2
            have HM6 := Lib.hid hm6
            have HJ := Lib.hid hj
            have HJJ := Lib.hid hjj
            have hij : IntKind.i64.wrap ((i : Int) - 1) = (i : Int) - 1 := IntWalk.i64_in _ (by omega)
            have hij0 : 0 ≤ (i : Int) - 1 := by omega
            have hijn : ((i : Int) - 1).toNat = j := by omega
            have hijl : (i : Int) - 1 < (n : Int) := by omega
            have htm : ((i : Int) - 1).tmod 3 = ((i : Int) - 1) % 3 := Int.tmod_eq_emod_of_nonneg hij0
            have hwm : IntKind.i64.wrap (1 + ((i : Int) - 1) % 3) = 1 + ((i : Int) - 1) % 3 := IntWalk.i64_in _ (by omega)
            have hwm2 : IntKind.i64.wrap (1 + ((i : Int) - 1).tmod 3) = 1 + ((i : Int) - 1) % 3 := by rw [htm]; exact hwm
            clear hm6 hj hjj
            have HZ1 := Lib.hid (fun W (hb : Below W1.heap.size W1 W) => (by
              obtain ⟨g', hgg, _, hzc⟩ := (HZS.out.keep hb).at_ (by omega)
              cases hgg
              have hzjl : j < Z.length := (List.getElem?_eq_some_iff.1 HZJ.out).1
              have h1 := hzc j hzjl
              rw [(List.getElem?_eq_some_iff.1 HZJ.out).2] at h1
              exact h1 : W.cell? ⟨g, j, none⟩ = some (.string x)))
            go_upto_region 28 with fail
            have HRd : Hid (RInv W1 Vd V6.drew mb (kb + 1 + 1) (kb + 1) gb z 6 i f u (L.map entOf ++ [entOf (sdS z z 7 i i f u (kb + 1) gb)])) := Lib.hid (HR6.out.keep (below_drewD (Below.refl _ V6) 1))
            have HRp : Hid (RInv W1 Vd (V6.alloc (.cells #[.string ⟨#[]⟩, .int .i64 0, .int .i64 0, .int .i64 0, .int .i64 0, .int .u64 0] 49)).drew mb (kb + 1 + 1) (kb + 1) gb z 6 i f u (L.map entOf ++ [entOf (sdS z z 7 i i f u (kb + 1) gb)])) := Lib.hid ((HR6.out.keep (bnewE V6 _)).keep (below_drewD (Below.refl _ _) 1))
            have HZP : Hid ((V6.alloc (.cells #[.string ⟨#[]⟩, .int .i64 0, .int .i64 0, .int .i64 0, .int .i64 0, .int .u64 0] 49)).drew.heap[V6.heap.size]? = some (Obj.cells #[.string ⟨#[]⟩, .int .i64 0, .int .i64 0, .int .i64 0, .int .i64 0, .int .u64 0] 49 (0, 0))) := Lib.hid (heap_alloc_new V6 _)
            have HBP : Hid (Below V6.heap.size V6 (V6.alloc (.cells #[.string ⟨#[]⟩, .int .i64 0, .int .i64 0, .int .i64 0, .int .i64 0, .int .u64 0] 49)).drew) := Lib.hid (below_drewD (bnewE V6 _) 1)
            have lt0 := (Array.getElem?_eq_some_iff.1 HR6.out.st).1
            have lt1 : g < V6.heap.size := Nat.lt_of_lt_of_le hgl (Nat.le_refl _)
            have nq : kb + 1 + 1 ≠ V6.heap.size := by omega
            have nq' : V6.heap.size ≠ kb + 1 + 1 := by omega
            have nq2 : (kb + 1 + 1 = V6.heap.size) = False := eq_false nq
            have ng : g ≠ V6.heap.size := by omega
            have ng' : V6.heap.size ≠ g := by omega
            have ng2 : (g = V6.heap.size) = False := eq_false ng
            go_cut [26, 27] from 147 to 164 (fun s26 s27 wx => s27 = .int .i64 0 ∧ ∃ q6, s26 = .pointer (some ⟨q6, 0, none⟩) ∧ Hid (RInv W1 Vd wx mb (kb + 1 + 1) (kb + 1) gb z 6 i f u (L.map entOf ++ [entOf (sdS z z 7 i i f u (kb + 1) gb)]) ∧ wx.heap[q6]? = some (Obj.cells #[.string x, .int .i64 (i : Int), .int .i64 (1 + ((i : Int) - 1) % 3), .int .i64 f, .int .i64 u, .int .u64 m6] 49 (0, 0))))
            case first =>
              go_region_held3 (fun w' => w'.cell? ⟨kb + 1 + 1, 0, none⟩ = some (.string z) ∧ w'.cell? ⟨kb + 1 + 1, 1, none⟩ = some (.int .i64 6) ∧ w'.cell? ⟨kb + 1 + 1, 2, none⟩ = some (.int .i64 0) ∧ w'.cell? ⟨kb + 1 + 1, 3, none⟩ = some (.slice (some ⟨kb + 1, 0, none⟩) 1 1) ∧ w'.cell? ⟨g, j, none⟩ = some (.string x)) (go_keep)
                (first | (go_at_call 22; (with_reducible refine (CS2.out _ HRd.out).mono ?_); rintro e w5 ⟨rfl, hb⟩; replace HRd := Lib.hid (HRd.out.keep hb); clear hb s0 s1 s2 s3 z1 lt0 lt1; have s0 := cell_of_blk HRd.out.st 0 (.string z) rfl; have s1 := cell_of_blk HRd.out.st 1 (.int .i64 6) rfl; have s2 := cell_of_blk HRd.out.st 2 (.int .i64 0) rfl; have s3 := cell_of_blk HRd.out.st 3 (.slice (some ⟨kb + 1, 0, none⟩) 1 1) rfl; have z1 := HZ1.out _ HRd.out.bel; have lt0 := (Array.getElem?_eq_some_iff.1 HRd.out.st).1) | (go_at_call 22; (with_reducible refine (CS2.out _ HRp.out).mono ?_); rintro e w5 ⟨rfl, hb⟩; have HB5 := Lib.hid (HBP.out.trans (hb.mono HBP.out.size)); have HZ := Lib.hid ((hb.block V6.heap.size (by simp)).trans HZP.out); replace HRp := Lib.hid (HRp.out.keep hb); clear hb s0 s1 s2 s3 z1 lt0 lt1; have s0 := cell_of_blk HRp.out.st 0 (.string z) rfl; have s1 := cell_of_blk HRp.out.st 1 (.int .i64 6) rfl; have s2 := cell_of_blk HRp.out.st 2 (.int .i64 0) rfl; have s3 := cell_of_blk HRp.out.st 3 (.slice (some ⟨kb + 1, 0, none⟩) 1 1) rfl; have z1 := HZ1.out _ HRp.out.bel; have lt0 := (Array.getElem?_eq_some_iff.1 HZ.out).1; have y0 := cell_of_blk HZ.out 0 (.string ⟨#[]⟩) rfl; have y1 := cell_of_blk HZ.out 1 (.int .i64 0) rfl; have y2 := cell_of_blk HZ.out 2 (.int .i64 0) rfl; have y3 := cell_of_blk HZ.out 3 (.int .i64 0) rfl; have y4 := cell_of_blk HZ.out 4 (.int .i64 0) rfl; have y5 := cell_of_blk HZ.out 5 (.int .u64 0) rfl; have yf0 := frozen_of_blk HZ.out 0; have yf1 := frozen_of_blk HZ.out 1; have yf2 := frozen_of_blk HZ.out 2; have yf3 := frozen_of_blk HZ.out 3; have yf4 := frozen_of_blk HZ.out 4; have yf5 := frozen_of_blk HZ.out 5))
              · go_wp2_with fail
                go_meet
                exact ⟨rfl, _, rfl, Lib.hid ⟨HRd.out.keep (bnewE _ _), heap_alloc_new _ _⟩⟩
              · go_wp2_with fail
                go_meet
                exact ⟨rfl, _, rfl, Lib.hid ⟨HR6.out.keep (below_six HB5.out (Nat.le_refl _) _ _ _ _ _ _), six_set _ _ _ _ _ _ HZ.out⟩⟩
            case rest =>
              obtain ⟨rfl, q6, rfl, HX⟩ := hcut
              clear HRd HRp HZP HBP lt0 lt1 nq nq' nq2 ng ng' ng2 s0 s1 s2 s3 z1 htm hwm hwm2 hij hij0 hijn hijl CS2 HR6
              have HRX := Lib.hid HX.out.1
              have HQX := Lib.hid HX.out.2
              clear HX
              have s0 := cell_of_blk HRX.out.st 0 (.string z) rfl; have s1 := cell_of_blk HRX.out.st 1 (.int .i64 6) rfl; have s2 := cell_of_blk HRX.out.st 2 (.int .i64 0) rfl; have s3 := cell_of_blk HRX.out.st 3 (.slice (some ⟨kb + 1, 0, none⟩) 1 1) rfl
              have g0 := cell_of_blk HQX.out 0 (.string x) rfl; have g1 := cell_of_blk HQX.out 1 (.int .i64 (i : Int)) rfl; have g2 := cell_of_blk HQX.out 2 (.int .i64 (1 + ((i : Int) - 1) % 3)) rfl; have g3 := cell_of_blk HQX.out 3 (.int .i64 f) rfl; have g4 := cell_of_blk HQX.out 4 (.int .i64 u) rfl; have g5 := cell_of_blk HQX.out 5 (.int .u64 m6) rfl
              have HRY := Lib.hid (HRX.out.keep (bnewE wc (.cells #[.string x, .int .i64 (i : Int), .int .i64 (1 + ((i : Int) - 1) % 3), .int .i64 f, .int .i64 u, .int .u64 m6] 49)))
              have HQY : Hid ((wc.alloc (.cells #[.string x, .int .i64 (i : Int), .int .i64 (1 + ((i : Int) - 1) % 3), .int .i64 f, .int .i64 u, .int .u64 m6] 49)).heap[wc.heap.size]? = some (Obj.cells #[.string x, .int .i64 (i : Int), .int .i64 (1 + ((i : Int) - 1) % 3), .int .i64 f, .int .i64 u, .int .u64 m6] 49 (0, 0))) := Lib.hid (heap_alloc_new wc _)
              have HNEW := Lib.hid (fun p (hp : p ∈ L.map entOf ++ [entOf (sdS z z 7 i i f u (kb + 1) gb)]) => (by
                rcases List.mem_append.1 hp with hp | hp
                · exact fresh_key HZC.out HN.out.fam HN.out.mem HZI.out 6 p hp
                · rw [List.mem_singleton.1 hp]
                  intro he
                  have h1 := congrArg (fun v => match v with | .agg cs => cs.toList | _ => []) he
                  simp [entOf, sdS] at h1 : p.1 ≠ .agg #[.string z, .int .i64 6]))
              have HL9 : Hid ((L.map entOf ++ [entOf (sdS z z 7 i i f u (kb + 1) gb)]).length < maxLen) := Lib.hid (by rw [List.length_append, List.length_singleton]; have := HLS2.out; unfold maxLen; omega)
              go_wp2_with (at_mapUpdate; refine wpList_putE rfl (.tmp 167) (.tmp 169) (.tmp 173) 63 rfl 37 keyedQ Tryd.underlying63 rfl HRY.out.map HL9.out (.agg #[.string z, .int .i64 6]) (.agg #[.string z, .int .i64 6, .int .i64 0, .slice (some ⟨kb + 1, 0, none⟩) 1 1, .slice (some ⟨wc.heap.size, 0, none⟩) 1 1]) l6 rfl rfl HK6.out HNEW.out ?_; intro w9 hm9 hg9; have HM9 := Lib.hid hm9; have HG9 := Lib.hid hg9; clear hm9 hg9)
              have HF := Lib.hid (fun (i' : Nat) (hq1 : j + 1 = i') (hq2 : i' = i) => (by
                subst hq2
                subst hq1
                obtain ⟨gb2, hgb2⟩ : ∃ q, wc.heap.size = q := ⟨_, rfl⟩
                have k9 := (CK.of_below (Below.refl _ _)).grown HG9.out HRY.out.map
                have hq := k9.blk _ _ _ _ HQY.out
                have hm := HM9.out
                rw [hgb2] at hq hm
                rw [← HM6.out] at hq
                have e5 : ((j + 1 : Nat) : Int) = (j : Int) + 1 := by omega
                have e6 : ((j + 1 : Nat) : Int) - 1 = (j : Int) := by omega
                rw [e6, e5] at hq
                exact ⟨_, _, _, next_done HZC.out HN.out (HRY.out.ck.grown HG9.out HRY.out.map) (HRY.out.bel.grown HG9.out HRY.out.bel.size (fun k e => by cases e; exact HN.out.low.1)) HZJ.out HZI.out ⟨HVL.out, HNW.out, HZM.out, HW.out, HT.out, by omega, by omega⟩ ⟨HXV.out, HXW.out, HXM.out, HW.out, HT.out, by omega, by omega⟩ (by omega) HDA.out (k9.blk _ _ _ _ HRY.out.gb) hq hm⟩ : ∃ A' K' L', LInv W1 w9 mb ab Z A' K' L' t d (i' + 1)))
              obtain ⟨A', K', L', hI'⟩ := HF.out i HJ.out rfl
              have HI' := Lib.hid hI'
              clear hI'
              go_roundw
              case rel => exact ⟨i + 1, A', K', L', hlt, by go_num, HI'⟩
              case measure => simp [intOf]; omega
        · obtain rfl : i = n := by omega
          have hFam : Fam Z A K t d := PFam.fam (by rw [HZL.out]; exact HI.out.fam) (by rw [HZL.out]; exact hn1)
          have HF := Lib.hid hFam
          obtain ⟨bx, bk, bl, bsv, hbx, hb1⟩ := HI.out.box
          obtain ⟨rfl, rfl, rfl, hsv⟩ := hb1 hn1
          have HBX := Lib.hid hbx
          have HRA : Hid (RootA ⟨dotB, 6, 0, bsv, [kD 0]⟩) := Lib.hid ⟨kset_ok (HZC.out.vl 0 dotB HZC.out.hd) (HZC.out.nw 0 dotB HZC.out.hd) (Nat.zero_le _) (.inl rfl), rfl, rfl, rfl⟩
          have HSV : Hid (St.In ⟨dotB, 6, 0, bsv, [kD 0]⟩ wr) := Lib.hid ⟨by show dotB.size ≤ maxLen; decide, fun d hd => by rw [List.mem_singleton.1 hd]; exact Nat.zero_le _, hsv⟩
          have hlen := HI.out.map.len (ty := 3) Tryd.underlying63
          rw [List.length_map, HI.out.len] at hlen
          obtain ⟨sv0, sp0, hbsv⟩ := hsv.form
          simp only [List.length_singleton] at hbsv
          subst hbsv
          have hzl1 : i - 1 < Z.length := by rw [HZL.out]; omega
          have hzl : Z[i - 1]? = some Z[i - 1] := List.getElem?_eq_getElem hzl1
          have HSZ := Lib.hid (HZS.out.keep HI.out.bel)
          obtain ⟨g', hgg, hgl, hzc⟩ := HSZ.out.at_ (by omega)
          cases hgg
          have z0 := hzc (i - 1) hzl1
          have HZI := Lib.hid hzl
          generalize Z[i - 1] = z at *
          have hii : ((i : Int) - 1).toNat = i - 1 := by omega
          have hii0 : (0 : Int) ≤ (i : Int) - 1 := by omega
          have hwi : IntKind.i64.wrap ((i : Int) - 1) = (i : Int) - 1 := IntWalk.i64_in _ (by omega)
          clear hzc hzl HSZ hbx hsv hb1 hFam
          go_upto_region 36 with fail
          obtain ⟨N, hN⟩ : ∃ N, 2 * i - 1 = N := ⟨_, rfl⟩
          rw [hN] at hlen ⊢
          have hSl : (seqS A K).length = N := by have := seq_len HF.out; rw [HZL.out] at this; omega
          have hN20 : N ≤ 20 := by omega
          have HSL := Lib.hid hSl
          have HMEM := Lib.hid (fun (s : Sd) (hs : s ∈ seqS A K) => (by
            refine HI.out.has s ?_
            unfold seqS at hs
            rw [List.mem_append, List.mem_reverse] at hs
            exact hs : s ∈ L))
          have HLIN := Lib.hid (fun (s : Sd) (hs : s ∈ L) => (by
            unfold seqS
            rw [List.mem_append, List.mem_reverse]
            exact HI.out.mem s hs : s ∈ seqS A K))
          have HSIN := Lib.hid (fun r W (hb : Below wr.heap.size wr W) (s : Sd) (hs : s ∈ (seqS A K).take r) => (HI.out.ins s (HMEM.out s (List.mem_of_mem_take hs))).keep hb)
          have HRW := Lib.hid (fun W (hb : Below wr.heap.size wr W) => HR.out W (HBr.out.trans ((HI.out.bel.trans (hb.mono HI.out.bel.size)).mono HBr.out.size)))
          have HZM : Hid (z.size ≤ maxLen) := Lib.hid (by have := (valid_len (HZC.out.vl _ z HZI.out)).2.2; rw [tl_len] at this; unfold maxLen; omega)
          have CPT := Lib.hid (fun r kv W (hk : SlK kv ((seqS A K).take r) W) (hb : Below wr.heap.size wr W) => path_any kv ((seqS A K).take r) ⟨dotB, 6, 0, .slice sv0 1 sp0, [kD 0]⟩ z t d W hk (by rw [List.length_take, HSL.out]; unfold maxLen; omega) (HSV.out.keep hb) HZM.out (HRW.out W hb))
          have HPR := Lib.hid (fun (r : Nat) (s : Sd) (hs : (seqS A K)[r]? = some s) => seq_path HRA.out HZC.out HF.out (by rw [HZL.out]; omega) HT.out (by rw [HZL.out]; exact HZI.out) hs)
          have HPE := Lib.hid (seq_end HRA.out HZC.out HF.out (by rw [HZL.out]; omega) HT.out (by rw [HZL.out]; exact HZI.out))
          have HFK := Lib.hid (fun (r : Nat) (s : Sd) (hs : (seqS A K)[r]? = some s) => knownI_none (by rw [seq_find HZC.out HF.out hs r, if_neg (by omega)] : findK ((seqS A K).take r) s.x s.t = none))
          have HLK := Lib.hid (fun (r : Nat) (s : Sd) (hs : (seqS A K)[r]? = some s) W (hb : Below wr.heap.size wr W) => (by
            have hsL := HMEM.out s (List.mem_of_getElem? hs)
            have hst : (Lit.int .i64 s.t).wf = true := by
              rcases seq_facts HF.out hs with ⟨_, _, h⟩ | ⟨_, _, h⟩ <;> rw [h] <;> decide
            obtain ⟨kl, hkl⟩ := keyOfQ s.x s.t (HI.out.ins s hsL).hs.hx hst
            rcases (HI.out.map.keep hb).look keyedQ Tryd.underlying63 (zeroSdW W) hkl true with ⟨hno, _⟩ | ⟨v, hv, hrun⟩
            · exact absurd rfl (hno (entOf s) (List.mem_map.2 ⟨s, hsL, rfl⟩))
            · obtain ⟨u, huL, hu⟩ := List.mem_map.1 hv
              obtain ⟨j, hj⟩ := List.getElem?_of_mem (HLIN.out u huL)
              have h1 := congrArg Prod.fst hu
              have h2 : (entOf u).2 = v := congrArg Prod.snd hu
              simp only [entOf, Value.agg.injEq] at h1
              have h3 := congrArg Array.toList h1
              simp only [List.cons.injEq, Value.string.injEq, Value.int.injEq, true_and, and_true] at h3
              have hij := seq_inj HZC.out HF.out hj hs h3.1 h3.2
              subst hij
              rw [hs] at hj
              cases hj
              rw [hrun, ← h2]
              rfl : (Instr.lookup 63 (.map (some mb)) (.agg #[.string s.x, .int .i64 s.t]) true).run Tryd.prog W = .ok (.tuple #[.agg #[.string s.x, .int .i64 s.t, .int .i64 s.f, .slice s.p s.n s.c, .slice s.q s.m s.d], .bool true]) W))
          have HBW := Lib.hid (fun W (hb : Below wr.heap.size wr W) => (HBr.out.trans ((HI.out.bel.trans (hb.mono HI.out.bel.size)).mono HBr.out.size)))
          have HBA := Lib.hid (fun W (hb : Below wr.heap.size wr W) => ((hb.block ab (Array.getElem?_eq_some_iff.1 HBX.out).1).trans HBX.out))
          have HLAB := Lib.hid (Array.getElem?_eq_some_iff.1 HBX.out).1
          clear hlen z0 hSl hN HMEM HLIN HRA hii hii0 hwi hgl
          obtain ⟨W3, hW3⟩ : ∃ W, W = wr := ⟨_, rfl⟩
          subst hW3
          go_loopw [28, 183] (fun s28 s183 W => ∃ (r c : Nat) (p : Option Addr), r ≤ N ∧ s183 = .int .i64 r ∧ s28 = .slice p r c ∧ Hid (OwnW W3.heap.size s28 ((seqS A K).take r) W) ∧ Hid (Below W3.heap.size W3 W)) (fun _ s183 _ => N - (intOf s183).toNat)
          case atStart => exact ⟨0, 0, none, Nat.zero_le _, rfl, rfl, Lib.hid (ownW_nil _ _), Lib.hid (Below.refl _ _)⟩
          case round =>
            obtain ⟨r, c, p, hr, rfl, rfl, HO, HB⟩ := hrel
            have HBXr := Lib.hid (HBA.out _ HB.out)
            have a0 := cell_of_blk HBXr.out 0 (.string dotB) rfl
            have a1 := cell_of_blk HBXr.out 1 (.int .i64 6) rfl
            have a2 := cell_of_blk HBXr.out 2 (.int .i64 0) rfl
            have a3 := cell_of_blk HBXr.out 3 (.slice sv0 1 sp0) rfl
            have HSK := Lib.hid (HO.out.sl (HSIN.out r _ HB.out))
            by_cases hlt : r < N
            · have hrl : r < (seqS A K).length := by rw [HSL.out]; exact hlt
              have hs : (seqS A K)[r]? = some (seqS A K)[r] := List.getElem?_eq_getElem hrl
              have HLKr := Lib.hid (HLK.out r _ hs)
              have CPr := Lib.hid (CPT.out r (.slice p r c) wr HSK.out HB.out)
              rw [HPR.out r _ hs] at CPr
              unfold PathTo at CPr
              simp only at CPr
              have CKr := Lib.hid (fun W (hb : Below wr.heap.size wr W) => rknown_any (.slice p r c) ((seqS A K).take r) (seqS A K)[r].x (seqS A K)[r].t W (HSK.out.keep hb) (by rw [List.length_take, HSL.out]; unfold maxLen; omega))
              rw [HFK.out r _ hs] at CKr
              have HSN : Hid ((seqS A K).take (r + 1) = (seqS A K).take r ++ [(seqS A K)[r]]) := Lib.hid (by rw [List.take_add_one, hs]; rfl)
              generalize (seqS A K)[r] = s at *
              clear hs
              have hr1 : (r : Int) < (N : Int) := by omega
              have hr0 : (0 : Int) ≤ (r : Int) := by omega
              obtain ⟨x, k, fl, sp, sn, sc, sq, sm, sd, dl, gl⟩ := s
              simp only at HLKr CPr CKr
              go_wp2_with (first | (go_at_call 11; (with_reducible refine (CPr.out).mono ?_); rintro e w5 ⟨rfl, hb⟩; have HB5 := Lib.hid (hb.alloc hb.size (.cells #[.string x, .int .i64 k] 30)); have HBq := Lib.hid (HB.out.trans (HB5.out.mono HB.out.size)); have HB6q := Lib.hid (HB5.out.alloc HB5.out.size (.cells #[.string x, .int .i64 k, .int .i64 fl, .slice sp sn sc, .slice sq sm sd] 37)); have HBr := Lib.hid (HBq.out.alloc HBq.out.size (.cells #[.string x, .int .i64 k, .int .i64 fl, .slice sp sn sc, .slice sq sm sd] 37)); have HBs := Lib.hid (HBr.out.alloc HBr.out.size (.cells #[.string x, .int .i64 k, .int .i64 fl, .slice sp sn sc, .slice sq sm sd] 37)); have hlk := HLKr.out (w5.alloc (.cells #[.string x, .int .i64 k] 30)) HBq.out; have HQ5 : Hid ((w5.alloc (.cells #[.string x, .int .i64 k] 30)).heap[w5.heap.size]? = some (Obj.cells #[.string x, .int .i64 k] 30 (0, 0))) := Lib.hid (heap_alloc_new w5 _); have q0 := cell_of_blk HQ5.out 0 (.string x) rfl; have q1 := cell_of_blk HQ5.out 1 (.int .i64 k) rfl; have lq := (Array.getElem?_eq_some_iff.1 HQ5.out).1; clear hb a0 a1 a2 a3) | (go_at_call 23; (with_reducible refine (CKr.out _ HB6q.out).mono ?_); rintro e w' ⟨rfl, rfl⟩) | (at_builtin; refine append_W rfl (.tmp 216) (.tmp 218) rfl W3.heap.size (.slice p r c) rfl ((seqS A K).take r) (HO.out.keep HB6q.out) ⟨x, k, fl, sp, sn, sc, sq, sm, sd, dl, gl⟩ (w5.heap.size + 1 + 1) (by simp) rfl (by rw [List.length_take, HSL.out]; omega) HBr.out.size ?_; intro v6 w6 ho6 hg6; have HO6 := Lib.hid ho6; have HB6 : Hid (Below W3.heap.size W3 w6) := Lib.hid (HBs.out.grown hg6 HBs.out.size (fun k hk => (HO.out.lt k hk).1)); clear ho6 hg6))
              obtain ⟨g6, c6, hv6⟩ : ∃ g6 c6, v6 = .slice g6 (r + 1) c6 := by
                have h6 := (HO6.out.sl (l := (seqS A K).take r ++ [⟨x, k, fl, sp, sn, sc, sq, sm, sd, dl, gl⟩]) (w := w6) (fun s hs => by rw [← HSN.out] at hs; exact HSIN.out (r + 1) _ HB6.out s hs)).form
                obtain ⟨g6, c6, h6⟩ := h6
                refine ⟨g6, c6, ?_⟩
                rw [h6, ← HSN.out, List.length_take, HSL.out, Nat.min_eq_left (by omega)]
              subst hv6
              go_roundw
              case rel => exact ⟨r + 1, c6, g6, hlt, by go_num, rfl, Lib.hid (by rw [HSN.out]; exact HO6.out), HB6⟩
              case measure => simp [intOf]; omega
            · obtain rfl : r = N := by omega
              have ht := List.take_of_length_le (l := seqS A K) (i := r) (by rw [HSL.out]; exact Nat.le_refl _)
              have CPe := Lib.hid (CPT.out r (.slice p r c) wr HSK.out HB.out)
              rw [ht, HPE.out] at CPe
              obtain ⟨KK, hKK⟩ : ∃ k, kk (Z.length - 1) = k := ⟨_, rfl⟩
              rw [hKK] at CPe
              have HKK : Hid (KK = ((i : Int), 1 + ((i : Int) - 1) % 3)) := Lib.hid (by
                rw [← hKK, HZL.out]
                unfold kk
                rw [show ((i - 1 : Nat) : Int) = (i : Int) - 1 by omega, show (i : Int) - 1 + 1 = (i : Int) by omega])
              unfold PathTo at CPe
              simp only [List.length_singleton] at CPe
              have CSm := Lib.hid (fun (va vb : Value) (W : World) (ha : SlS va [KK] W) (hb : SlS vb [KK] W) => same_any ha hb (by simp [maxLen]))
              simp only [decide_true] at CSm
              have hii0 : (0 : Int) ≤ (i : Int) - 1 := by omega
              clear ht hKK HLK HFK HPR HPE CPT HSIN
              go_wp2_with (first | (go_at_call 11; (with_reducible refine (CPe.out).mono ?_); rintro e w5 ⟨⟨p5, c5, rfl, hs5, hl5⟩, hb⟩; have HB5 := Lib.hid ((hb.alloc hb.size (.cells #[.string ⟨#[]⟩, .int .i64 0] 30)).alloc (Nat.le_trans hb.size (by simp)) (.cells #[.int .i64 (i : Int), .int .i64 (1 + ((i : Int) - 1) % 3)] 44)); have HS5 := Lib.hid ((hs5.keep (bnewE w5 (.cells #[.string ⟨#[]⟩, .int .i64 0] 30))).keep (bnewE _ (.cells #[.int .i64 (i : Int), .int .i64 (1 + ((i : Int) - 1) % 3)] 44))); have HS6 : Hid (SlS (.slice (some ⟨w5.heap.size + 1, 0, none⟩) 1 1) [KK] ((w5.alloc (.cells #[.string ⟨#[]⟩, .int .i64 0] 30)).alloc (.cells #[.int .i64 (i : Int), .int .i64 (1 + ((i : Int) - 1) % 3)] 44))) := Lib.hid (slS_oneW KK _ _ (by have h := heap_alloc_new (w5.alloc (.cells #[.string ⟨#[]⟩, .int .i64 0] 30)) (.cells #[.int .i64 (i : Int), .int .i64 (1 + ((i : Int) - 1) % 3)] 44); rw [show (w5.alloc (.cells #[.string ⟨#[]⟩, .int .i64 0] 30)).heap.size = w5.heap.size + 1 by simp] at h; exact h) HKK.out); clear hb hs5 hl5 a0 a1 a2 a3) | (go_at_call 13; (with_reducible refine (CSm.out _ _ _ HS5.out HS6.out).mono ?_); rintro e w7 ⟨rfl, hb⟩; have HB7 := Lib.hid (HB5.out.trans (hb.mono HB5.out.size)); clear hb))
              go_ret
              exact ⟨rfl, HBW.out _ (HB.out.trans (HB7.out.mono HB.out.size))⟩
end Go.Proofs.YtkhckgknldiheaaDoor

namespace Go.Proofs.YtkhckgknldiheaaDoor
set_option linter.unusedSimpArgs false
set_option linter.unusedVariables false
open Go.ChangeShapes Go.WideShapes Go.ChangeAt Go.RowKit Go.Joins Go.Shelf Go.Deep
set_option maxRecDepth 100000
open NmP SpP

/-- A slice of texts that was read. -/
theorem open_strs {H : Type} {enc : TypeId × Value → H} {W : World} {base b0 : Nat} {r : Reach} {spare : Nat → Bool} {held : Bool} {v : Value} {d : DataW H} {p : List MemPlace} (hv : Value.okWide Tryd.prog W r b0 59 v) (h : DataW.Trod enc Tryd.prog W base spare held 59 v d p) :
    ∃ L : List ByteArray, SlY v L W ∧ L.length ≤ maxLen ∧ ∀ x ∈ L, x.size ≤ maxLen := by
  obtain ⟨fuel, h⟩ := h
  have hvc : v.cells.toList = [v] := by
    obtain ⟨a0, len0, cap0, rfl⟩ := okWide_slice Tryd.underlying59 hv
    rfl
  rw [hvc] at h
  rcases Go.Deep.open_slice1 Tryd.underlying59 (by kernel_rfl) h with h0 | ⟨a, len, cap, m, n, V, D, Pl, hcs, hb, hl, hm, hmm, hx, hi⟩
  · have h1 := h0.1
    simp only [List.cons.injEq, and_true] at h1
    subst h1
    exact ⟨[], .inl ⟨rfl, none, 0, rfl⟩, Nat.zero_le _, fun x hx => absurd hx List.not_mem_nil⟩
  · simp only [List.cons.injEq, and_true] at hcs
    subst hcs
    have hs : ∀ i, i < len → ∃ s : ByteArray, s.size ≤ maxLen ∧ W.cell? (a.add i) = some (.string s) := fun i hil => by
      have him : i < m := by rw [hmm]; split <;> omega
      obtain ⟨hc, ht⟩ := hi i him
      obtain ⟨s, e0, _, hsz⟩ := DataW.trod_string Tryd.underlying9 ht
      simp only [List.cons.injEq, and_true] at e0
      rw [e0] at hc
      exact ⟨s, hsz, hc⟩
    have hch : ∀ n, n ≤ len → ∃ L : List ByteArray, L.length = n ∧ (∀ x ∈ L, x.size ≤ maxLen) ∧ ∀ (j : Nat) (hj : j < L.length), W.cell? (a.add j) = some (.string L[j]) := fun n => by
      induction n with
      | zero => exact fun _ => ⟨[], rfl, fun x hx => absurd hx List.not_mem_nil, fun j hj => absurd hj (Nat.not_lt_zero _)⟩
      | succ n ih =>
        intro hn
        obtain ⟨L, h1, h2, h3⟩ := ih (by omega)
        obtain ⟨s, k1, k2⟩ := hs n (by omega)
        refine ⟨L ++ [s], by simp [h1], fun x hx => ?_, fun j hj => ?_⟩
        · rcases List.mem_append.1 hx with hx | hx
          · exact h2 x hx
          · rw [List.mem_singleton.1 hx]
            exact k1
        · by_cases hjl : j < L.length
          · rw [List.getElem_append_left hjl]
            exact h3 j hjl
          · simp only [List.length_append, List.length_singleton] at hj
            obtain rfl : j = L.length := by omega
            rw [List.getElem_append_right (Nat.le_refl _)]
            simp only [Nat.sub_self, List.getElem_cons_zero]
            rw [h1]
            exact k2
    obtain ⟨L, h1, h2, h3⟩ := hch len (Nat.le_refl _)
    refine ⟨L, ?_, by omega, h2⟩
    by_cases h0 : len = 0
    · subst h0
      exact .inl ⟨List.eq_nil_of_length_eq_zero h1, _, _, rfl⟩
    · obtain ⟨b, off, spot⟩ := a
      have q0 := h3 0 (by omega)
      have hspot : spot = none := by simpa [Addr.add] using World.cell?_spot q0
      subst hspot
      have hbl : b < W.heap.size := by
        have := World.block_lt_of_cell? W _ q0
        simpa [Addr.add] using this
      refine .inr ⟨b, off, cap, by rw [h1], hbl, fun j hj => ?_⟩
      have := h3 j hj
      rw [Go.WideShapes.add_plain] at this
      exact this
end Go.Proofs.YtkhckgknldiheaaDoor
