/- The contracts of text and number of package record: bytes that are put behind bytes that the call owns; no condition beyond those that each theorem names. -/
import Derived.Test.YtkhckgknldiheaaDoorN2
import Derived.Lib.BufSteps
namespace Go.Proofs.YtkhckgknldiheaaDoor
set_option linter.unusedSimpArgs false
set_option linter.unusedVariables false
open Go.RowKit
open NmP

theorem info_parts {T : TypeId} {z : Value} {s b : Nat} (h : (Tryd.prog.info? T).map (fun i => (i.zero, i.size, i.bytes)) = some (some z, s, b)) : ∃ i, Tryd.prog.info? T = some i ∧ i.zero = some z ∧ i.size = s ∧ i.bytes = b := by
  obtain ⟨i, h1, h2⟩ := Option.map_eq_some_iff.1 h
  simp only [Prod.mk.injEq] at h2
  exact ⟨i, h1, h2.1, h2.2.1, h2.2.2⟩
theorem infoB : (Tryd.prog.info? 5).map (fun i => (i.zero, i.size, i.bytes)) = some (some (.int .u8 0), 1, 1) := by kernel_rfl
/-- Blocks that hold other things than bytes stay. -/
def KeepNB (w w' : World) : Prop := ∀ (k : Nat) (cs : Array Value) (t : TypeId) (fr : Nat × Nat), t ≠ 5 → w.heap[k]? = some (Obj.cells cs t fr) → w'.heap[k]? = some (Obj.cells cs t fr)
theorem KeepNB.refl (w : World) : KeepNB w w := fun _ _ _ _ _ h => h
theorem KeepNB.trans {a b c : World} (h : KeepNB a b) (k : KeepNB b c) : KeepNB a c := fun i cs t fr ht hi => k i cs t fr ht (h i cs t fr ht hi)
theorem KeepNB.alloc {a b : World} (h : KeepNB a b) (o : Obj) : KeepNB a (b.alloc o) := fun i cs t fr ht hi => by
  have h1 := h i cs t fr ht hi
  have h2 := (Array.getElem?_eq_some_iff.1 h1).1
  rw [← h1]
  exact heap_alloc_old b o h2
theorem KeepNB.drewN {a b : World} (h : KeepNB a b) (q : Nat) : KeepNB a (b.drewN q) := h
theorem KeepNB.of_below {w w' : World} (h : Below w.heap.size w w') : KeepNB w w' := fun i cs t fr ht hi => by
  rw [h.block i (Array.getElem?_eq_some_iff.1 hi).1]; exact hi
theorem keepNB_grown {B n : Nat} {v : Value} {xs : List Value} {w w' : World} (h : w.ownsRowF B 5 1 v n xs) (hg : w.grownBy w' v.ownBlock) : KeepNB w w' := fun k cs t fr ht hi => by
  rw [hg.block k (Array.getElem?_eq_some_iff.1 hi).1 ?_]
  · exact hi
  · intro hk
    rcases h.2 with ⟨rfl, _⟩ | ⟨g, cap, cur, fz, rfl, _, h3, _⟩
    · cases hk
    · simp only [Value.ownBlock, Option.some.injEq] at hk
      subst hk
      rw [hi] at h3
      simp only [Option.some.injEq, Obj.cells.injEq] at h3
      exact ht h3.2.1
section
variable {P : Program}
theorem append_byte {ops : Array Oper} {rest : List Oper} {o : Oper} {a : Act} {Q : Exit → Act → World → Prop} (hgd : o.guard = none) (s x : Operand) (t : TypeId)
    (ho : o.op = .call { callee := .builtin .append, args := #[s, x], argTypes := #[t, t] })
    (B : Nat) (i : TypeInfo) (ht : P.underlying t = some (.slice 5)) (hi : P.info? 5 = some i) (hz : i.zero = some (.int .u8 0)) (hsize : i.size = 1) (hby : i.bytes = 1)
    (v : Value) (n : Nat) (xs : List Value) (hs : a.eval s = v) (W0 w0 : World) (c : Int) (hb : Lib.OwnBuf B 5 v n xs W0 w0)
    (hx : a.eval x = .slice (some ⟨w0.heap.size, 0, none⟩) 1 1) (hlen : n + 1 ≤ 140737488355328)
    (h : ∀ v' w', Lib.OwnBuf B 5 v' (n + 1) (xs ++ [.int .u8 c]) W0 w' → KeepNB w0 w' → wpList P ops Q rest (a.put o.dst v') w') : wpList P ops Q (o :: rest) a (w0.alloc (.cells #[.int .u8 c] 5)) := by
  have hb' := hb.alloc (.cells #[.int .u8 c] 5)
  refine wpList_append_ownF _ hgd s x t ho B 5 i (.int .u8 0) 1 1 ht hi hz hsize hby rfl (by decide) v n xs hs hb'.1 ⟨w0.heap.size, 0, none⟩ 1 1 [.int .u8 c] hx rfl ?_ ?_ (by unfold maxLen; omega) (by omega) hb'.2.2 ?_
  · intro j u hj
    match j, hj with
    | 0, hj => simp at hj; subst hj; simp [Addr.add]
    | (j + 1), hj => simp at hj
  · intro u hu; simp at hu; subst hu; rfl
  · intro v' w' ho' hg _
    exact h v' w' (hb'.grown ho' hg) (((KeepNB.refl w0).alloc _).trans (keepNB_grown hb'.1 hg))
theorem append_text {ops : Array Oper} {rest : List Oper} {o : Oper} {a : Act} {Q : Exit → Act → World → Prop} {w : World} (hgd : o.guard = none) (sl x : Operand) (t u : TypeId)
    (ho : o.op = .call { callee := .builtin .append, args := #[sl, x], argTypes := #[t, u] })
    (B : Nat) (i : TypeInfo) (ht : P.underlying t = some (.slice 5)) (hu : P.underlying u = some .string) (hi : P.info? 5 = some i) (hz : i.zero = some (.int .u8 0)) (hsize : i.size = 1) (hby : i.bytes = 1)
    (v : Value) (n : Nat) (xs : List Value) (hs : a.eval sl = v) (W0 : World) (hb : Lib.OwnBuf B 5 v n xs W0 w) (s : ByteArray) (hx : a.eval x = .string s) (hlen : n + s.size ≤ 140737488355328)
    (h : ∀ v' w', Lib.OwnBuf B 5 v' (n + s.size) (xs ++ Lib.strCells s) W0 w' → KeepNB w w' → wpList P ops Q rest (a.put o.dst v') w') : wpList P ops Q (o :: rest) a w := by
  refine Lib.wpList_append_own_stringF w hgd sl x t u ho B 5 i ht hu hi hz hsize hby v n xs hs hb.1 s hx (by unfold maxLen; omega) hlen hb.2.2 ?_
  intro v' w' ho' hg _
  exact h v' w' (hb.grown ho' hg) (keepNB_grown hb.1 hg)
end
/-- A call that ends with a slice of bytes that it owns. -/
def BufTo (B n : Nat) (xs : List Value) (W0 w : World) (e : Ending) (w' : World) : Prop := ∃ v', e = .returned v' ∧ Lib.OwnBuf B 5 v' n xs W0 w' ∧ KeepNB w w'
/-- The cells of a text: its length, and its bytes. -/
def textC (s : ByteArray) : List Value := .int .u8 s.size :: Lib.strCells s

set_option maxHeartbeats 1000000 in
set_option maxRecDepth 100000 in
theorem text_any (B n : Nat) (v : Value) (xs : List Value) (W0 w : World) (s : ByteArray) (hb : Lib.OwnBuf B 5 v n xs W0 w) (hn : n ≤ 100000) (hs : s.size ≤ 255) :
    Calls Tryd.prog 79 #[v, .string s] w (BufTo B (n + 1 + s.size) (xs ++ textC s) W0 w) := by
  obtain ⟨i0, hi0, hz0, hz1, hz2⟩ := info_parts infoB
  have HI := Lib.hid hi0
  have HZ0 := Lib.hid hz0
  have HZ1 := Lib.hid hz1
  have HZ2 := Lib.hid hz2
  have HB := Lib.hid hb
  clear hi0 hz0 hz1 hz2 hb
  go_enter Tryd.func79, Tryd.ntmps79
  go_wp2_with (first | (at_builtin; refine append_byte rfl (.tmp 5) (.tmp 9) 94 rfl B i0 Tryd.underlying94 HI.out HZ0.out HZ1.out HZ2.out v n xs rfl W0 w s.size HB.out rfl (by omega) (fun v2 w2 hb2 hk2 => ?_); have HB2 := Lib.hid hb2; have HK2 := Lib.hid hk2; clear hb2 hk2) | (at_builtin; refine append_text rfl (.tmp 10) (.tmp 11) 94 9 rfl B i0 Tryd.underlying94 Tryd.underlying9 HI.out HZ0.out HZ1.out HZ2.out v2 (n + 1) (xs ++ [.int .u8 s.size]) rfl W0 HB2.out s rfl (by omega) (fun v3 w3 hb3 hk3 => ?_); have HB3 := Lib.hid hb3; have HK3 := Lib.hid hk3; clear hb3 hk3))
  go_ret
  exact ⟨_, rfl, by have := HB3.out; rwa [List.append_assoc] at this, HK2.out.trans HK3.out⟩
/-- The cells of a number: 8 bytes. -/
def numB (m k : Nat) : Value := .int .u8 ((m / 2 ^ (56 - 8 * k) % 256 : Nat) : Int)
def numC (m : Nat) : List Value := (List.range 8).map (numB m)

theorem numB_eq (m k : Nat) : numB m k = .int .u8 ((m : Int) / 2 ^ (56 - 8 * k) % 256) := by unfold numB; congr 1
theorem numC_take (m k : Nat) (h : k < 8) : (numC m).take (k + 1) = (numC m).take k ++ [numB m k] := by
  unfold numC
  rw [List.take_add_one, List.getElem?_map, List.getElem?_range h]; rfl

set_option maxHeartbeats 1000000 in
set_option maxRecDepth 100000 in
theorem number_any (B n : Nat) (v : Value) (xs : List Value) (W0 w : World) (m : Nat) (hb : Lib.OwnBuf B 5 v n xs W0 w) (hn : n ≤ 100000) (hm : m < 9223372036854775808) :
    Calls Tryd.prog 80 #[v, .int .i64 m] w (BufTo B (n + 8) (xs ++ numC m) W0 w) := by
  obtain ⟨i0, hi0, hz0, hz1, hz2⟩ := info_parts infoB
  have HI := Lib.hid hi0
  have HZ0 := Lib.hid hz0
  have HZ1 := Lib.hid hz1
  have HZ2 := Lib.hid hz2
  have HB := Lib.hid hb
  clear hi0 hz0 hz1 hz2 hb
  go_enter Tryd.func80, Tryd.ntmps80
  go_wp2
  go_loopw [0, 5] (fun s0 s5 wr => ∃ k : Nat, k ≤ 8 ∧ s5 = .int .i64 (56 - 8 * (k : Int)) ∧ Hid (Lib.OwnBuf B 5 s0 (n + k) (xs ++ (numC m).take k) W0 wr) ∧ Hid (KeepNB w wr)) (fun s0 s5 _ => (intOf s5 + 8).toNat)
  case atStart => exact ⟨0, by omega, rfl, Lib.hid (by simpa using HB.out), Lib.hid (KeepNB.refl w)⟩
  case round =>
    obtain ⟨k, hk, rfl, HK, HN⟩ := hrel
    by_cases hlt : k < 8
    · go_wp2_with (at_builtin; refine append_byte rfl (.tmp 10) (.tmp 16) 94 rfl B i0 Tryd.underlying94 HI.out HZ0.out HZ1.out HZ2.out u0 (n + k) (xs ++ (numC m).take k) rfl W0 wr _ HK.out rfl (by omega) (fun v2 w2 hb2 hk2 => ?_); rw [← numB_eq, List.append_assoc, ← numC_take m k hlt] at hb2; have HB2 := Lib.hid hb2; have HK2 := Lib.hid (HN.out.trans hk2); clear hb2 hk2)
      go_roundw
      case rel => exact ⟨k + 1, by omega, by congr 1; omega, HB2, HK2⟩
      case measure =>
        simp [intOf]
        omega
    · obtain rfl : k = 8 := by omega
      go_wp2
      go_ret
      exact ⟨_, rfl, HK.out, HN.out⟩
end Go.Proofs.YtkhckgknldiheaaDoor
