/- The contract of write of package sign: the digest of bytes goes on over further bytes; no condition beyond those that each theorem names. -/
import Derived.Test.YtkhckgknldiheaaDoorB2
import Derived.Laws.BitsAllLaws
import Derived.Laws.Bits64
namespace Go.Proofs.YtkhckgknldiheaaDoor
set_option linter.unusedSimpArgs false
set_option linter.unusedVariables false
open Go.RowKit
open NmP

/-- Values that are bytes. -/
def IsB (xs : List Value) : Prop := ∀ v ∈ xs, ∃ m : Nat, m < 256 ∧ v = .int .u8 m
/-- One byte more. -/
def stepN (h c : Nat) : Nat := (h ^^^ c) * 1099511628211 % 18446744073709551616
def byteOf : Value → Nat
  | .int _ c => c.toNat
  | _ => 0
def digN (h : Nat) (xs : List Value) : Nat := xs.foldl (fun h v => stepN h (byteOf v)) h
theorem stepN_lt (h c : Nat) : stepN h c < 18446744073709551616 := by unfold stepN; exact Nat.mod_lt _ (by decide)
theorem digN_cons (h : Nat) (v : Value) (r : List Value) : digN h (v :: r) = digN (stepN h (byteOf v)) r := rfl
theorem digN_lt (xs : List Value) : ∀ (h : Nat), h < 18446744073709551616 → digN h xs < 18446744073709551616 := by
  induction xs with
  | nil => intro h hh; exact hh
  | cons v r ih => intro h hh; rw [digN_cons]; exact ih _ (stepN_lt _ _)
theorem digN_append (a b : List Value) : ∀ h : Nat, digN h (a ++ b) = digN (digN h a) b := by
  induction a with
  | nil => intro h; rfl
  | cons v r ih => intro h; rw [List.cons_append, digN_cons, digN_cons, ih]
theorem digN_nil (h : Nat) : digN h [] = h := rfl
theorem digN_snoc (h : Nat) (a : List Value) (v : Value) : digN h (a ++ [v]) = stepN (digN h a) (byteOf v) := by rw [digN_append, digN_cons, digN_nil]
theorem isB_append {a b : List Value} (h : IsB a) (k : IsB b) : IsB (a ++ b) := fun v hv => by
  rcases List.mem_append.1 hv with h1 | h1
  · exact h v h1
  · exact k v h1
theorem isB_cells (s : ByteArray) : IsB (Lib.strCells s) := fun v hv => by
  simp only [Lib.strCells, List.mem_map] at hv
  obtain ⟨b, _, rfl⟩ := hv
  exact ⟨b.toNat, b.toNat_lt, rfl⟩
theorem isB_num (m : Nat) : IsB (numC m) := fun v hv => by
  simp only [numC, List.mem_map] at hv
  obtain ⟨k, _, rfl⟩ := hv
  exact ⟨_, Nat.mod_lt _ (by omega), rfl⟩
theorem isB_one (m : Nat) (h : m < 256) : IsB [.int .u8 m] := fun v hv => by
  simp only [List.mem_singleton] at hv
  exact ⟨m, h, hv⟩
theorem isB_text (s : ByteArray) (h : s.size < 256) : IsB (textC s) := fun v hv => by
  rcases List.mem_cons.1 hv with rfl | hv
  · exact ⟨s.size, h, rfl⟩
  · exact isB_cells s v hv
theorem isB_flat : ∀ (l : List Dt), (∀ d ∈ l, d.1.size < 256) → IsB (l.flatMap datC)
  | [], _ => fun v hv => absurd hv List.not_mem_nil
  | d :: r, h => by
    rw [List.flatMap_cons]
    exact isB_append (isB_append (isB_append (isB_text _ (h d List.mem_cons_self)) (isB_num _)) (isB_num _)) (isB_flat r (fun e he => h e (List.mem_cons_of_mem _ he)))
theorem isB_set (x : ByteArray) (t lf : Nat) (l : List Dt) (hx : x.size < 256) (hl : l.length < 256) (hd : ∀ d ∈ l, d.1.size < 256) : IsB (setC x t lf l) :=
  isB_append (isB_append (isB_append (isB_append (isB_text _ hx) (isB_num _)) (isB_num _)) (isB_one _ hl)) (isB_flat l hd)

/-- A slice whose cells are the values xs, in another block than q. -/
def SlV (q : Nat) (v : Value) (xs : List Value) (W : World) : Prop := (xs = [] ∧ ∃ p c, v = .slice p 0 c) ∨ ∃ g off c, v = .slice (some ⟨g, off, none⟩) xs.length c ∧ g ≠ q ∧ ∀ (j : Nat) (u : Value), xs[j]? = some u → W.cell? ⟨g, off + j, none⟩ = some u
theorem SlV.form {q : Nat} {v : Value} {xs : List Value} {W : World} (h : SlV q v xs W) : ∃ p c, v = .slice p xs.length c := by
  rcases h with ⟨h, p, c, h2⟩ | ⟨g, off, c, h1, _⟩
  · exact ⟨p, c, by rw [h2, h]; rfl⟩
  · exact ⟨_, c, h1⟩
theorem SlV.at_ {q : Nat} {p : Option Addr} {n c : Nat} {xs : List Value} {W : World} (h : SlV q (.slice p n c) xs W) (h1 : 0 < xs.length) : ∃ g off, p = some ⟨g, off, none⟩ ∧ g ≠ q ∧ ∀ (j : Nat) (u : Value), xs[j]? = some u → W.cell? ⟨g, off + j, none⟩ = some u := by
  rcases h with ⟨h, _⟩ | ⟨g, off, c, h2, h3⟩
  · rw [h] at h1; cases h1
  · cases h2; exact ⟨g, off, rfl, h3⟩
/-- The box of a digest. -/
def DigAt (q h : Nat) (W : World) : Prop := W.heap[q]? = some (Obj.cells #[.int .u64 h] 119 (0, 0))
/-- A call that goes on with a digest, and changes nothing else that was there. -/
def DigTo (q h : Nat) (w : World) (e : Ending) (w' : World) : Prop := e = .returned (.tuple #[]) ∧ DigAt q h w' ∧ w.grownBy w' (some q)
theorem grown_refl (w : World) (r : Option Nat) : w.grownBy w r := ⟨rfl, rfl, rfl, Nat.le_refl _, fun _ _ _ => rfl⟩
theorem grown_trans {a b c : World} {r : Option Nat} (h : a.grownBy b r) (k : b.grownBy c r) : a.grownBy c r :=
  ⟨k.os.trans h.os, k.tape.trans h.tape, k.output.trans h.output, Nat.le_trans h.size k.size, fun i h1 h2 => (k.block i (Nat.lt_of_lt_of_le h1 h.size) h2).trans (h.block i h1 h2)⟩
theorem grown_set (w : World) (r j : Nat) (v : Value) : w.grownBy (w.setCell ⟨r, j, none⟩ v) (some r) :=
  ⟨rfl, rfl, rfl, by simp, fun k _ h => heap_setCell_other w ⟨r, j, none⟩ k v (fun e => h (by simp [e]))⟩
theorem grown_alloc (w : World) (o : Obj) (r : Option Nat) : w.grownBy (w.alloc o) r :=
  ⟨rfl, rfl, rfl, by simp, fun k hk _ => heap_alloc_old w o hk⟩
theorem xor_lt (V c : Nat) (hV : V < 18446744073709551616) (hc : c < 256) : V ^^^ c < 18446744073709551616 := Nat.xor_lt_two_pow (n := 64) hV (by omega)
theorem step_eq (V c : Nat) (hV : V < 18446744073709551616) (hc : c < 256) : IntKind.u64.wrap (bits BinOp.xor IntKind.u64 (V : Int) (c : Int) * 1099511628211) = (stepN V c : Int) := by
  rw [u64_xor_nat V c hV (by omega), IntKind.wrap_u64]
  unfold stepN
  generalize V ^^^ c = y
  omega
theorem DigAt.set {q h k : Nat} {w : World} (hd : DigAt q h w) : DigAt q k (w.setCell ⟨q, 0, none⟩ (.int .u64 k)) := heap_setCell_same w q 0 _ _ (.int .u64 k) hd

set_option maxHeartbeats 1000000 in
set_option maxRecDepth 100000 in
theorem write_any (q h : Nat) (v : Value) (xs : List Value) (w : World) (hd : DigAt q h w) (hh : h < 18446744073709551616) (hv : SlV q v xs w) (hb : IsB xs) (hn : xs.length ≤ 1000000) :
    Calls Tryd.prog 82 #[.pointer (some ⟨q, 0, none⟩), v] w (DigTo q (digN h xs) w) := by
  obtain ⟨p, c, rfl⟩ := hv.form
  obtain ⟨n, hln⟩ : ∃ n, xs.length = n := ⟨_, rfl⟩
  rw [hln] at hv hn ⊢
  have HL := Lib.hid hln
  have HV := Lib.hid hv
  have HD := Lib.hid hd
  have HB := Lib.hid hb
  clear hv hd hb hln
  go_enter Tryd.func82, Tryd.ntmps82
  go_wp2
  go_loopw [8] (fun s8 wr => ∃ i : Nat, i ≤ n ∧ s8 = .int .i64 i ∧ Hid (DigAt q (digN h (xs.take i)) wr) ∧ Hid (w.grownBy wr (some q))) (fun s8 _ => n - (intOf s8).toNat)
  case atStart => exact ⟨0, Nat.zero_le _, rfl, HD, Lib.hid (grown_refl _ _)⟩
  case round =>
    obtain ⟨i, hi, rfl, H1, H2⟩ := hrel
    by_cases hlt : i < n
    · have ia : i < xs.length := by rw [HL.out]; exact hlt
      have ga : xs[i]? = some xs[i] := List.getElem?_eq_getElem ia
      obtain ⟨g, off, rfl, hg, hc⟩ := HV.out.at_ (by omega)
      have z := hc i _ ga
      have hgl := World.block_lt_of_cell? w _ z
      rw [← World.cell?_of_block (w' := wr) (a := ⟨g, off + i, none⟩) (H2.out.block g hgl (by simp; exact hg))] at z
      have HT : Hid (digN h (xs.take (i + 1)) = stepN (digN h (xs.take i)) (byteOf xs[i])) := Lib.hid (by rw [List.take_add_one, ga]; exact digN_snoc _ _ _)
      obtain ⟨m, hm, hx⟩ := HB.out xs[i] (List.getElem_mem ia)
      rw [hx] at z HT
      have hbo : byteOf (.int .u8 (m : Int)) = m := rfl
      rw [hbo] at HT
      have hV := digN_lt (xs.take i) h hh
      have hblk := H1.out
      unfold DigAt at hblk
      generalize digN h (xs.take i) = V at *
      have c0 := cell_of_blk hblk 0 (.int .u64 V) rfl
      have f0 : wr.frozen? ⟨q, 0, none⟩ = false := by simp [World.frozen?, hblk]
      have HBk := Lib.hid hblk
      clear hblk ga hc hx hbo
      have hi1 : (i : Int) < (n : Int) := by omega
      have HSt := Lib.hid (step_eq V m hV hm)
      go_wp2
      go_roundw
      case rel =>
        rw [HSt.out]
        exact ⟨i + 1, hlt, by go_num, Lib.hid (by rw [HT.out]; exact DigAt.set H1.out), Lib.hid (grown_trans H2.out (grown_set _ _ _ _))⟩
      case measure =>
        simp [intOf]
        omega
    · obtain rfl : i = n := by omega
      have h1 := H1.out
      rw [List.take_of_length_le (by have := HL.out; omega)] at h1
      have HE := Lib.hid h1
      clear h1
      go_wp2
      go_end0
      exact ⟨rfl, HE.out, H2.out⟩
end Go.Proofs.YtkhckgknldiheaaDoor
