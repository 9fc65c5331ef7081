/- The contract of Split of the reference implementation of names: the parts of a text between its dots; no condition beyond those that the theorem names. -/
import Derived.Test.YtkhckgknldiheaaDoorVL
import Derived.Test.YtkhckgknldiheaaDoorNU
import Derived.Test.YtkhckgknldiheaaDoorB2
import Derived.BigRegion
import Derived.Laws.AppendOwn
import Derived.Lib.BufSteps
namespace Go.Proofs.YtkhckgknldiheaaDoor
set_option linter.unusedSimpArgs false
set_option linter.unusedVariables false
open Go.RowKit
open NmP

theorem splitF_snoc_dot (a : Bs) : splitF (a ++ [46]) = splitF a ++ [[]] := by
  have := splitF_dot a []
  simpa [splitF] using this
theorem splitF_le : ∀ (l : Bs) (x : Bs), x ∈ splitF l → x.length ≤ l.length
  | [], x, h => by
    have h2 : x ∈ [([] : Bs)] := h
    simp at h2
    subst h2
    exact Nat.le_refl _
  | c :: t, x, h => by
    rw [splitF_cons] at h
    have ih := splitF_le t
    by_cases hc : c = 46
    · rw [if_pos hc] at h
      rcases List.mem_cons.1 h with rfl | h
      · exact Nat.zero_le _
      · have := ih x h
        simp; omega
    · rw [if_neg hc] at h
      cases hs : splitF t with
      | nil => exact absurd hs (splitF_ne t)
      | cons a r =>
        rw [hs] at h ih
        simp only [List.headD_cons, List.tail_cons] at h
        rcases List.mem_cons.1 h with rfl | h
        · have := ih a List.mem_cons_self
          simp; omega
        · have := ih x (List.mem_cons_of_mem _ h)
          simp; omega
theorem snoc_of {α : Type} {l : List α} (h : l ≠ []) : ∃ I y, l = I ++ [y] := ⟨_, _, (List.dropLast_concat_getLast h).symm⟩
theorem splitF_snoc (c : UInt8) (hc : c ≠ 46) : ∀ (a : Bs) (I : List Bs) (y : Bs), splitF a = I ++ [y] → splitF (a ++ [c]) = I ++ [y ++ [c]]
  | [], I, y, h => by
    have h2 : ([] : List Bs) ++ [[]] = I ++ [y] := h
    obtain ⟨h3, h4⟩ := List.append_inj' h2 rfl
    simp only [List.cons.injEq, and_true] at h4
    subst h3; subst h4
    simp [splitF, hc]
  | d :: t, I, y, h => by
    obtain ⟨I', y', ht⟩ := snoc_of (splitF_ne t)
    have ih := splitF_snoc c hc t I' y' ht
    rw [List.cons_append, splitF_cons, ih]
    rw [splitF_cons, ht] at h
    by_cases hd : d = 46
    · rw [if_pos hd] at h ⊢
      have h2 : ([] :: I') ++ [y'] = I ++ [y] := h
      obtain ⟨h3, h4⟩ := List.append_inj' h2 rfl
      simp only [List.cons.injEq, and_true] at h4
      subst h3; subst h4
      rfl
    · rw [if_neg hd] at h ⊢
      cases I' with
      | nil =>
        have h2 : ([] : List Bs) ++ [d :: y'] = I ++ [y] := h
        obtain ⟨h3, h4⟩ := List.append_inj' h2 rfl
        simp only [List.cons.injEq, and_true] at h4
        subst h3; subst h4
        rfl
      | cons i I'' =>
        have h2 : ((d :: i) :: I'') ++ [y'] = I ++ [y] := h
        obtain ⟨h3, h4⟩ := List.append_inj' h2 rfl
        simp only [List.cons.injEq, and_true] at h4
        subst h3; subst h4
        rfl

/-- Texts as lists of bytes. -/
def tlz (L : List ByteArray) : List Bs := L.map (·.toList)
/-- A row of texts that a call owns. -/
def strV (s : ByteArray) : Value := .string s
def StrBuf (B : Nat) (v : Value) (L : List ByteArray) (W0 w : World) : Prop := w.ownsRow B 9 1 v L.length (L.map strV) ∧ Below B W0 w ∧ B ≤ w.heap.size
theorem StrBuf.grown {B : Nat} {v v' : Value} {L L' : List ByteArray} {W0 w w' : World} (h : StrBuf B v L W0 w) (ho : w'.ownsRow B 9 1 v' L'.length (L'.map strV)) (hg : w.grownBy w' v.ownBlock) : StrBuf B v' L' W0 w' :=
  ⟨ho, h.2.1.grown hg h.2.2 (fun k hk => (h.1.lt k hk).1), Nat.le_trans h.2.2 hg.size⟩
theorem StrBuf.alloc {B : Nat} {v : Value} {L : List ByteArray} {W0 w : World} (h : StrBuf B v L W0 w) (o : Obj) : StrBuf B v L W0 (w.alloc o) :=
  ⟨h.1.alloc o, h.2.1.alloc h.2.2 o, Nat.le_trans h.2.2 ((Below.refl 0 w).alloc (Nat.zero_le _) o).size⟩
theorem StrBuf.drewN {B : Nat} {v : Value} {L : List ByteArray} {W0 w : World} (h : StrBuf B v L W0 w) (q : Nat) : StrBuf B v L W0 (w.drewN q) :=
  ⟨h.1, below_drewD h.2.1 q, h.2.2⟩
theorem StrBuf.make (w : World) (s : ByteArray) : StrBuf w.heap.size (.slice (some ⟨w.heap.size, 0, none⟩) 1 1) [s] w (w.alloc (.cells #[.string s] 9)) :=
  ⟨⟨rfl, .inr ⟨w.heap.size, 1, #[.string s], rfl, Nat.le_refl _, heap_alloc_new w _, Nat.le_refl _, by decide, rfl, rfl⟩⟩, (Below.refl _ w).alloc (Nat.le_refl _) _, by simp⟩
/-- Where its last text lies, and what a store there leaves. -/
theorem StrBuf.last {B : Nat} {v : Value} {I : List ByteArray} {y : ByteArray} {W0 w : World} (h : StrBuf B v (I ++ [y]) W0 w) :
    ∃ g c, v = .slice (some ⟨g, 0, none⟩) (I.length + 1) c ∧ g < w.heap.size ∧ w.cell? ⟨g, I.length, none⟩ = some (.string y) ∧ w.frozen? ⟨g, I.length, none⟩ = false ∧
      ∀ z : ByteArray, StrBuf B v (I ++ [z]) W0 (w.setCell ⟨g, I.length, none⟩ (.string z)) := by
  obtain ⟨⟨hl, h1⟩, h2, h3⟩ := h
  rcases h1 with ⟨_, h1⟩ | ⟨g, cap, cur, rfl, hb, hg, hn, hc, hs, ht⟩
  · simp at h1
  have hlen : (I ++ [y]).length = I.length + 1 := by simp
  rw [hlen] at hn ht ⊢
  have hsz : I.length < cur.size := by omega
  have ht2 : cur.toList.take (I.length + 1) = I.map strV ++ [strV y] := by
    rw [Nat.mul_one] at ht
    rw [ht, List.map_append]; rfl
  have hcell : cur[I.length]? = some (.string y) := by
    have := congrArg (·[I.length]?) ht2
    simp only [List.getElem?_take, Nat.lt_succ_self, if_true] at this
    rw [Array.getElem?_toList] at this
    rw [this, List.getElem?_append_right (by simp)]
    simp [strV]
  refine ⟨g, cap, rfl, (Array.getElem?_eq_some_iff.1 hg).1, cell_of_blk hg _ _ hcell, by simp [World.frozen?, hg], fun z => ⟨⟨by simp, .inr ⟨g, cap, cur.setIfInBounds I.length (.string z), by simp, hb, ?_, by simp; omega, hc, by simpa using hs, ?_⟩⟩, h2.trans ⟨rfl, rfl, rfl, by simp, fun k hk => heap_setCell_other w ⟨g, I.length, none⟩ k _ (fun e => by have e2 : k = g := e; omega)⟩, by simpa using h3⟩⟩
  · exact heap_setCell_same w g I.length cur _ (.string z) hg
  · have hlz : (I ++ [z]).length = I.length + 1 := by simp
    rw [hlz, Nat.mul_one, Array.toList_setIfInBounds, List.map_append]
    apply List.ext_getElem?
    intro j
    have hj := congrArg (·[j]?) ht2
    simp only [List.getElem?_take] at hj
    simp only [List.getElem?_take, List.getElem?_set]
    by_cases h1 : j < I.length
    · have h4 : ¬ I.length = j := by omega
      rw [if_pos (by omega)] at hj ⊢
      rw [if_neg h4, hj, List.getElem?_append_left (by simpa using h1), List.getElem?_append_left (by simpa using h1)]
    · by_cases h4 : j = I.length
      · subst h4
        simp [strV, hsz]
      · rw [if_neg (by omega), List.getElem?_eq_none (by simp; omega)]

section
variable {P : Program}
theorem append_str {ops : Array Oper} {rest : List Oper} {o : Oper} {a : Act} {Q : Exit → Act → World → Prop} (hgd : o.guard = none) (s x : Operand) (t : TypeId)
    (ho : o.op = .call { callee := .builtin .append, args := #[s, x], argTypes := #[t, t] })
    (B : Nat) (i : TypeInfo) (ht : P.underlying t = some (.slice 9)) (hi : P.info? 9 = some i) (hz : i.zero = some (.string ⟨#[]⟩)) (hsize : i.size = 1) (hby : i.bytes = 16)
    (v : Value) (L : List ByteArray) (hs : a.eval s = v) (W0 w0 : World) (c : ByteArray) (hb : StrBuf B v L W0 w0)
    (hx : a.eval x = .slice (some ⟨w0.heap.size, 0, none⟩) 1 1) (hlen : (L.length + 1) * 16 ≤ 140737488355328)
    (h : ∀ v' w', StrBuf B v' (L ++ [c]) W0 w' → wpList P ops Q rest (a.put o.dst v') w') : wpList P ops Q (o :: rest) a (w0.alloc (.cells #[.string c] 9)) := by
  have hb' := hb.alloc (.cells #[.string c] 9)
  refine wpList_append_own _ hgd s x t ho B 9 i (.string ⟨#[]⟩) 1 16 ht hi hz hsize hby rfl (by decide) v L.length (L.map strV) hs hb'.1 ⟨w0.heap.size, 0, none⟩ 1 1 [.string c] hx rfl ?_ ?_ (by unfold maxLen; omega) hlen hb'.2.2 ?_
  · intro j u hj
    match j, hj with
    | 0, hj => simp at hj; subst hj; simp [Addr.add]
    | (j + 1), hj => simp at hj
  · intro u hu; simp at hu; subst hu; rfl
  · intro v' w' ho' hg _
    refine h v' w' (hb'.grown ?_ hg)
    rw [List.length_append, List.map_append]
    exact ho'
end

def SplitTo (x : ByteArray) (w : World) (e : Ending) (w' : World) : Prop := ∃ v L, e = .returned v ∧ tlz L = splitF x.toList ∧ StrBuf w.heap.size v L w w'
theorem take_dot {l : Bs} {k : Nat} {c : UInt8} (h : l[k]? = some c) : l.take (k + 1) = l.take k ++ [c] := by rw [List.take_add_one, h]; rfl
theorem ext_one (x : ByteArray) (k : Nat) (h : k < x.size) : (x.extract k (k + 1)).toList = [x[k]] := by
  rw [tl_sub, Nat.add_sub_cancel_left, List.take_one, List.head?_drop, tl_get x k h]; rfl
theorem tl_app (a b : ByteArray) : (a ++ b).toList = a.toList ++ b.toList := by rw [tl, tl, tl]; simp

set_option maxHeartbeats 2000000 in
set_option maxRecDepth 100000 in
theorem rsplit_any (x : ByteArray) (w : World) (hx : x.size ≤ 1000000) :
    Calls Tryd.prog 62 #[.string x] w (SplitTo x w) := by
  obtain ⟨i0, hi0⟩ : ∃ i, Tryd.prog.info? 9 = some i := ⟨_, rfl⟩
  have hz0 : i0.zero = some (.string ⟨#[]⟩) := by
    have h : (Tryd.prog.info? 9).bind (·.zero) = some (.string ⟨#[]⟩) := by kernel_rfl
    rw [hi0] at h; exact h
  have hz1 : i0.size = 1 := by
    have h : (Tryd.prog.info? 9).map (·.size) = some 1 := by kernel_rfl
    rw [hi0] at h; exact Option.some.inj h
  have hz2 : i0.bytes = 16 := by
    have h : (Tryd.prog.info? 9).map (·.bytes) = some 16 := by kernel_rfl
    rw [hi0] at h; exact Option.some.inj h
  have HI := Lib.hid hi0
  have HZ0 := Lib.hid hz0
  have HZ1 := Lib.hid hz1
  have HZ2 := Lib.hid hz2
  have HM := Lib.hid (StrBuf.make w ⟨#[]⟩)
  clear hi0 hz0 hz1 hz2
  go_enter Tryd.func62, Tryd.ntmps62
  go_wp2
  go_loopw [3, 4] (fun s3 s4 wr => ∃ (k : Nat) (L : List ByteArray), k ≤ x.size ∧ s4 = .int .i64 k ∧ Hid (tlz L = splitF (x.toList.take k)) ∧ Hid (L.length ≤ k + 1) ∧ Hid (StrBuf w.heap.size s3 L w wr)) (fun s3 s4 _ => x.size - (intOf s4).toNat)
  case atStart => exact ⟨0, [⟨#[]⟩], by omega, rfl, Lib.hid (by simp [tlz, splitF]), Lib.hid (Nat.le_refl _), HM⟩
  case round =>
    obtain ⟨k, L, hk, rfl, HT, HL, HB⟩ := hrel
    by_cases hlt : k < x.size
    · have hg := tl_get x k hlt
      by_cases hd : x[k].toNat = 46
      · have hc : x[k] = 46 := UInt8.toNat_inj.1 hd
        have HT2 : Hid (tlz (L ++ [⟨#[]⟩]) = splitF (x.toList.take (k + 1))) := Lib.hid (by rw [take_dot hg, hc, splitF_snoc_dot, ← HT.out]; simp [tlz])
        have g1 : ((x[k].toNat : Int) == 46) = true := beq_iff_eq.2 (by omega)
        have HL2 : Hid ((L.length + 1) * 16 ≤ 140737488355328) := Lib.hid (by have := HL.out; omega)
        have HL3 : Hid ((L ++ [(⟨#[]⟩ : ByteArray)]).length ≤ k + 1 + 1) := Lib.hid (by have := HL.out; simp; omega)
        clear hg hc
        go_wp2_with (at_builtin; refine append_str rfl (.tmp 16) (.tmp 17) 59 rfl w.heap.size i0 Tryd.underlying59 HI.out HZ0.out HZ1.out HZ2.out _ L rfl w wr ⟨#[]⟩ HB.out rfl HL2.out (fun v2 w2 hb2 => ?_); have HB2 := Lib.hid hb2; clear hb2)
        go_roundw
        case rel => exact ⟨k + 1, _, hlt, by go_num, HT2, HL3, HB2⟩
        case measure =>
          simp [intOf]
          omega
      · have hc : x[k] ≠ 46 := fun h => hd (by rw [h]; rfl)
        have hne : L ≠ [] := fun h => by
          have := HT.out
          rw [h] at this
          exact splitF_ne _ this.symm
        obtain ⟨I, y, rfl⟩ := snoc_of hne
        have HT2 : Hid (tlz (I ++ [y ++ x.extract k (k + 1)]) = splitF (x.toList.take (k + 1))) := Lib.hid (by
          rw [take_dot hg, splitF_snoc _ hc _ (tlz I) y.toList (by rw [← HT.out]; simp [tlz])]
          simp [tlz, tl_app, ext_one x k hlt])
        obtain ⟨g, c, rfl, hgl, hcell, hfz, hset⟩ := HB.out.last
        have hys : y.size ≤ k := by
          have := splitF_le _ y.toList (by rw [← HT.out]; simp [tlz])
          rw [tl_len, List.length_take] at this
          omega
        have hes : (x.extract k (k + 1)).size = 1 := by rw [← tl_len, ext_one x k hlt]; rfl
        have z1 : ¬ ((y.size + (x.extract k (k + 1)).size : Nat) : Int) > IntKind.i64.max := by rw [hes]; simp [IntKind.max, IntKind.signed, IntKind.bits]; omega
        have z2 : ¬ (9223372036854775807 : Int) < (y.size : Int) + ((x.extract k (k + 1)).size : Int) := by rw [hes]; omega
        have z3 : (y.size : Int) + ((x.extract k (k + 1)).size : Int) ≤ 9223372036854775807 := by rw [hes]; omega
        have HS := Lib.hid ((hset (y ++ x.extract k (k + 1))).drewN 1)
        have HL3 : Hid ((I ++ [y ++ x.extract k (k + 1)]).length ≤ k + 1 + 1) := Lib.hid (by have := HL.out; simp at this ⊢; omega)
        have hm : I.length ≤ k := by have := HL.out; simp at this; omega
        have g1 : ((x[k].toNat : Int) == 46) = false := beq_eq_false_iff_ne.2 (by omega)
        generalize I.length = m at *
        have w1' : IntKind.i64.wrap (((m : Int) + 1) - 1) = (m : Int) := by rw [Int.add_sub_cancel]; exact IntWalk.i64_in _ (by omega)
        have w0' : IntKind.i64.wrap (m : Int) = (m : Int) := IntWalk.i64_in _ (by omega)
        have w2' : IntKind.i64.wrap ((k : Int) + 1) = (k : Int) + 1 := IntWalk.i64_in _ (by omega)
        have w3' : ((m + 1 : Nat) : Int) = (m : Int) + 1 := by omega
        have n1 : (0 : Int) ≤ (k : Int) := by omega
        have n2 : (k : Int) + 1 ≤ (x.size : Int) := by omega
        have n3 : (0 : Int) ≤ (m : Int) := by omega
        have n4 : (m : Int) < (m : Int) + 1 := by omega
        clear hg hc hset hne
        go_wp2
        go_region
        go_wp2
        go_roundw
        case rel => exact ⟨k + 1, _, hlt, by go_num, HT2, HL3, HS⟩
        case measure =>
          simp [intOf]
          omega
    · obtain rfl : k = x.size := by omega
      have HT2 : Hid (tlz L = splitF x.toList) := Lib.hid (by have := HT.out; rwa [List.take_of_length_le (by rw [tl_len]; exact Nat.le_refl _)] at this)
      go_wp2
      go_ret
      exact ⟨_, L, rfl, HT2.out, HB.out⟩
end Go.Proofs.YtkhckgknldiheaaDoor
