/- The contract of slices.DeleteFunc at keys that the call owns; no condition beyond those that each theorem names. -/
import Derived.Test.YtkhckgknldiheaaDoorT3
namespace Go.Proofs.YtkhckgknldiheaaDoor
set_option linter.unusedSimpArgs false
set_option linter.unusedVariables false
open Go.RowKit
open NmP SpP

/-- A call that ends with a slice of what is left. -/
def DelTo (g : Nat) (l : List Sp) (w : World) (e : Ending) (w' : World) : Prop := ∃ c, e = .returned (.slice (some ⟨g, 0, none⟩) l.length c) ∧ SlS (.slice (some ⟨g, 0, none⟩) l.length c) l w' ∧ Below g w w'
/-- What the loop of DeleteFunc keeps. -/
structure DelI (g n i j : Nat) (l L : List Sp) (P : Sp → Bool) (w wr : World) : Prop where
  own : OwnKG wr g L
  len : L.length = n
  pre : L.take i = (l.take j).filter (fun k => !P k)
  post : L.drop j = l.drop j
  bel : Below g w wr
theorem take_set_K {L : List Sp} {i : Nat} (h : i < L.length) (k : Sp) : (L.set i k).take (i + 1) = L.take i ++ [k] := by
  rw [List.take_add_one, List.take_set_of_le (Nat.le_refl _), List.getElem?_set_self h]
  rfl
theorem filter_snoc {l : List Sp} {j : Nat} {k : Sp} (P : Sp → Bool) (h : l[j]? = some k) : (l.take (j + 1)).filter P = (l.take j).filter P ++ (if P k = true then [k] else []) := by
  rw [List.take_add_one, h, List.filter_append]
  simp [List.filter_cons]
theorem DelI.skip {g n i j : Nat} {l L : List Sp} {P : Sp → Bool} {w wr wr' : World} {k : Sp} (h : DelI g n i j l L P w wr) (hk : l[j]? = some k) (hP : P k = true) (hg : wr'.heap[g]? = wr.heap[g]?) (hb : Below g wr wr') : DelI g n i (j + 1) l L P w wr' := by
  refine ⟨h.own.keep hg, h.len, ?_, ?_, h.bel.trans hb⟩
  · rw [filter_snoc _ hk, hP, h.pre]; simp
  · have := congrArg (List.drop 1) h.post
    rw [List.drop_drop, List.drop_drop] at this
    exact this
theorem DelI.keepK {g n i j : Nat} {l L : List Sp} {P : Sp → Bool} {w wr wr' : World} {k : Sp} (h : DelI g n i j l L P w wr) (hk : l[j]? = some k) (hP : P k = false) (hij : i < j) (hj : j < n) (hg : wr'.heap[g]? = wr.heap[g]?) (hb : Below g wr wr') : DelI g n (i + 1) (j + 1) l (L.set i k) P w ((wr'.setCell ⟨g, i * 2, none⟩ (.int .i64 k.1)).setCell ⟨g, i * 2 + 1, none⟩ (.int .i64 k.2)) := by
  have hi : i < L.length := by rw [h.len]; omega
  have hd : L[i]? = some L[i] := List.getElem?_eq_getElem hi
  refine ⟨(h.own.keep hg).put hd k.1 k.2, by rw [List.length_set]; exact h.len, ?_, ?_, ((h.bel.trans hb).setCell (p := ⟨g, i * 2, none⟩) (Nat.le_refl _) _).setCell (p := ⟨g, i * 2 + 1, none⟩) (Nat.le_refl _) _⟩
  · rw [take_set_K hi, filter_snoc _ hk, hP, h.pre]; simp
  · rw [List.drop_set_of_lt (by omega)]
    have := congrArg (List.drop 1) h.post
    rw [List.drop_drop, List.drop_drop] at this
    exact this
theorem DelI.at_ {g n i j : Nat} {l L : List Sp} {P : Sp → Bool} {w wr : World} {k : Sp} (h : DelI g n i j l L P w wr) (hk : l[j]? = some k) : L[j]? = some k := by
  have h1 : (L.drop j)[0]? = (l.drop j)[0]? := by rw [h.post]
  rw [List.getElem?_drop, List.getElem?_drop] at h1
  simpa [hk] using h1

theorem own_cleared {wr : World} {g i : Nat} {L F : List Sp} (h : OwnKG wr g L) (hF : L.take i = F) (hl : F.length = i) (cap : Nat) (vs : List Value) : SlS (.slice (some ⟨g, 0, none⟩) F.length cap) F (wr.setCells g (i * 2) vs) := by
  have hb := Lib.below_setCells_w (B := g) (Nat.le_refl g) vs (i * 2) wr
  rcases h.sl L.length cap rfl with ⟨h0, _⟩ | ⟨b, off, c, h1, h2, h3⟩
  · subst h0
    rw [List.take_nil] at hF
    subst hF
    exact .inl ⟨rfl, _, _, rfl⟩
  · cases h1
    refine .inr ⟨g, 0, cap, rfl, Nat.lt_of_lt_of_le h2 hb.size, fun m u hm => ?_⟩
    have hm2 : m < i * 2 := by
      have := (List.getElem?_eq_some_iff.1 hm).1
      rw [rowS_len, hl] at this
      omega
    rw [World.cell?_setCells_out g vs (i * 2) wr ⟨g, 0 + m, none⟩ (fun _ _ => .inl (by simp only; omega))]
    refine h3 m u ?_
    have : L = F ++ L.drop i := by rw [← hF, List.take_append_drop]
    rw [this, rowS_append, List.getElem?_append_left (by rw [rowS_len, hl]; omega)]
    exact hm

set_option maxHeartbeats 4000000 in
set_option maxRecDepth 100000 in
theorem deleteK_any (g cap B : Nat) (l : List Sp) (P : Sp → Bool) (w : World) (hG : OwnKG w g l) (hl1 : 1 ≤ l.length) (hcap : l.length ≤ cap) (hn : l.length ≤ 1000)
    (hc : ∀ k W, Below g w W → Calls Tryd.prog 42 #[.agg #[.int .i64 k.1, .int .i64 k.2], .pointer (some ⟨B, 0, none⟩)] W fun e w' => e = .returned (.bool (P k)) ∧ Below W.heap.size W w') :
    Calls Tryd.prog 41 #[.slice (some ⟨g, 0, none⟩) l.length cap, .func (.func 42) #[] #[.pointer (some ⟨B, 0, none⟩)]] w (DelTo g (l.filter (fun k => !P k)) w) := by
  have hgl := hG.lt
  have CI := Lib.hid (indexP_any B (.slice (some ⟨g, 0, none⟩) l.length cap) l P w (hG.sl _ _ rfl) (by unfold maxLen; omega) (fun k W hb => hc k W (hb.mono (by omega))))
  have HC := Lib.hid hc
  have HG := Lib.hid hG
  obtain ⟨n, hln⟩ : ∃ n, l.length = n := ⟨_, rfl⟩
  rw [hln] at CI hl1 hcap hn ⊢
  have HL := Lib.hid hln
  unfold IdxTo at CI
  rcases idxP_spec P l 0 with ⟨h1, h2⟩ | ⟨i0, h1, h2, h3, h4⟩
  · rw [h1] at CI
    have hf := Lib.hid (filter_all h2)
    clear hG hc hln h1 h2
    go_enter Tryd.func41, Tryd.ntmps41
    go_wp2_with (go_at_call 74; (with_reducible refine (CI.out).mono ?_); rintro e w1 ⟨rfl, hb⟩; have HB1 := Lib.hid hb; clear hb)
    go_ret
    refine ⟨cap, ?_, ?_, HB1.out.mono (by omega)⟩
    · rw [hf.out, HL.out]; rfl
    · rw [hf.out, HL.out]
      exact ((HG.out.sl n cap HL.out).keep HB1.out)
  · rw [h2, Nat.zero_add] at CI
    have hi1 : i0 < n := by rw [← hln]; exact h1
    have hk0 : l[i0]? = some l[i0] := List.getElem?_eq_getElem h1
    have hP0 := h3 _ hk0
    have I0 : Hid (∀ w1, Below w.heap.size w w1 → DelI g n i0 (i0 + 1) l l P w w1) := Lib.hid (fun w1 hb => by
      refine ⟨hG.keep (hb.block g hgl), hln, ?_, rfl, hb.mono (by omega)⟩
      rw [filter_snoc _ hk0, hP0, filter_all h4]
      simp)
    clear hG hc hln h1 h2 h3 h4 hk0 hP0
    go_enter Tryd.func41, Tryd.ntmps41
    go_wp2_with (go_at_call 74; (with_reducible refine (CI.out).mono ?_); rintro e w1 ⟨rfl, hb⟩; have I1 := Lib.hid (I0.out w1 hb); clear hb)
    clear CI I0
    go_loopw [5, 6] (fun s5 s6 wr => ∃ (i j : Nat) (L : List Sp), i < j ∧ j ≤ n ∧ s5 = .int .i64 i ∧ s6 = .int .i64 j ∧ Hid (DelI g n i j l L P w wr)) (fun _ s6 _ => n - (intOf s6).toNat)
    case atStart => exact ⟨i0, i0 + 1, l, by omega, by omega, by go_num, by go_num, I1⟩
    case round =>
      obtain ⟨i, j, L, hij, hjn, rfl, rfl, HI⟩ := hrel
      by_cases hlt : j < n
      · have ja : j < l.length := by rw [HL.out]; exact hlt
        have ga : l[j]? = some l[j] := List.getElem?_eq_getElem ja
        have hgr := HI.out.own.lt
        obtain ⟨a0, a1, _⟩ := HI.out.own.cell (HI.out.at_ ga)
        have HGA := Lib.hid ga
        generalize l[j] = kk at *
        obtain ⟨x, y⟩ := kk
        simp only at a0 a1
        have hbA : Below wr.heap.size wr (wr.alloc (.cells #[.int .i64 x, .int .i64 y] 44)) := (Below.refl _ wr).alloc (Nat.le_refl _) _
        have HC1 := Lib.hid (HC.out (x, y) _ (HI.out.bel.trans (hbA.mono (by omega))))
        have hbox : (wr.alloc (.cells #[.int .i64 x, .int .i64 y] 44)).heap[wr.heap.size]? = some (Obj.cells #[.int .i64 x, .int .i64 y] 44 (0, 0)) := heap_alloc_new wr _
        have HBA := Lib.hid hbA
        have HBx := Lib.hid hbox
        have hj1 : (j : Int) < (n : Int) := by omega
        clear ga hbA hbox
        obtain ⟨pb, hpb⟩ : ∃ b, P (x, y) = b := ⟨_, rfl⟩
        rw [hpb] at HC1
        have HPB := Lib.hid hpb
        clear hpb
        cases pb
        · go_wp2_with (go_at_call 42; fail)
          (with_reducible refine (HC1.out).mono ?_)
          rintro e w2 ⟨rfl, hb2⟩
          have hx2 := (hb2.block wr.heap.size (by simp)).trans HBx.out
          have HB2 := Lib.hid (HBA.out.trans (hb2.mono HBA.out.size))
          have u0 := cell_of_blk hx2 0 (.int .i64 x) rfl
          have u1 := cell_of_blk hx2 1 (.int .i64 y) rfl
          clear hb2 hx2 a0 a1
          obtain ⟨d0, hd0⟩ : ∃ d, L[i]? = some d := ⟨_, List.getElem?_eq_getElem (by rw [HI.out.len]; omega)⟩
          obtain ⟨r0, r1, rf⟩ := (HI.out.own.keep (HB2.out.block g hgr)).cell hd0
          have rf0 := rf (i * 2)
          have rf1 := rf (i * 2 + 1)
          clear rf hd0
          have hi2 : (i : Int) < (n : Int) := by omega
          have I2 := Lib.hid (HI.out.keepK HGA.out HPB.out hij hlt (HB2.out.block g hgr) (HB2.out.mono (by omega)))
          go_wp2
          go_roundw
          case rel => (repeat apply Exists.intro); exact ⟨⟨i + 1, j + 1, _, by omega, by omega, by go_num, by go_num, I2⟩, rfl⟩
          case measure =>
            simp [intOf]
            omega
        · go_wp2_with (go_at_call 42; fail)
          (with_reducible refine (HC1.out).mono ?_)
          rintro e w2 ⟨rfl, hb2⟩
          have HB2 := Lib.hid (HBA.out.trans (hb2.mono HBA.out.size))
          have I2 := Lib.hid (HI.out.skip HGA.out HPB.out (HB2.out.block g hgr) (HB2.out.mono (by omega)))
          clear hb2 a0 a1
          go_wp2
          go_roundw
          case rel => (repeat apply Exists.intro); exact ⟨⟨i, j + 1, _, by omega, by omega, rfl, by go_num, I2⟩, rfl⟩
          case measure =>
            simp [intOf]
            omega
      · obtain rfl : j = n := by omega
        have hgr := HI.out.own.lt
        have hcl : ∀ ty, (Builtin.clear_ #[26] ty #[.slice (some ⟨g, i * 2, none⟩) (j - i) (cap - i)]).run Tryd.prog wr = .ok (.tuple #[]) (wr.setCells g (i * 2) (List.replicate ((j - i) * 2) (.int .i64 0))) := fun ty =>
          run_clear_keys wr ty g (i * 2) (j - i) (cap - i) (by omega) (fun q hq => (HI.out.own.sized (i * 2 + q) (by rw [HI.out.len]; omega)).1) (fun q hq => (HI.out.own.sized (i * 2 + q) (by rw [HI.out.len]; omega)).2)
        have hic : (i : Int) ≤ (cap : Int) := by omega
        have hin : (i : Int) ≤ (j : Int) := by omega
        go_wp2_with (simp only [hcl])
        go_ret
        have hpre : L.take i = l.filter (fun k => !P k) := by
          have h := HI.out.pre
          rw [List.take_of_length_le (l := l) (by have := HL.out; omega)] at h
          exact h
        have hlen : ((l.filter (fun k => !P k))).length = i := by
          rw [← hpre, List.length_take, HI.out.len]
          omega
        refine ⟨cap, by rw [hlen]; rfl, own_cleared HI.out.own hpre hlen cap _, HI.out.bel.trans (Lib.below_setCells_w (B := g) (Nat.le_refl g) _ _ _)⟩
end Go.Proofs.YtkhckgknldiheaaDoor
