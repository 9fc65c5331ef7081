/- The contracts of gaps of the laws of layer 3 and of strings.HasPrefix; no condition beyond those that each theorem names. -/
import Derived.Test.YtojofkjnakiliaaDoorC1
import Derived.Test.YtojofkjnakiliaaDoorShelf
namespace Go.Proofs.YtojofkjnakiliaaDoor
set_option linter.unusedSimpArgs false
set_option linter.unusedVariables false
open Go.RowKit Go.Maps Go.Shelf
open NmP

theorem splitB_le (sep : ByteArray) (v : Nat) : ∀ (k : Nat) (s p : ByteArray), p ∈ Lib.splitB sep v k s → p.size ≤ s.size
  | 0, s, p, h => by
    rw [Lib.splitB_zero] at h
    simp at h
    rw [h]
    exact Nat.le_refl _
  | k + 1, s, p, h => by
    unfold Lib.splitB at h
    split at h
    · simp at h
      rw [h]
      exact Nat.le_refl _
    · rcases List.mem_cons.1 h with rfl | h
      · rw [ByteArray.size_extract]; omega
      · have := splitB_le sep v k _ p h
        rw [ByteArray.size_extract] at this; omega
/-- Some lines are gaps, as they are looked at. -/
def lineB (p : ByteArray) : Bool := lineOk p.data.toList
theorem all_lines (s : ByteArray) : (Lib.splitB ⟨#[10]⟩ 0 (Lib.countB s ⟨#[10]⟩) s).all lineB = gapsL false s.data.toList := by
  rw [← lines_gaps (Lib.count s.data.toList [10]) s.data.toList rfl, ← Lib.splitB_data ⟨#[10]⟩ 0 (Lib.count s.data.toList [10]) s, List.all_map]
  rfl
theorem cut_le (p : ByteArray) : (⟨(Lib.cut p.data.toList [35]).1.toArray⟩ : ByteArray).size ≤ p.size := by
  show (Lib.cut p.data.toList [35]).1.length ≤ p.data.toList.length
  rw [cut_key]
  split
  · rw [List.length_take]; omega
  · exact Nat.le_refl _
/-- Where the variable of the library holds some number. -/
def MaxAt (m : Int) (w : World) : Prop := w.cell? ⟨0, 0, none⟩ = some (.int .i64 m)
theorem MaxAt.keep {m : Int} {w w' : World} (h : MaxAt m w) (hb : Below w.heap.size w w') : MaxAt m w' := (hb.cell (World.block_lt_of_cell? _ _ h)).trans h
theorem cut_any (p : ByteArray) (m : Int) (w : World) (hs : p.size ≤ 9000) (hm : MaxAt m w) :
    Calls Tryd.prog 19 #[.string p, .string ⟨#[35]⟩] w fun e w' => ∃ y z, e = .returned (.tuple #[.string ⟨(Lib.cut p.data.toList [35]).1.toArray⟩, y, z]) ∧ Below w.heap.size w w' :=
  (Any.strings_Cut Tryd.lays145 p ⟨#[35]⟩ m w (by omega) hm).mono fun e w' ⟨he, n, hw⟩ => by
    subst he hw
    exact ⟨_, _, rfl, below_drewN (Below.refl _ _) n⟩
theorem trim_any (x : ByteArray) (w : World) (hs : x.size ≤ 9000) :
    Calls Tryd.prog 20 #[.string x, .string ⟨#[32, 9]⟩] w fun e w' => e = .returned (.string ⟨(Lib.trimS x.data.toList [32, 9]).toArray⟩) ∧ Below w.heap.size w w' :=
  Any.strings_Trim_laid Tryd.lays160 (by kernel_rfl) x ⟨#[32, 9]⟩ w (by omega) (by decide) (ascii_of_all (by decide))
theorem split_any (s : ByteArray) (m : Int) (w : World) (hs : s.size ≤ 9000) (hm : MaxAt m w) :
    Calls Tryd.prog 18 #[.string s, .string ⟨#[10]⟩] w fun e w' => ∃ P : List ByteArray, (∀ p ∈ P, p.size ≤ 9000) ∧ P.all lineB = gapsL false s.data.toList ∧ P.length ≤ 9001 ∧
      e = .returned (.slice (some ⟨w.heap.size, 0, none⟩) P.length P.length) ∧ w' = w.alloc (.cells (P.map Value.string).toArray 9) :=
  (Any.strings_Split { Tryd.laysM146 with } Tryd.laysM146.i9 s ⟨#[10]⟩ m w (by omega) hm (by decide)).mono fun e w' ⟨he, hw⟩ => by
    have hl := Lib.splitB_all ⟨#[10]⟩ (by decide) 0 (Lib.countB s ⟨#[10]⟩) s rfl
    have hc := Lib.countB_le ⟨#[10]⟩ (by decide) s.size s (Nat.le_refl _)
    refine ⟨_, fun p hp => Nat.le_trans (splitB_le _ _ _ _ _ hp) hs, all_lines s, by rw [hl]; omega, ?_, hw⟩
    rw [hl]
    exact he

set_option maxHeartbeats 2000000 in
set_option maxRecDepth 100000 in
theorem gaps_any (s : ByteArray) (m : Int) (w : World) (hs : s.size ≤ 9000) (hm : MaxAt m w) :
    Calls Tryd.prog 8 #[.string s] w fun e w' => e = .returned (.bool (gapsL false s.data.toList)) ∧ Below w.heap.size w w' := by
  obtain ⟨R, hR⟩ : ∃ R, gapsL false s.data.toList = R := ⟨_, rfl⟩
  have hsp := split_any s m w hs hm
  rw [hR] at hsp ⊢
  have HSP := Lib.hid hsp
  have HM := Lib.hid hm
  clear hsp hR hm
  go_enter Tryd.func8, Tryd.ntmps8
  go_wp2_with fail
  refine HSP.out.mono ?_
  rintro e w1 ⟨P, hp, hall, hlen, rfl, rfl⟩
  obtain ⟨n, hn⟩ : ∃ n, P.length = n := ⟨_, rfl⟩
  rw [hn] at hlen ⊢
  have HN := Lib.hid hn
  have HP := Lib.hid hp
  have HA := Lib.hid hall
  have hbw : Below w.heap.size w (w.alloc (.cells (P.map Value.string).toArray 9)) := (Below.refl _ _).alloc (Nat.le_refl _) _
  have hrow : (w.alloc (.cells (P.map Value.string).toArray 9)).heap[w.heap.size]? = some (.cells (P.map Value.string).toArray 9 (0, 0)) := World.alloc_heap_new w _
  generalize (w.alloc (.cells (P.map Value.string).toArray 9)) = W1 at *
  obtain ⟨G, hG⟩ : ∃ G, w.heap.size = G := ⟨_, rfl⟩
  rw [hG] at hrow ⊢
  have hGl : G < W1.heap.size := (Array.getElem?_eq_some_iff.1 hrow).1
  have HROW := Lib.hid hrow
  have HBW := Lib.hid hbw
  have HGW := Lib.hid hG
  clear hp hall hn hrow hbw hG
  go_wp2
  go_loopw [11] (fun s11 wr => ∃ i : Nat, i ≤ n ∧ s11 = .int .i64 i ∧ Hid ((P.drop i).all lineB = R) ∧ Hid (Below W1.heap.size W1 wr)) (fun s11 _ => n - (intOf s11).toNat)
  case atStart => exact ⟨0, Nat.zero_le _, rfl, HA, Lib.hid (Below.refl _ _)⟩
  case round =>
    obtain ⟨i, hi, rfl, HG, HB⟩ := hrel
    by_cases h1 : i < n
    · have ia : i < P.length := by rw [HN.out]; exact h1
      have ga : P[i]? = some P[i] := List.getElem?_eq_getElem ia
      have hps := HP.out _ (List.mem_of_getElem? ga)
      have hG := HG.out
      rw [List.drop_eq_getElem_cons ia, List.all_cons] at hG
      have hrw : wr.heap[G]? = some (.cells (P.map Value.string).toArray 9 (0, 0)) := (HB.out.block G hGl).trans HROW.out
      have hcell : wr.cell? ⟨G, i, none⟩ = some (.string P[i]) := by
        rw [cell_of_row wr G i _ _ _ hrw, List.getElem?_toArray, List.getElem?_map, ga]; rfl
      have hi1 : (i : Int) < (n : Int) := by omega
      have hi0 : (0 : Int) ≤ (i : Int) := by omega
      generalize P[i] = p at *
      have hm : MaxAt m wr := (HM.out.keep HBW.out).keep HB.out
      have HC := Lib.hid (cut_any p m wr hps hm)
      have hcl := cut_le p
      have HT := Lib.hid (fun W => trim_any ⟨(Lib.cut p.data.toList [35]).1.toArray⟩ W (by omega))
      clear hcl hm hrw ga hps
      have hlb : lineB p = decide (Lib.trimS (Lib.cut p.data.toList [35]).1 [32, 9] = []) := rfl
      change Hid (∀ W, Calls Tryd.prog 20 #[.string ⟨(Lib.cut p.data.toList [35]).1.toArray⟩, .string ⟨#[32, 9]⟩] W fun e w' => e = .returned (.string ⟨(Lib.trimS (Lib.cut p.data.toList [35]).1 [32, 9]).toArray⟩) ∧ Below W.heap.size W w') at HT
      generalize Lib.trimS (Lib.cut p.data.toList [35]).1 [32, 9] = T at *
      generalize (⟨(Lib.cut p.data.toList [35]).1.toArray⟩ : ByteArray) = X at *
      by_cases hT : T = []
      · subst hT
        rw [hlb, decide_eq_true rfl, Bool.true_and] at hG
        have HG2 := Lib.hid hG
        clear hG hlb HG
        go_wp2_with (first | (go_at_call 19; refine HC.out.mono ?_; rintro e w3 ⟨y, z, rfl, hb3⟩; have HB3 := Lib.hid (HB.out.trans (hb3.mono HB.out.size)); clear hb3) | (go_at_call 20; refine (HT.out _).mono ?_; rintro e w4 ⟨rfl, hb4⟩; have HB4 := Lib.hid (HB3.out.trans (hb4.mono HB3.out.size)); clear hb4))
        go_roundw
        case rel => exact ⟨i + 1, by omega, by go_num, HG2, HB4⟩
        case measure => simp [intOf]; omega
      · rw [hlb, decide_eq_false hT, Bool.false_and] at hG
        subst hG
        have hne : (⟨T.toArray⟩ : ByteArray).toList.isEmpty = false := by
          rw [show (⟨T.toArray⟩ : ByteArray).toList = T from ofL_toList T]
          cases T with
          | nil => exact absurd rfl hT
          | cons x r => rfl
        clear hlb HG hT
        generalize (⟨T.toArray⟩ : ByteArray) = T2 at *
        go_wp2_with (first | (go_at_call 19; refine HC.out.mono ?_; rintro e w3 ⟨y, z, rfl, hb3⟩; have HB3 := Lib.hid (HB.out.trans (hb3.mono HB.out.size)); clear hb3) | (go_at_call 20; refine (HT.out _).mono ?_; rintro e w4 ⟨rfl, hb4⟩; have HB4 := Lib.hid (HB3.out.trans (hb4.mono HB3.out.size)); clear hb4))
        go_ret
        exact ⟨rfl, HBW.out.trans (HB4.out.mono HBW.out.size)⟩
    · obtain rfl : i = n := by omega
      have hG := HG.out
      rw [List.drop_eq_nil_of_le (by rw [HN.out]; exact Nat.le_refl _)] at hG
      obtain rfl : R = true := hG.symm
      have hi2 : ¬ (i : Int) < (i : Int) := by omega
      go_wp2
      go_ret
      exact ⟨rfl, HBW.out.trans (HB.out.mono HBW.out.size)⟩

theorem has_prefix (s p : ByteArray) (w : World) (h1 : p.size ≤ s.size) (h2 : s.extract 0 p.size = p) :
    Calls Tryd.prog 7 #[.string s, .string p] w fun e w' => e = .returned (.bool true) ∧ w = w' := by
  have c : ∀ W, Calls Tryd.prog 17 #[.string s, .string p] W fun e w' => e = .returned (.bool true) ∧ W = w' := by
    intro W
    have h3 : (p.size : Int) ≤ (s.size : Int) := by omega
    go_enter Tryd.func17, Tryd.ntmps17
    go_wp2
    go_ret
    exact ⟨rfl, rfl⟩
  have C := Lib.hid c
  clear c h1 h2
  go_enter Tryd.func7, Tryd.ntmps7
  go_wp2_with (go_at_call 17; refine (C.out _).mono ?_; rintro e w1 ⟨rfl, rfl⟩)
  go_ret
  exact ⟨rfl, rfl⟩
end Go.Proofs.YtojofkjnakiliaaDoor
