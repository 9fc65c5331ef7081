/- Rows of keys that a call owns, and the contract of keysOf of package trust; no condition beyond those that each theorem names. -/
import Derived.Test.YtkhckgknldiheaaDoorG8
import Derived.Laws.AppendOwn
import Derived.Deep.AppendLies
import Derived.Deep.CutRange
import Derived.BigRegion
namespace Go.Proofs.YtkhckgknldiheaaDoor
set_option linter.unusedSimpArgs false
set_option linter.unusedVariables false
open Go.RowKit
open NmP SpP

def zKey : Value := .agg #[.int .i64 0, .int .i64 0]
theorem infoK : (Tryd.prog.info? 44).map (fun i => (i.zero, i.size, i.bytes)) = some (some zKey, 2, 16) := by kernel_rfl
/-- Keys that the call owns. -/
def OwnK (B : Nat) (v : Value) (l : List Sp) (w : World) : Prop := w.ownsRow B 44 2 v l.length (rowS l)
theorem ownK_nil (B : Nat) (w : World) : OwnK B (.slice none 0 0) [] w := ⟨rfl, .inl ⟨rfl, rfl⟩⟩
/-- Keys that the call owns, laid open. -/
theorem own_keys {W : World} {B : Nat} {v : Value} {n : Nat} {l : List Value} (h : W.ownsRow B 44 2 v n l) (h1 : 1 ≤ n) :
    ∃ g cap cur, v = .slice (some ⟨g, 0, none⟩) n cap ∧ B ≤ g ∧ n ≤ cap ∧ W.heap[g]? = some (Obj.cells cur 44 (0, 0)) ∧ cur.toList.take (n * 2) = l := by
  rcases h.2 with ⟨_, h0⟩ | ⟨g, cap, cur, rfl, hb, hg, hn, _, _, ht⟩
  · omega
  · exact ⟨g, cap, cur, rfl, hb, hn, hg, ht⟩
theorem OwnK.sl {B : Nat} {v : Value} {l : List Sp} {w : World} (h : OwnK B v l w) : SlS v l w := by
  obtain ⟨h0, h1⟩ := h
  rcases h1 with ⟨rfl, h2⟩ | ⟨g, cap, cur, rfl, h2, h3, h4, h5, h6, h7⟩
  · exact .inl ⟨List.length_eq_zero_iff.1 h2, none, 0, rfl⟩
  · refine .inr ⟨g, 0, cap, rfl, (Array.getElem?_eq_some_iff.1 h3).1, fun m u hm => ?_⟩
    rw [Nat.zero_add]
    rw [← h7, List.getElem?_take] at hm
    split at hm
    · exact cell_of_blk h3 m u (by simpa using hm)
    · cases hm
theorem OwnK.mono {B B' : Nat} {v : Value} {l : List Sp} {w : World} (h : OwnK B v l w) (hB : B' ≤ B) : OwnK B' v l w := by
  obtain ⟨h0, h1⟩ := h
  refine ⟨h0, ?_⟩
  rcases h1 with h1 | ⟨g, cap, cur, h2, h3, h4⟩
  · exact .inl h1
  · exact .inr ⟨g, cap, cur, h2, Nat.le_trans hB h3, h4⟩
theorem OwnK.lt {B : Nat} {v : Value} {l : List Sp} {w : World} (h : OwnK B v l w) : ∀ k, v.ownBlock = some k → B ≤ k ∧ k < w.heap.size := fun k hk => World.ownsRow.lt h k hk
def keysL (l : List Dt) : List Sp := l.map (fun d => (d.2.1, d.2.2))
/-- A call that ends with keys that it owns. -/
def KeysTo (l : List Sp) (w : World) (e : Ending) (w' : World) : Prop := ∃ v, e = .returned v ∧ OwnK w.heap.size v l w' ∧ Below w.heap.size w w'

set_option maxHeartbeats 2000000 in
set_option maxRecDepth 100000 in
theorem keysOf_any (s : St) (w : World) (hs : s.In w) (hn : s.l.length ≤ 1000) :
    Calls Tryd.prog 40 #[.agg #[.string s.x, .int .i64 s.typ, .int .i64 s.life, s.v]] w (KeysTo (keysL s.l) w) := by
  have hb0 := (Below.refl _ w).alloc (Nat.le_refl _) (.cells #[.string s.x, .int .i64 s.typ, .int .i64 s.life, s.v] 25)
  have hblk : (w.alloc (.cells #[.string s.x, .int .i64 s.typ, .int .i64 s.life, s.v] 25)).heap[w.heap.size]? = some (Obj.cells #[.string s.x, .int .i64 s.typ, .int .i64 s.life, s.v] 25 (0, 0)) := heap_alloc_new w _
  have hA := hs.hA.keep hb0
  obtain ⟨p, c, hvv⟩ := hs.hA.form
  obtain ⟨x, typ, life, v, l⟩ := s
  simp only at hvv hb0 hblk hA hn ⊢
  subst hvv
  obtain ⟨n, hln⟩ : ∃ n, l.length = n := ⟨_, rfl⟩
  rw [hln] at hb0 hblk hA hn ⊢
  have HL := Lib.hid hln
  have HA := Lib.hid hA
  have HB0 := Lib.hid hb0
  have c3 := cell_of_blk hblk 3 (.slice p n c) rfl
  obtain ⟨i0, hi0, hz0, hz1, hz2⟩ := info_parts infoK
  have HI := Lib.hid hi0
  have HZ0 := Lib.hid hz0
  have HZ1 := Lib.hid hz1
  have HZ2 := Lib.hid hz2
  clear hi0 hz0 hz1 hz2 hb0 hblk hA hln hs
  go_enter Tryd.func40, Tryd.ntmps40
  go_wp2
  generalize w.alloc _ = W0 at *
  clear c3
  go_loopw [3, 9] (fun s3 s9 wr => ∃ i : Nat, i ≤ n ∧ s9 = .int .i64 i ∧ Hid (OwnK W0.heap.size s3 (keysL (l.take i)) wr) ∧ Hid (Below W0.heap.size W0 wr)) (fun _ s9 _ => n - (intOf s9).toNat)
  case atStart => exact ⟨0, Nat.zero_le _, rfl, Lib.hid (ownK_nil _ _), Lib.hid (Below.refl _ _)⟩
  case round =>
    obtain ⟨i, hi, rfl, HO, HW⟩ := hrel
    by_cases hlt : i < n
    · have ia : i < l.length := by rw [HL.out]; exact hlt
      have ga : l[i]? = some l[i] := List.getElem?_eq_getElem ia
      have hv1 := HA.out
      obtain ⟨b, off, rfl, hb, hR⟩ := hv1.at_ (by omega)
      obtain ⟨a0, a1, a2⟩ := (hR.keep hb HW.out).at_ ga
      have HT : Hid (keysL (l.take (i + 1)) = keysL (l.take i) ++ [(l[i].2.1, l[i].2.2)]) := Lib.hid (by unfold keysL; rw [List.take_add_one, ga, List.map_append]; rfl)
      have HLn : Hid ((keysL (l.take i)).length = i) := Lib.hid (by unfold keysL; rw [List.length_map, List.length_take]; omega)
      generalize l[i] = d at *
      obtain ⟨x1, n1, m1⟩ := d
      simp only at a0 a1 a2
      have hx1 : (i : Int) < (n : Int) := by omega
      have hd : (wr.alloc (.cells #[.string x1, .int .i64 n1, .int .i64 m1] 65)).heap[wr.heap.size]? = some (Obj.cells #[.string x1, .int .i64 n1, .int .i64 m1] 65 (0, 0)) := heap_alloc_new wr _
      have HO2 := Lib.hid (World.ownsRow.alloc HO.out (.cells #[.string x1, .int .i64 n1, .int .i64 m1] 65))
      have HW2 := Lib.hid (HW.out.alloc HW.out.size (.cells #[.string x1, .int .i64 n1, .int .i64 m1] 65))
      have HOL := Lib.hid (fun k hk => OwnK.lt HO.out k hk)
      clear ga HO hR hv1
      have d1 := cell_of_blk hd 1 (.int .i64 n1) rfl
      have d2 := cell_of_blk hd 2 (.int .i64 m1) rfl
      clear hd
      go_upto_region 5 with fail
      generalize wr.alloc _ = w6 at *
      obtain ⟨n5, hn5⟩ : ∃ n, wr.heap.size = n := ⟨_, rfl⟩
      rw [hn5] at d1 d2 ⊢
      clear hn5
      have hz6 : W0.heap.size ≤ w6.heap.size := HW2.out.size
      go_wp2_with (at_builtin; refine wpList_append_own _ rfl (.tmp 13) (.tmp 19) 26 rfl W0.heap.size 44 i0 zKey 2 16 Tryd.underlying26 HI.out HZ0.out HZ1.out HZ2.out rfl (by decide) u3 (keysL (l.take i)).length (rowS (keysL (l.take i))) rfl (World.ownsRow.alloc HO2.out _) ⟨w6.heap.size, 0, none⟩ 1 1 [.int .i64 n1, .int .i64 m1] rfl rfl (World.news_of_block (cs := #[.int .i64 n1, .int .i64 m1]) (t := 44) (fr := (0, 0)) (heap_alloc_new w6 _)) (by simp [Value.oneCell']) (by rw [HLn.out]; unfold maxLen; omega) (by rw [HLn.out]; omega) (by simp; omega) ?_; intro v' w7 hown hgrow hiff; clear hiff; have HO7 := Lib.hid hown; have HG := Lib.hid hgrow; clear hown hgrow)
      go_roundw
      case rel =>
        refine ⟨i + 1, hlt, by go_num, Lib.hid ?_, Lib.hid ?_⟩
        · have h := HO7.out
          rw [HT.out]
          unfold OwnK
          rw [List.length_append, rowS_append]
          exact h
        · exact (HW2.out.alloc HW2.out.size _).grown HG.out (by simp; omega) (fun k hk => (HOL.out k hk).1)
      case measure =>
        simp [intOf]
        omega
    · obtain rfl : i = n := by omega
      go_wp2
      go_ret
      have h := HO.out
      rw [List.take_of_length_le (by have := HL.out; omega)] at h
      exact ⟨_, rfl, h.mono HB0.out.size, HB0.out.trans (HW.out.mono HB0.out.size)⟩
end Go.Proofs.YtkhckgknldiheaaDoor
