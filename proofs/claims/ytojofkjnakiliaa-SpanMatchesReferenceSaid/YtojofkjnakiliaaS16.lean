/- The contract of with of the reference of package span; no condition beyond those that each theorem names. -/
import Derived.Test.YtojofkjnakiliaaS15
namespace Go.Proofs.Ytojofkjnakiliaa
open Go.RowKit Go.Shelf
open SpP

def cellsS (x : Sp) : Obj := .cells #[.int .i64 x.1, .int .i64 x.2] 34
theorem box2 {W : World} {b : Nat} {x : Sp} (h : W.heap[b]? = some (cellsS x)) : (W.cell? ⟨b, 0, none⟩ = some (.int .i64 x.1) ∧ W.cell? ⟨b, 1, none⟩ = some (.int .i64 x.2)) ∧ W.frozen? ⟨b, 0, none⟩ = false ∧ W.frozen? ⟨b, 1, none⟩ = false := by
  unfold cellsS at h
  refine ⟨⟨?_, ?_⟩, ?_, ?_⟩ <;> simp [World.cell?, World.frozen?, h]
/-- What the loop of with knows: the box of the new stretch, the row of what has come. -/
structure WS (B : Nat) (s : Sp) (v : Value) (k : Nat) (out : List Sp) (w0 W : World) : Prop where
  box : W.heap[B]? = some (cellsS s)
  own : W.ownsRow (B + 1) 34 2 v k (rowS out)
  below : RowKit.Below B w0 W
theorem WS.drewN {B : Nat} {s : Sp} {v : Value} {k : Nat} {out : List Sp} {w0 W : World} (h : WS B s v k out w0 W) (n : Nat) : WS B s v k out w0 (W.drewN n) := ⟨h.box, h.own, below_drewN h.below n⟩
theorem WS.drew {B : Nat} {s : Sp} {v : Value} {k : Nat} {out : List Sp} {w0 W : World} (h : WS B s v k out w0 W) : WS B s v k out w0 W.drew := h.drewN 1
theorem WS.push {B : Nat} {s : Sp} {v v' : Value} {k : Nat} {out : List Sp} {w0 W w6 : World} (h : WS B s v k out w0 W) {tmp : Obj} (x : Sp) (h6 : w6.ownsRow (B + 1) 34 2 v' (k + 1) (rowS out ++ valsS x)) (hg : (W.alloc tmp).grownBy w6 v.ownBlock) : WS B s v' (k + 1) (out ++ [x]) w0 w6 := by
  have hlt := (Array.getElem?_eq_some_iff.1 h.box).1
  refine ⟨?_, by rw [rowS_append]; simpa [rowS] using h6, ?_⟩
  · have hb : (W.alloc tmp).heap[B]? = some (cellsS s) := (RowKit.Below.heap_alloc W tmp B hlt).trans h.box
    refine (hg.block B (by simp; omega) ?_).trans hb
    intro e
    have := (h.own.lt B e.symm).1
    omega
  · refine (h.below.alloc (by omega) tmp).grown hg (by simp; omega) (fun k hk => ?_)
    have := (h.own.lt k hk).1
    omega
theorem WS.set0 {B : Nat} {s : Sp} {v : Value} {k : Nat} {out : List Sp} {w0 W : World} (h : WS B s v k out w0 W) (n : Int) : WS B (n, s.2) v k out w0 (W.setCell ⟨B, 0, none⟩ (.int .i64 n)) :=
  ⟨heap_setCell_same W B 0 _ _ _ h.box, h.own.kept (grownBy_setCell' W B _) (.inr (fun e => by have := (h.own.lt B e).1; omega)), h.below.setCell (p := ⟨B, 0, none⟩) (Nat.le_refl _) _⟩
theorem WS.set1 {B : Nat} {s : Sp} {v : Value} {k : Nat} {out : List Sp} {w0 W : World} (h : WS B s v k out w0 W) (n : Int) : WS B (s.1, n) v k out w0 (W.setCell ⟨B, 1, none⟩ (.int .i64 n)) := by
  have hg : W.grownBy (W.setCell ⟨B, 1, none⟩ (.int .i64 n)) (some B) := ⟨rfl, rfl, rfl, (KeepsWalks.setCell W _ _).size, fun k _ hk => RowKit.Below.heap_setCell _ _ _ k (fun e => hk (by rw [e]))⟩
  exact ⟨heap_setCell_same W B 1 _ _ _ h.box, h.own.kept hg (.inr (fun e => by have := (h.own.lt B e).1; omega)), h.below.setCell (p := ⟨B, 1, none⟩) (Nat.le_refl _) _⟩
theorem WS.out_below {B : Nat} {s : Sp} {v : Value} {k : Nat} {out : List Sp} {w0 W : World} (h : WS B s v k out w0 W) (hB : w0.heap.size = B) : RowKit.Below w0.heap.size w0 W := by rw [hB]; exact h.below
theorem goStep1 {put : Bool} {s x : Sp} {out r : List Sp} (q : x.2 < s.1) : wthGo put s out (x :: r) = wthGo put s (out ++ [x]) r := by
  show (if _ then _ else _) = _
  rw [if_pos q]
theorem goStep2 {s x : Sp} {out r : List Sp} (q1 : ¬ x.2 < s.1) (q2 : s.2 < x.1) : wthGo true s out (x :: r) = wthGo true s (out ++ [x]) r := by
  show (if _ then _ else _) = _
  rw [if_neg q1, if_pos q2, if_pos rfl]
theorem goStep3 {s x : Sp} {out r : List Sp} (q1 : ¬ x.2 < s.1) (q2 : s.2 < x.1) : wthGo false s out (x :: r) = wthGo true s ((out ++ [s]) ++ [x]) r := by
  show (if _ then _ else _) = _
  rw [if_neg q1, if_pos q2, if_neg (by simp)]
theorem goStep4 {put : Bool} {s x : Sp} {out r : List Sp} (q1 : ¬ x.2 < s.1) (q2 : ¬ s.2 < x.1) : wthGo put s out (x :: r) = wthGo put (min s.1 x.1, max s.2 x.2) out r := by
  show (if _ then _ else _) = _
  rw [if_neg q1, if_neg q2]

theorem with_skip {p : Option Addr} {n c : Nat} {x y : Int} {w : World} (h : y ≤ x) : Calls Try.prog 40 #[.slice p n c, .agg #[.int .i64 x, .int .i64 y]] w fun e w' => e = .returned (.slice p n c) ∧ RowKit.Below w.heap.size w w' := by
  go_enter Try.func40, Try.ntmps40
  go_wp2
  go_ret
  exact ⟨rfl, (RowKit.Below.refl _ _).alloc (Nat.le_refl _) _⟩

set_option maxHeartbeats 4000000 in
set_option maxRecDepth 100000 in
theorem with_go {p : Option Addr} {c : Nat} {l : List Sp} {s : Sp} {w : World} (h : SlS (.slice p l.length c) l w) (hl : l.length ≤ 10000) (hs : s.1 < s.2) :
    Calls Try.prog 40 #[.slice p l.length c, .agg #[.int .i64 s.1, .int .i64 s.2]] w fun e w' => ∃ sl, e = .returned sl ∧ SlS sl (wthGo false s [] l) w' ∧ RowKit.Below w.heap.size w w' := by
  have SA := Lib.hid h
  obtain ⟨n, hln⟩ : ∃ n, l.length = n := ⟨_, rfl⟩
  rw [hln] at hl SA ⊢
  have HL := Lib.hid hln
  obtain ⟨R, hR⟩ : ∃ R, wthGo false s [] l = R := ⟨_, rfl⟩
  rw [hR]
  have HR := Lib.hid hR
  obtain ⟨sx, sy⟩ := s
  simp only at hs ⊢
  obtain ⟨i0, hi0, hz0, hz1, hz2⟩ := info_parts infoS
  have HI := Lib.hid hi0
  have HZ0 := Lib.hid hz0
  have HZ1 := Lib.hid hz1
  have HZ2 := Lib.hid hz2
  have hns : ¬ sy ≤ sx := by omega
  clear h hln hR hi0 hz0 hz1 hz2
  go_enter Try.func40, Try.ntmps40
  go_wp2
  have hb0 : WS w.heap.size (sx, sy) (.slice none 0 0) 0 [] w (w.alloc (.cells #[.int .i64 sx, .int .i64 sy] 34)) := ⟨World.alloc_heap_new w _, World.ownsRow_nil _ _ _ _, (RowKit.Below.refl _ _).alloc (Nat.le_refl _) _⟩
  generalize (w.alloc (.cells #[.int .i64 sx, .int .i64 sy] 34)) = W0 at *
  obtain ⟨B, hB⟩ : ∃ B, w.heap.size = B := ⟨_, rfl⟩
  rw [hB] at hb0 ⊢
  have HB := Lib.hid hB
  have HB0 := Lib.hid hb0
  clear hB hb0
  go_loopw [5, 6, 7] (fun s5 s6 s7 wr => ∃ (i k cap : Nat) (p5 : Option Addr) (put : Bool) (s : Sp) (out : List Sp), i ≤ n ∧ s5 = .slice p5 k cap ∧ s6 = .bool put ∧ s7 = .int .i64 i ∧ k ≤ i + 1 ∧ Hid (put = false → k ≤ i) ∧ Hid (out.length = k) ∧ Hid (wthGo put s out (l.drop i) = R) ∧ Hid (WS B s s5 k out w wr)) (fun _ _ s7 _ => n - (intOf s7).toNat)
  case atStart => exact ⟨0, 0, 0, none, false, (sx, sy), [], Nat.zero_le _, rfl, rfl, rfl, by omega, Lib.hid (fun _ => Nat.le_refl _), Lib.hid rfl, HR, HB0⟩
  case round =>
    obtain ⟨i, k, cap, p5, put, s, out, hi, rfl, rfl, rfl, hki, HPK, HK, HG, HW⟩ := hrel
    by_cases h1 : i < n
    · have ia : i < l.length := by rw [HL.out]; exact h1
      have ga : l[i]? = some l[i] := List.getElem?_eq_getElem ia
      obtain ⟨b', off, rfl, hlt, hRS⟩ : ∃ b off, p = some ⟨b, off, none⟩ ∧ b < w.heap.size ∧ RS b off l w := SA.out.at_ (by omega)
      have hG := HG.out
      rw [drop_of ga] at hG
      have hZ := fun W (h : RowKit.Below w.heap.size w W) => (hRS.keep hlt h).at_ ga
      have hi1 : (i : Int) < (n : Int) := by omega
      have hi0 : (0 : Int) ≤ (i : Int) := by omega
      generalize l[i] = xx at *
      obtain ⟨x, y⟩ := xx
      obtain ⟨u, v⟩ := s
      have HZ := Lib.hid hZ
      clear ga hRS hZ HG HR HL SA
      obtain ⟨z0, z1⟩ := HZ.out _ (HW.out.out_below HB.out)
      obtain ⟨⟨e0, e1⟩, f0, f1⟩ := box2 HW.out.box
      simp only at e0 e1
      have hblt := (Array.getElem?_eq_some_iff.1 HW.out.box).1
      by_cases q1 : y < u
      · have d1 : decide (y < u) = true := by simpa using q1
        rw [goStep1 q1] at hG
        have HG := Lib.hid hG
        clear hG
        go_wp2
        go_quiet (fail)
        have hI := fun q => HW.out.drewN q
        clear z0 z1 e0 e1 f0 f1 hblt HW
        generalize hq : World.drewN _ _ = w3
        have HW : Hid (WS B (u, v) (.slice p5 k cap) k out w w3) := Lib.hid (hq ▸ hI _)
        clear hI hq
        obtain ⟨z0, z1⟩ := HZ.out _ (HW.out.out_below HB.out)
        obtain ⟨⟨e0, e1⟩, f0, f1⟩ := box2 HW.out.box
        simp only at e0 e1
        have hblt := (Array.getElem?_eq_some_iff.1 HW.out.box).1
        go_wp2_with (at_builtin; refine wpList_append_own _ rfl (.tmp 28) (.tmp 33) 22 rfl (B + 1) 34 i0 zSp 2 16 Try.underlying22 HI.out HZ0.out HZ1.out HZ2.out rfl (by decide) (.slice p5 (k) cap) (k) (rowS (out)) rfl (HW.out.own.alloc _) ⟨w3.heap.size, 0, none⟩ 1 1 (valsS (x, y)) rfl rfl (news_s w3 (x, y) 34) (one_s _) (by unfold maxLen; omega) (by omega) (by simp; omega) (fun v' w6 hown' hgrow _ => ?_); obtain ⟨g2, cap2, rfl⟩ := ownsRow_succ hown'; have hw6 := HW.out.push (x, y) hown' hgrow; clear hown' hgrow HW; have HW := Lib.hid hw6; clear hw6)
        go_roundw
        case rel => exact ⟨i + 1, k + 1, cap2, _, put, (u, v), out ++ [(x, y)], by omega, rfl, rfl, by go_num, by omega, Lib.hid (fun h => by have := HPK.out h; omega), Lib.hid (by simp [HK.out]), HG, HW⟩
        case measure => simp [intOf]; omega
      · have d1 : decide (y < u) = false := by simpa using q1
        by_cases q2 : v < x
        · have d2 : decide (v < x) = true := by simpa using q2
          cases put with
          | true =>
            rw [goStep2 q1 q2] at hG
            have HG := Lib.hid hG
            clear hG HPK
            go_wp2
            go_quiet (fail)
            have hI := fun q => HW.out.drewN q
            clear z0 z1 e0 e1 f0 f1 hblt HW
            generalize hq : World.drewN _ _ = w2
            have HW : Hid (WS B (u, v) (.slice p5 k cap) k out w w2) := Lib.hid (hq ▸ hI _)
            clear hI hq
            obtain ⟨z0, z1⟩ := HZ.out _ (HW.out.out_below HB.out)
            obtain ⟨⟨e0, e1⟩, f0, f1⟩ := box2 HW.out.box
            simp only at e0 e1
            have hblt := (Array.getElem?_eq_some_iff.1 HW.out.box).1
            go_wp2
            go_quiet (fail)
            have hI := fun q => HW.out.drewN q
            clear z0 z1 e0 e1 f0 f1 hblt HW
            generalize hq : World.drewN _ _ = w3
            have HW : Hid (WS B (u, v) (.slice p5 k cap) k out w w3) := Lib.hid (hq ▸ hI _)
            clear hI hq
            obtain ⟨z0, z1⟩ := HZ.out _ (HW.out.out_below HB.out)
            obtain ⟨⟨e0, e1⟩, f0, f1⟩ := box2 HW.out.box
            simp only at e0 e1
            have hblt := (Array.getElem?_eq_some_iff.1 HW.out.box).1
            go_wp2_with (at_builtin; refine wpList_append_own _ rfl (.tmp 49) (.tmp 54) 22 rfl (B + 1) 34 i0 zSp 2 16 Try.underlying22 HI.out HZ0.out HZ1.out HZ2.out rfl (by decide) (.slice p5 (k) cap) (k) (rowS (out)) rfl (HW.out.own.alloc _) ⟨w3.heap.size, 0, none⟩ 1 1 (valsS (x, y)) rfl rfl (news_s w3 (x, y) 34) (one_s _) (by unfold maxLen; omega) (by omega) (by simp; omega) (fun v' w6 hown' hgrow _ => ?_); obtain ⟨g2, cap2, rfl⟩ := ownsRow_succ hown'; have hw6 := HW.out.push (x, y) hown' hgrow; clear hown' hgrow HW; have HW := Lib.hid hw6; clear hw6)
            go_roundw
            case rel => exact ⟨i + 1, k + 1, cap2, _, true, (u, v), out ++ [(x, y)], by omega, rfl, rfl, by go_num, by omega, Lib.hid (fun h => by cases h), Lib.hid (by simp [HK.out]), HG, HW⟩
            case measure => simp [intOf]; omega
          | false =>
            have hk0 : k ≤ i := HPK.out rfl
            rw [goStep3 q1 q2] at hG
            have HG := Lib.hid hG
            clear hG HPK
            go_wp2
            go_quiet (fail)
            have hI := fun q => HW.out.drewN q
            clear z0 z1 e0 e1 f0 f1 hblt HW
            generalize hq : World.drewN _ _ = w2
            have HW : Hid (WS B (u, v) (.slice p5 k cap) k out w w2) := Lib.hid (hq ▸ hI _)
            clear hI hq
            obtain ⟨z0, z1⟩ := HZ.out _ (HW.out.out_below HB.out)
            obtain ⟨⟨e0, e1⟩, f0, f1⟩ := box2 HW.out.box
            simp only at e0 e1
            have hblt := (Array.getElem?_eq_some_iff.1 HW.out.box).1
            go_wp2
            go_quiet (fail)
            have hI := fun q => HW.out.drewN q
            clear z0 z1 e0 e1 f0 f1 hblt HW
            generalize hq : World.drewN _ _ = w3
            have HW : Hid (WS B (u, v) (.slice p5 k cap) k out w w3) := Lib.hid (hq ▸ hI _)
            clear hI hq
            obtain ⟨z0, z1⟩ := HZ.out _ (HW.out.out_below HB.out)
            obtain ⟨⟨e0, e1⟩, f0, f1⟩ := box2 HW.out.box
            simp only at e0 e1
            have hblt := (Array.getElem?_eq_some_iff.1 HW.out.box).1
            go_wp2_with (first | (at_builtin; refine wpList_append_own _ rfl (.tmp 45) (.tmp 47) 22 rfl (B + 1) 34 i0 zSp 2 16 Try.underlying22 HI.out HZ0.out HZ1.out HZ2.out rfl (by decide) (.slice p5 (k) cap) (k) (rowS (out)) rfl (HW.out.own.alloc _) ⟨w3.heap.size, 0, none⟩ 1 1 (valsS (u, v)) rfl rfl (news_s w3 (u, v) 34) (one_s _) (by unfold maxLen; omega) (by omega) (by simp; omega) (fun v' w6 hown' hgrow _ => ?_); obtain ⟨g2, cap2, rfl⟩ := ownsRow_succ hown'; have hw6 := HW.out.push (u, v) hown' hgrow; clear z0 z1 e0 e1 f0 f1 hblt hown' hgrow HW; have HW := Lib.hid hw6; clear hw6; obtain ⟨z0, z1⟩ := HZ.out _ (HW.out.out_below HB.out); obtain ⟨⟨e0, e1⟩, f0, f1⟩ := box2 HW.out.box; simp only at e0 e1; have hblt := (Array.getElem?_eq_some_iff.1 HW.out.box).1) | (at_builtin; refine wpList_append_own _ rfl (.tmp 49) (.tmp 54) 22 rfl (B + 1) 34 i0 zSp 2 16 Try.underlying22 HI.out HZ0.out HZ1.out HZ2.out rfl (by decide) (.slice (some ⟨g2, 0, none⟩) (k + 1) cap2) (k + 1) (rowS (out ++ [(u, v)])) rfl (HW.out.own.alloc _) ⟨w6.heap.size, 0, none⟩ 1 1 (valsS (x, y)) rfl rfl (news_s w6 (x, y) 34) (one_s _) (by unfold maxLen; omega) (by omega) (by simp; omega) (fun v' w6 hown' hgrow _ => ?_); obtain ⟨g3, cap3, rfl⟩ := ownsRow_succ hown'; have hw6 := HW.out.push (x, y) hown' hgrow; clear hown' hgrow HW; have HW := Lib.hid hw6; clear hw6))
            go_roundw
            case rel => exact ⟨i + 1, k + 1 + 1, cap3, _, true, (u, v), (out ++ [(u, v)]) ++ [(x, y)], by omega, rfl, rfl, by go_num, by omega, Lib.hid (fun h => by cases h), Lib.hid (by simp [HK.out]), HG, HW⟩
            case measure => simp [intOf]; omega
        · have d2 : decide (v < x) = false := by simpa using q2
          rw [goStep4 q1 q2] at hG
          have HG := Lib.hid hG
          clear hG
          go_wp2
          go_quiet (fail)
          have hI := fun q => HW.out.drewN q
          clear z0 z1 e0 e1 f0 f1 hblt HW
          generalize hq : World.drewN _ _ = w2
          have HW : Hid (WS B (u, v) (.slice p5 k cap) k out w w2) := Lib.hid (hq ▸ hI _)
          clear hI hq
          obtain ⟨z0, z1⟩ := HZ.out _ (HW.out.out_below HB.out)
          obtain ⟨⟨e0, e1⟩, f0, f1⟩ := box2 HW.out.box
          simp only at e0 e1
          have hblt := (Array.getElem?_eq_some_iff.1 HW.out.box).1
          go_wp2
          go_quiet (fail)
          have hI := fun q => HW.out.drewN q
          clear z0 z1 e0 e1 f0 f1 hblt HW
          generalize hq : World.drewN _ _ = w3
          have HW : Hid (WS B (u, v) (.slice p5 k cap) k out w w3) := Lib.hid (hq ▸ hI _)
          clear hI hq
          obtain ⟨z0, z1⟩ := HZ.out _ (HW.out.out_below HB.out)
          obtain ⟨⟨e0, e1⟩, f0, f1⟩ := box2 HW.out.box
          simp only at e0 e1
          have hblt := (Array.getElem?_eq_some_iff.1 HW.out.box).1
          go_wp2
          go_region
          have hw4 := (HW.out.set0 (min u x)).drew
          clear z0 z1 e0 e1 f0 f1 hblt HW
          generalize World.drew _ = w4 at *
          have HW := Lib.hid hw4
          clear hw4
          obtain ⟨z0, z1⟩ := HZ.out _ (HW.out.out_below HB.out)
          obtain ⟨⟨e0, e1⟩, f0, f1⟩ := box2 HW.out.box
          simp only at e0 e1
          have hblt := (Array.getElem?_eq_some_iff.1 HW.out.box).1
          go_wp2
          go_region
          have hw4 := (HW.out.set1 (max v y)).drew
          clear z0 z1 e0 e1 f0 f1 hblt HW
          generalize World.drew _ = w5 at *
          have HW := Lib.hid hw4
          clear hw4
          go_wp2
          go_roundw
          case rel => exact ⟨i + 1, k, cap, _, put, _, out, by omega, rfl, rfl, by go_num, by omega, Lib.hid (fun h => by have := HPK.out h; omega), Lib.hid (by exact HK.out), HG, HW⟩
          case measure => simp [intOf]; omega
    · obtain rfl : i = n := by omega
      have hG := HG.out
      rw [List.drop_eq_nil_of_le (by rw [HL.out]; exact Nat.le_refl _)] at hG
      clear HG HR SA HL
      obtain ⟨u, v⟩ := s
      obtain ⟨⟨e0, e1⟩, f0, f1⟩ := box2 HW.out.box
      simp only at e0 e1
      have hblt := (Array.getElem?_eq_some_iff.1 HW.out.box).1
      have h2 : ¬ (i : Int) < (i : Int) := by omega
      cases put with
      | true =>
        obtain rfl : R = out := by rw [← hG]; rfl
        clear hG
        go_wp2
        go_ret
        exact ⟨_, rfl, SlS.owned (base := B + 1) (by rw [HK.out]; exact HW.out.own), HW.out.out_below HB.out⟩
      | false =>
        have hk0 : k ≤ i := HPK.out rfl
        obtain rfl : R = out ++ [(u, v)] := by rw [← hG]; rfl
        clear hG HPK
        go_wp2_with (at_builtin; refine wpList_append_own _ rfl (.tmp 76) (.tmp 78) 22 rfl (B + 1) 34 i0 zSp 2 16 Try.underlying22 HI.out HZ0.out HZ1.out HZ2.out rfl (by decide) (.slice p5 (k) cap) (k) (rowS (out)) rfl (HW.out.own.alloc _) ⟨wr.heap.size, 0, none⟩ 1 1 (valsS (u, v)) rfl rfl (news_s wr (u, v) 34) (one_s _) (by unfold maxLen; omega) (by omega) (by simp; omega) (fun v' w6 hown' hgrow _ => ?_); obtain ⟨g2, cap2, rfl⟩ := ownsRow_succ hown'; have hw6 := HW.out.push (u, v) hown' hgrow; clear hown' hgrow HW; have HW := Lib.hid hw6; clear hw6)
        go_ret
        exact ⟨_, rfl, SlS.owned (base := B + 1) (by rw [List.length_append, HK.out]; exact HW.out.own), HW.out.out_below HB.out⟩
end Go.Proofs.Ytojofkjnakiliaa
