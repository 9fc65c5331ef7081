/- The contract of Not of the reference of package span; no condition beyond those that each theorem names. -/
import Derived.Test.YtojofkjnakiliaaS17
namespace Go.Proofs.Ytojofkjnakiliaa
open Go.RowKit Go.Shelf
open SpP

theorem own_row {W : World} {base : Nat} {v : Value} {k : Nat} {out : List Sp} {x : Sp} (h : W.ownsRow base 34 2 v (k + 1) (rowS out ++ valsS x)) : W.ownsRow base 34 2 v (k + 1) (rowS (out ++ [x])) := by
  rw [rowS_append]
  simpa [rowS] using h
theorem not_end (a : Int) : notL a [] = if a < 20000000 then [(a, 20000000)] else [] := rfl
theorem not_go {a : Int} {s : Sp} {r : List Sp} (h : a < s.1) : notL a (s :: r) = (a, s.1) :: notL s.2 r := if_pos h
theorem not_skip {a : Int} {s : Sp} {r : List Sp} (h : ¬ a < s.1) : notL a (s :: r) = notL s.2 r := if_neg h

set_option maxHeartbeats 2000000 in
set_option maxRecDepth 100000 in
theorem not_any {v : Value} {l : List Sp} {w : World} (h : SlS v l w) (hl : l.length ≤ 9000) : Calls Try.prog 38 #[v] w (SlPost (notL 0 l) w) := by
  obtain ⟨R, hR⟩ : ∃ R, notL 0 l = R := ⟨_, rfl⟩
  rw [hR]
  obtain ⟨p, c, rfl⟩ := h.form
  have SA := Lib.hid h
  obtain ⟨n, hln⟩ : ∃ n, l.length = n := ⟨_, rfl⟩
  rw [hln] at hl SA ⊢
  have HL := Lib.hid hln
  have HR := Lib.hid hR
  obtain ⟨i0, hi0, hz0, hz1, hz2⟩ := info_parts infoS
  have HI := Lib.hid hi0
  have HZ0 := Lib.hid hz0
  have HZ1 := Lib.hid hz1
  have HZ2 := Lib.hid hz2
  clear h hln hR hi0 hz0 hz1 hz2
  go_enter Try.func38, Try.ntmps38
  go_wp2
  go_loopw [3, 4, 5] (fun s3 s4 s5 wr => ∃ (i k : Nat) (p3 : Option Addr) (c3 : Nat) (o : List Sp) (at_ : Int), i ≤ n ∧ s3 = .slice p3 k c3 ∧ s4 = .int .i64 at_ ∧ s5 = .int .i64 i ∧ k ≤ i ∧ Hid (o.length = k) ∧ Hid (o ++ notL at_ (l.drop i) = R) ∧ Hid (wr.ownsRow w.heap.size 34 2 s3 k (rowS o)) ∧ Hid (RowKit.Below w.heap.size w wr)) (fun _ _ s5 _ => n - (intOf s5).toNat)
  case atStart => exact ⟨0, 0, none, 0, [], 0, Nat.zero_le _, rfl, rfl, rfl, Nat.le_refl _, Lib.hid rfl, HR, Lib.hid (World.ownsRow_nil _ _ _ _), Lib.hid (RowKit.Below.refl _ _)⟩
  case round =>
    obtain ⟨i, k, p3, c3, o, at_, hi, rfl, rfl, rfl, hk, HK, HG, HO, HW⟩ := hrel
    have hws := HW.out.size
    by_cases h1 : i < n
    · have ia : i < l.length := by rw [HL.out]; exact h1
      have ga : l[i]? = some l[i] := List.getElem?_eq_getElem ia
      obtain ⟨b', off, rfl, hlt, hRS⟩ : ∃ b off, p = some ⟨b, off, none⟩ ∧ b < w.heap.size ∧ RS b off l w := SA.out.at_ (by omega)
      have hZ := fun W (h : RowKit.Below w.heap.size w W) => (hRS.keep hlt h).at_ ga
      have hG := HG.out
      rw [drop_of ga] at hG
      have hi1 : (i : Int) < (n : Int) := by omega
      have hi0 : (0 : Int) ≤ (i : Int) := by omega
      generalize l[i] = xx at *
      obtain ⟨x, y⟩ := xx
      have HZ := Lib.hid hZ
      clear ga hRS hZ HG HR SA HL
      obtain ⟨z0, z1⟩ := HZ.out _ HW.out
      simp only at z0 z1
      by_cases q : at_ < x
      · rw [not_go (s := (x, y)) q] at hG
        have HG2 : Hid ((o ++ [(at_, x)]) ++ notL y (l.drop (i + 1)) = R) := Lib.hid (by rw [List.append_assoc]; exact hG)
        clear hG
        go_wp2_with (at_builtin; refine wpList_append_own _ rfl (.tmp 19) (.tmp 27) 22 rfl w.heap.size 34 i0 zSp 2 16 Try.underlying22 HI.out HZ0.out HZ1.out HZ2.out rfl (by decide) (.slice p3 (k) c3) (k) (rowS (o)) rfl (HO.out.alloc _) ⟨wr.heap.size, 0, none⟩ 1 1 (valsS (at_, x)) rfl rfl (news_s wr (at_, x) 34) (one_s _) (by unfold maxLen; omega) (by omega) (by simp; omega) (fun v' w6 hown' hgrow _ => ?_); obtain ⟨g2, cap2, rfl⟩ := ownsRow_succ hown'; have hw6 := own_keep HW.out HO.out hgrow; have HO6 := Lib.hid (own_row hown'); clear HO HW hown' hgrow; have HW := Lib.hid hw6; clear hw6; clear z0 z1; obtain ⟨z0, z1⟩ := HZ.out _ HW.out; simp only at z0 z1)
        go_roundw
        case rel => exact ⟨i + 1, k + 1, _, cap2, o ++ [(at_, x)], y, by omega, rfl, rfl, by go_num, by omega, Lib.hid (by rw [List.length_append, HK.out]; rfl), HG2, HO6, HW⟩
        case measure => simp [intOf]; omega
      · rw [not_skip (s := (x, y)) q] at hG
        have HG2 := Lib.hid hG
        clear hG
        go_wp2
        go_roundw
        case rel => exact ⟨i + 1, k, p3, c3, o, y, by omega, rfl, rfl, by go_num, by omega, HK, HG2, HO, HW⟩
        case measure => simp [intOf]; omega
    · obtain rfl : i = n := by omega
      have hG := HG.out
      rw [List.drop_eq_nil_of_le (by rw [HL.out]; exact Nat.le_refl _), not_end] at hG
      clear HG HR SA HL
      have hi2 : ¬ (i : Int) < (i : Int) := by omega
      by_cases q : at_ < 20000000
      · rw [if_pos q] at hG
        subst hG
        go_wp2_with (at_builtin; refine wpList_append_own _ rfl (.tmp 36) (.tmp 39) 22 rfl w.heap.size 34 i0 zSp 2 16 Try.underlying22 HI.out HZ0.out HZ1.out HZ2.out rfl (by decide) (.slice p3 (k) c3) (k) (rowS (o)) rfl (HO.out.alloc _) ⟨wr.heap.size, 0, none⟩ 1 1 (valsS (at_, 20000000)) rfl rfl (news_s wr (at_, 20000000) 34) (one_s _) (by unfold maxLen; omega) (by omega) (by simp; omega) (fun v' w6 hown' hgrow _ => ?_); obtain ⟨g2, cap2, rfl⟩ := ownsRow_succ hown'; have hw6 := own_keep HW.out HO.out hgrow; have HO6 := Lib.hid (own_row hown'); clear HO HW hown' hgrow; have HW := Lib.hid hw6; clear hw6)
        go_ret
        exact SlPost.of (SlS.owned (base := w.heap.size) (by rw [List.length_append, HK.out]; exact HO6.out)) HW.out
      · rw [if_neg q, List.append_nil] at hG
        subst hG
        go_wp2
        go_ret
        exact SlPost.of (SlS.owned (base := w.heap.size) (by rw [HK.out]; exact HO.out)) HW.out
end Go.Proofs.Ytojofkjnakiliaa
