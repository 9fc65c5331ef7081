/- The contracts of with, All, Either and limited of the reference of package span; no condition beyond those that each theorem names. -/
import Derived.Test.YtojofkjnakiliaaS16
namespace Go.Proofs.Ytojofkjnakiliaa
open Go.RowKit Go.Shelf
open SpP

/-- A slice of stretches, as a call returns it. -/
def SlPost (r : List Sp) (w : World) (e : Ending) (w' : World) : Prop := ∃ p c, e = .returned (.slice p r.length c) ∧ SlS (.slice p r.length c) r w' ∧ RowKit.Below w.heap.size w w'
theorem SlPost.of {r : List Sp} {w w' : World} {sl : Value} (h : SlS sl r w') (hb : RowKit.Below w.heap.size w w') : SlPost r w (.returned sl) w' := by
  obtain ⟨p, c, rfl⟩ := h.form
  exact ⟨p, c, rfl, h, hb⟩
theorem fold_len : ∀ (b a : List Sp), (b.foldl wth a).length ≤ a.length + b.length
  | [], _ => Nat.le_refl _
  | s :: b, a => by
    have h1 := wth_len a s
    have h2 := fold_len b (wth a s)
    rw [List.foldl_cons, List.length_cons]
    omega
theorem all_len (l : List Sp) : (allL l).length ≤ l.length := by have := fold_len l []; simpa [allL] using this
theorem with_any {v : Value} {l : List Sp} {w : World} (h : SlS v l w) (hl : l.length ≤ 10000) (x y : Int) :
    Calls Try.prog 40 #[v, .agg #[.int .i64 x, .int .i64 y]] w (SlPost (wth l (x, y)) w) := by
  by_cases q : y ≤ x
  · obtain ⟨p, c, rfl⟩ := h.form
    have e : wth l (x, y) = l := if_pos q
    rw [e]
    exact (with_skip q).mono fun e w' ⟨he, hb⟩ => by subst he; exact SlPost.of (h.keep hb) hb
  · obtain ⟨p, c, rfl⟩ := h.form
    have e : wth l (x, y) = wthGo false (x, y) [] l := if_neg q
    rw [e]
    exact (with_go (s := (x, y)) h hl (by show x < y; omega)).mono fun e w' ⟨sl, he, hs, hb⟩ => by subst he; exact SlPost.of hs hb

set_option maxHeartbeats 2000000 in
set_option maxRecDepth 100000 in
theorem all_any {v : Value} {l : List Sp} {w : World} (h : SlS v l w) (hl : l.length ≤ 9000) : Calls Try.prog 30 #[v] w (SlPost (allL l) w) := by
  obtain ⟨R, hR⟩ : ∃ R, l.foldl wth [] = R := ⟨_, rfl⟩
  show Calls _ _ _ _ (SlPost (l.foldl wth []) w)
  rw [hR]
  obtain ⟨p, c, rfl⟩ := h.form
  have SA := Lib.hid h
  obtain ⟨n, hln⟩ : ∃ n, l.length = n := ⟨_, rfl⟩
  rw [hln] at hl SA ⊢
  have HL := Lib.hid hln
  have HR := Lib.hid hR
  clear h hln hR
  go_enter Try.func30, Try.ntmps30
  go_wp2
  go_loopw [3, 4] (fun s3 s4 wr => ∃ (i k : Nat) (p3 : Option Addr) (c3 : Nat) (o : List Sp), i ≤ n ∧ s3 = .slice p3 k c3 ∧ s4 = .int .i64 i ∧ k ≤ i ∧ Hid (o.length = k) ∧ Hid ((l.drop i).foldl wth o = R) ∧ Hid (SlS s3 o wr) ∧ Hid (RowKit.Below w.heap.size w wr)) (fun _ s4 _ => n - (intOf s4).toNat)
  case atStart => exact ⟨0, 0, none, 0, [], Nat.zero_le _, rfl, rfl, Nat.le_refl _, Lib.hid rfl, HR, Lib.hid (SlS.nil none 0 _), Lib.hid (RowKit.Below.refl _ _)⟩
  case round =>
    obtain ⟨i, k, p3, c3, o, hi, rfl, rfl, hk, HK, HG, HO, HW⟩ := hrel
    by_cases h1 : i < n
    · have ia : i < l.length := by rw [HL.out]; exact h1
      have ga : l[i]? = some l[i] := List.getElem?_eq_getElem ia
      obtain ⟨b', off, rfl, hlt, hRS⟩ : ∃ b off, p = some ⟨b, off, none⟩ ∧ b < w.heap.size ∧ RS b off l w := SA.out.at_ (by omega)
      obtain ⟨z0, z1⟩ := (hRS.keep hlt HW.out).at_ ga
      have hG := HG.out
      rw [drop_of ga, List.foldl_cons] at hG
      have hi1 : (i : Int) < (n : Int) := by omega
      have hi0 : (0 : Int) ≤ (i : Int) := by omega
      generalize l[i] = xx at *
      obtain ⟨x, y⟩ := xx
      simp only at z0 z1
      have hwl := wth_len o (x, y)
      rw [HK.out] at hwl
      have hc := with_any (v := .slice p3 k c3) HO.out (by rw [HK.out]; omega) x y
      have HC := Lib.hid hc
      have HG := Lib.hid hG
      clear ga hRS hG hc HO
      go_wp2_with (go_at_call 40; refine HC.out.mono ?_; rintro e w3 ⟨p4, c4, rfl, hs3, hb3⟩; have HS3 := Lib.hid hs3; have HB3 := Lib.hid (HW.out.trans (hb3.mono HW.out.size)); clear hs3 hb3)
      go_roundw
      case rel => exact ⟨i + 1, _, p4, c4, wth o (x, y), by omega, rfl, by go_num, by omega, Lib.hid rfl, HG, HS3, HB3⟩
      case measure => simp [intOf]; omega
    · obtain rfl : i = n := by omega
      have hG := HG.out
      rw [List.drop_eq_nil_of_le (by rw [HL.out]; exact Nat.le_refl _)] at hG
      obtain rfl : R = o := by rw [← hG]; rfl
      clear hG HG HR SA HL
      have hi2 : ¬ (i : Int) < (i : Int) := by omega
      go_wp2
      go_ret
      exact SlPost.of HO.out HW.out

set_option maxHeartbeats 2000000 in
set_option maxRecDepth 100000 in
theorem either_any {va vb : Value} {a l : List Sp} {w : World} (ha : SlS va a w) (h : SlS vb l w) (la : a.length ≤ 900) (hl : l.length ≤ 900) : Calls Try.prog 34 #[va, vb] w (SlPost (l.foldl wth (allL a)) w) := by
  obtain ⟨R, hR⟩ : ∃ R, l.foldl wth (allL a) = R := ⟨_, rfl⟩
  rw [hR]
  have HA := Lib.hid (all_any ha (by omega))
  have hal := all_len a
  obtain ⟨pa, ca, rfl⟩ := ha.form
  obtain ⟨p, c, rfl⟩ := h.form
  have SA := Lib.hid h
  obtain ⟨n, hln⟩ : ∃ n, l.length = n := ⟨_, rfl⟩
  rw [hln] at hl SA ⊢
  have HL := Lib.hid hln
  have HR := Lib.hid hR
  clear h hln hR ha
  go_enter Try.func34, Try.ntmps34
  go_wp2_with (go_at_call 30; refine HA.out.mono ?_; rintro e w1 ⟨p2, c2, rfl, hs1, hb1⟩; have HS1 := Lib.hid hs1; have HB1 := Lib.hid hb1; clear hs1 hb1)
  obtain ⟨A, hA⟩ : ∃ A, allL a = A := ⟨_, rfl⟩
  rw [hA] at HS1 HR hal ⊢
  clear HA hA
  obtain ⟨K, hK⟩ : ∃ K, A.length = K := ⟨_, rfl⟩
  rw [hK] at hal HS1 ⊢
  have HK0 := Lib.hid hK
  clear hK
  go_loopw [5, 6] (fun s3 s4 wr => ∃ (i k : Nat) (p3 : Option Addr) (c3 : Nat) (o : List Sp), i ≤ n ∧ s3 = .slice p3 k c3 ∧ s4 = .int .i64 i ∧ k ≤ K + i ∧ Hid (o.length = k) ∧ Hid ((l.drop i).foldl wth o = R) ∧ Hid (SlS s3 o wr) ∧ Hid (RowKit.Below w.heap.size w wr)) (fun _ s4 _ => n - (intOf s4).toNat)
  case atStart => exact ⟨0, K, p2, c2, A, Nat.zero_le _, rfl, rfl, by omega, HK0, HR, HS1, HB1⟩
  case round =>
    obtain ⟨i, k, p3, c3, o, hi, rfl, rfl, hk, HK, HG, HO, HW⟩ := hrel
    by_cases h1 : i < n
    · have ia : i < l.length := by rw [HL.out]; exact h1
      have ga : l[i]? = some l[i] := List.getElem?_eq_getElem ia
      obtain ⟨b', off, rfl, hlt, hRS⟩ : ∃ b off, p = some ⟨b, off, none⟩ ∧ b < w.heap.size ∧ RS b off l w := SA.out.at_ (by omega)
      obtain ⟨z0, z1⟩ := (hRS.keep hlt HW.out).at_ ga
      have hG := HG.out
      rw [drop_of ga, List.foldl_cons] at hG
      have hi1 : (i : Int) < (n : Int) := by omega
      have hi0 : (0 : Int) ≤ (i : Int) := by omega
      generalize l[i] = xx at *
      obtain ⟨x, y⟩ := xx
      simp only at z0 z1
      have hwl := wth_len o (x, y)
      rw [HK.out] at hwl
      have hc := with_any (v := .slice p3 k c3) HO.out (by rw [HK.out]; omega) x y
      have HC := Lib.hid hc
      have HG := Lib.hid hG
      clear ga hRS hG hc HO
      go_wp2_with (go_at_call 40; refine HC.out.mono ?_; rintro e w3 ⟨p4, c4, rfl, hs3, hb3⟩; have HS3 := Lib.hid hs3; have HB3 := Lib.hid (HW.out.trans (hb3.mono HW.out.size)); clear hs3 hb3)
      go_roundw
      case rel => exact ⟨i + 1, _, p4, c4, wth o (x, y), by omega, rfl, by go_num, by omega, Lib.hid rfl, HG, HS3, HB3⟩
      case measure => simp [intOf]; omega
    · obtain rfl : i = n := by omega
      have hG := HG.out
      rw [List.drop_eq_nil_of_le (by rw [HL.out]; exact Nat.le_refl _)] at hG
      obtain rfl : R = o := by rw [← hG]; rfl
      clear hG HG HR SA HL
      have hi2 : ¬ (i : Int) < (i : Int) := by omega
      go_wp2
      go_ret
      exact SlPost.of HO.out HW.out

theorem limited_any {v : Value} {l : List Sp} {w : World} (h : SlS v l w) (hl : l.length ≤ maxLen) : Calls Try.prog 33 #[v] w (ResPost (if l.length ≤ 20000 then (l, 0) else ([], 2)) w) := by
  unfold maxLen at hl
  obtain ⟨p, c, rfl⟩ := h.form
  have SA := Lib.hid h
  obtain ⟨n, hln⟩ : ∃ n, l.length = n := ⟨_, rfl⟩
  rw [hln] at hl SA ⊢
  clear h hln
  by_cases q : n ≤ 20000
  · rw [if_pos q]
    have q2 : ¬ (20000 : Int) < (n : Int) := by omega
    go_enter Try.func33, Try.ntmps33
    go_wp2
    go_ret2
    exact ⟨_, rfl, SA.out, RowKit.Below.refl _ _⟩
  · rw [if_neg q]
    have q2 : (20000 : Int) < (n : Int) := by omega
    go_enter Try.func33, Try.ntmps33
    go_wp2
    go_ret2
    exact ⟨_, rfl, SlS.nil none 0 _, RowKit.Below.refl _ _⟩
end Go.Proofs.Ytojofkjnakiliaa
