/- The contracts of usable of layer 8's laws and of what it calls: a set can be signed; no condition beyond those that each theorem names. -/
import Derived.Test.YtpkjpogkimjpoaaGreatDoorVR
import Derived.Test.YtpkjpogkimjpoaaGreatDoorG5
namespace Go.Proofs.YtpkjpogkimjpoaaGreatDoor
set_option linter.unusedSimpArgs false
set_option linter.unusedVariables false
open Go.RowKit
open NmP

theorem few1 (x : ByteArray) (p : Option Addr) (n c : Nat) (g : Nat) (w : World) (hx : x.size ≤ maxLen) (hn : n ≤ maxLen) (h0 : w.cell? ⟨g, 0, none⟩ = some (.string x)) (h3 : w.cell? ⟨g, 3, none⟩ = some (.slice p n c)) :
    Calls Tryz.prog 31 #[.slice (some ⟨g, 0, none⟩) 1 1] w fun e w' => e = .returned (.bool (decide (n ≤ 20) && decide (x.size ≤ 200))) ∧ w = w' := by
  unfold maxLen at hx hn
  have hnn : (0 : Int) ≤ (n : Int) := by omega
  have hxx : (0 : Int) ≤ (x.size : Int) := by omega
  by_cases q1 : n ≤ 20
  · have d1 : ¬ (20 : Int) < (n : Int) := by omega
    by_cases q2 : x.size ≤ 200
    · have d2 : ¬ (200 : Int) < (x.size : Int) := by omega
      rw [decide_eq_true q1, decide_eq_true q2]
      go_enter Tryz.func31, Tryz.ntmps31
      go_wp2
      go_loop [3] (fun s3 => ∃ k : Nat, k ≤ 1 ∧ s3 = .int .i64 k) (fun s3 => 1 - (intOf s3).toNat)
      case atStart => exact ⟨0, by omega, rfl⟩
      case round =>
        obtain ⟨k, hk, rfl⟩ := hrel
        have hk2 : k = 0 ∨ k = 1 := by omega
        rcases hk2 with rfl | rfl
        · go_wp2
          go_round
          · exact ⟨1, by omega, rfl⟩
          · simp [intOf]
        · go_wp2
          go_ret
          exact ⟨rfl, rfl⟩
    · have d2 : (200 : Int) < (x.size : Int) := by omega
      rw [decide_eq_true q1, decide_eq_false q2]
      go_enter Tryz.func31, Tryz.ntmps31
      go_wp2
      go_loop [3] (fun s3 => s3 = .int .i64 0) (fun s3 => 1 - (intOf s3).toNat)
      case atStart => rfl
      case round =>
        subst hrel
        go_wp2
        go_ret
        exact ⟨rfl, rfl⟩
  · have d1 : (20 : Int) < (n : Int) := by omega
    rw [decide_eq_false q1, Bool.false_and]
    go_enter Tryz.func31, Tryz.ntmps31
    go_wp2
    go_loop [3] (fun s3 => s3 = .int .i64 0) (fun s3 => 1 - (intOf s3).toNat)
    case atStart => rfl
    case round =>
      subst hrel
      go_wp2
      go_ret
      exact ⟨rfl, rfl⟩
def fewB (s : St) : Bool := decide (s.l.length ≤ 20) && decide (s.x.size ≤ 200)
theorem few_any (s : St) (w : World) (hs : s.In w) (hn : s.l.length ≤ maxLen) :
    Calls Tryz.prog 12 #[.agg #[.string s.x, .int .i64 s.typ, .int .i64 s.life, s.v]] w (ToB (fewB s) w) := by
  obtain ⟨p, c, hv⟩ := hs.hA.form
  have hx := hs.hx
  obtain ⟨x, typ, life, v, l⟩ := s
  simp only at hv hx hn ⊢
  subst hv
  have hb : Below w.heap.size w ((w.alloc (.cells #[.string x, .int .i64 typ, .int .i64 life, .slice p l.length c] 24)).alloc (.cells #[.string x, .int .i64 typ, .int .i64 life, .slice p l.length c] 24)) := ((Below.refl _ w).alloc (Nat.le_refl _) _).alloc (by simp) _
  have hk := heap_alloc_new (w.alloc (.cells #[.string x, .int .i64 typ, .int .i64 life, .slice p l.length c] 24)) (.cells #[.string x, .int .i64 typ, .int .i64 life, .slice p l.length c] 24)
  have hk2 : ((w.alloc (.cells #[.string x, .int .i64 typ, .int .i64 life, .slice p l.length c] 24)).alloc (.cells #[.string x, .int .i64 typ, .int .i64 life, .slice p l.length c] 24)).heap[w.heap.size + 1]? = some (Obj.cells #[.string x, .int .i64 typ, .int .i64 life, .slice p l.length c] 24 (0, 0)) := by simpa using hk
  have HF := Lib.hid (few1 x p l.length c (w.heap.size + 1) _ hx hn (cell_of_blk hk2 0 _ rfl) (cell_of_blk hk2 3 _ rfl))
  have HB := Lib.hid hb
  clear hb hk hk2 hs
  unfold fewB
  simp only
  generalize l.length = n at *
  generalize (decide (n ≤ 20) && decide (x.size ≤ 200)) = r at *
  go_enter Tryz.func12, Tryz.ntmps12
  go_wp2_with (go_at_call 31; (with_reducible refine (HF.out).mono ?_); rintro e w1 ⟨rfl, rfl⟩)
  go_ret
  exact ⟨rfl, HB.out⟩
theorem rkey_any (n a : Int) (w : World) : Calls Tryz.prog 14 #[.agg #[.int .i64 n, .int .i64 a]] w (ToB (keyB n a) w) := by
  unfold keyB
  have HB := Lib.hid ((Below.refl _ w).alloc (Nat.le_refl _) (.cells #[.int .i64 n, .int .i64 a] 26))
  by_cases q0 : 1 ≤ n
  case neg =>
    rw [show decide (1 ≤ n) = false from decide_eq_false q0]
    go_enter Tryz.func14, Tryz.ntmps14
    go_wp2
    go_ret
    exact ⟨by simp, HB.out⟩
  by_cases q1 : n ≤ 1000000
  case neg =>
    rw [show decide (n ≤ 1000000) = false from decide_eq_false q1]
    go_enter Tryz.func14, Tryz.ntmps14
    go_wp2
    go_ret
    exact ⟨by simp, HB.out⟩
  by_cases q2 : 1 ≤ a
  case neg =>
    rw [show decide (1 ≤ a) = false from decide_eq_false q2]
    go_enter Tryz.func14, Tryz.ntmps14
    go_wp2
    go_ret
    exact ⟨by simp, HB.out⟩
  by_cases q3 : a ≤ 3
  case neg =>
    rw [show decide (a ≤ 3) = false from decide_eq_false q3]
    go_enter Tryz.func14, Tryz.ntmps14
    go_wp2
    go_ret
    exact ⟨by simp, HB.out⟩
  rw [show decide (1 ≤ n) = true from decide_eq_true q0, show decide (n ≤ 1000000) = true from decide_eq_true q1, show decide (1 ≤ a) = true from decide_eq_true q2, show decide (a ≤ 3) = true from decide_eq_true q3]
  go_enter Tryz.func14, Tryz.ntmps14
  go_wp2
  go_ret
  exact ⟨by simp, HB.out⟩
theorem rwin_any (f u : Int) (w : World) : Calls Tryz.prog 15 #[.int .i64 f, .int .i64 u] w fun e w' => e = .returned (.bool (winB f u)) ∧ w = w' := by
  unfold winB
  by_cases q0 : 0 ≤ f
  case neg =>
    rw [show decide (0 ≤ f) = false from decide_eq_false q0]
    go_enter Tryz.func15, Tryz.ntmps15
    go_wp2
    go_ret
    exact ⟨by simp, rfl⟩
  by_cases q1 : f ≤ u
  case neg =>
    rw [show decide (f ≤ u) = false from decide_eq_false q1]
    go_enter Tryz.func15, Tryz.ntmps15
    go_wp2
    go_ret
    exact ⟨by simp, rfl⟩
  by_cases q2 : u ≤ 20000000
  case neg =>
    rw [show decide (u ≤ 20000000) = false from decide_eq_false q2]
    go_enter Tryz.func15, Tryz.ntmps15
    go_wp2
    go_ret
    exact ⟨by simp, rfl⟩
  rw [show decide (0 ≤ f) = true from decide_eq_true q0, show decide (f ≤ u) = true from decide_eq_true q1, show decide (u ≤ 20000000) = true from decide_eq_true q2]
  go_enter Tryz.func15, Tryz.ntmps15
  go_wp2
  go_ret
  exact ⟨by simp, rfl⟩
/-- What the boxes of usable hold. -/
structure UBx (w W : World) (s : St) (n a : Int) : Prop where
  bel : Below w.heap.size w W
  sx : W.heap[w.heap.size]? = some (Obj.cells #[.string s.x, .int .i64 s.typ, .int .i64 s.life, s.v] 24 (0, 0))
  ky : W.heap[w.heap.size + 1]? = some (Obj.cells #[.int .i64 n, .int .i64 a] 26 (0, 0))
theorem UBx.keep {w W W' : World} {s : St} {n a : Int} (h : UBx w W s n a) (hb : Below W.heap.size W W') : UBx w W' s n a :=
  ⟨h.bel.trans (hb.mono h.bel.size), (hb.block _ (Array.getElem?_eq_some_iff.1 h.sx).1).trans h.sx, (hb.block _ (Array.getElem?_eq_some_iff.1 h.ky).1).trans h.ky⟩
def usableB (s : St) (z : ByteArray) (n a f u : Int) : Bool := fewB s && decide (z.size ≤ 100) && s.ok && keyB n a && winB f u && validB z.toList && !wildB z.toList && inB s.x.toList z.toList
theorem usable_sign {s : St} {z : ByteArray} {n a f u : Int} (h : usableB s z n a f u = true) : signB s z n a f u = true := by
  unfold usableB at h
  unfold signB
  simp only [Bool.and_eq_true] at h ⊢
  obtain ⟨⟨⟨⟨⟨⟨⟨h1, h2⟩, h3⟩, h4⟩, h5⟩, h6⟩, h7⟩, h8⟩ := h
  exact ⟨⟨⟨⟨h3, h4⟩, h5⟩, h7⟩, h8⟩

set_option maxHeartbeats 4000000 in
set_option maxRecDepth 100000 in
theorem usable_any (s : St) (z : ByteArray) (n a f u : Int) (w : World) (hs : s.In w) (hn : s.l.length ≤ maxLen) (hz : z.size ≤ maxLen) :
    Calls Tryz.prog 6 #[.agg #[.string s.x, .int .i64 s.typ, .int .i64 s.life, s.v], .string z, .agg #[.int .i64 n, .int .i64 a], .int .i64 f, .int .i64 u] w (ToB (usableB s z n a f u) w) := by
  have hb0 : Below w.heap.size w ((w.alloc (.cells #[.string s.x, .int .i64 s.typ, .int .i64 s.life, s.v] 24)).alloc (.cells #[.int .i64 n, .int .i64 a] 26)) := ((Below.refl _ w).alloc (Nat.le_refl _) _).alloc (by simp) _
  have hsx : ((w.alloc (.cells #[.string s.x, .int .i64 s.typ, .int .i64 s.life, s.v] 24)).alloc (.cells #[.int .i64 n, .int .i64 a] 26)).heap[w.heap.size]? = some (Obj.cells #[.string s.x, .int .i64 s.typ, .int .i64 s.life, s.v] 24 (0, 0)) := by
    rw [heap_alloc_old _ _ (by simp)]; exact heap_alloc_new w _
  have hky : ((w.alloc (.cells #[.string s.x, .int .i64 s.typ, .int .i64 s.life, s.v] 24)).alloc (.cells #[.int .i64 n, .int .i64 a] 26)).heap[w.heap.size + 1]? = some (Obj.cells #[.int .i64 n, .int .i64 a] 26 (0, 0)) := by
    have := heap_alloc_new (w.alloc (.cells #[.string s.x, .int .i64 s.typ, .int .i64 s.life, s.v] 24)) (.cells #[.int .i64 n, .int .i64 a] 26)
    simpa using this
  have U0 := Lib.hid (UBx.mk hb0 hsx hky)
  have c0 := cell_of_blk hsx 0 (.string s.x) rfl
  have c1 := cell_of_blk hsx 1 (.int .i64 s.typ) rfl
  have c2 := cell_of_blk hsx 2 (.int .i64 s.life) rfl
  have c3 := cell_of_blk hsx 3 s.v rfl
  have d0 := cell_of_blk hky 0 (.int .i64 n) rfl
  have d1 := cell_of_blk hky 1 (.int .i64 a) rfl
  clear hb0 hsx hky
  have hzz : (0 : Int) ≤ (z.size : Int) := by omega
  have C1 := Lib.hid (fun W (h : s.In W) => few_any s W h hn)
  have C2 := Lib.hid (fun W (h : s.In W) => (show Calls Tryz.prog 13 #[.agg #[.string s.x, .int .i64 s.typ, .int .i64 s.life, s.v]] W (ToB s.ok W) from rvset_any s.x s.typ s.life s.v s.l W h.hx hn h.hs h.hA))
  have C3 := Lib.hid (fun W => rkey_any n a W)
  have C4 := Lib.hid (fun W => rwin_any f u W)
  have C5 := Lib.hid (fun W => rvalid_any z W hz)
  have C6 := Lib.hid (fun W => rwild_any z W hz)
  have C7 := Lib.hid (fun W => runder_any s.x z W hs.hx hz)
  have HS := Lib.hid hs
  clear hs
  obtain ⟨R, hR⟩ : ∃ R, usableB s z n a f u = R := ⟨_, rfl⟩
  rw [hR]
  unfold usableB at hR
  obtain ⟨b0, e0⟩ : ∃ r, fewB s = r := ⟨_, rfl⟩
  rw [e0] at C1 hR
  obtain ⟨b2, e2⟩ : ∃ r, s.ok = r := ⟨_, rfl⟩
  rw [e2] at C2 hR
  obtain ⟨b3, e3⟩ : ∃ r, keyB n a = r := ⟨_, rfl⟩
  rw [e3] at C3 hR
  obtain ⟨b4, e4⟩ : ∃ r, winB f u = r := ⟨_, rfl⟩
  rw [e4] at C4 hR
  obtain ⟨b5, e5⟩ : ∃ r, validB z.toList = r := ⟨_, rfl⟩
  rw [e5] at C5 hR
  obtain ⟨b6, e6⟩ : ∃ r, wildB z.toList = r := ⟨_, rfl⟩
  rw [e6] at C6 hR
  unfold UnderTo at C7
  obtain ⟨b7, e7⟩ : ∃ r, inB s.x.toList z.toList = r := ⟨_, rfl⟩
  rw [e7] at C7 hR
  clear e0 e2 e3 e4 e5 e6 e7
  cases b0
  · obtain rfl : R = false := by rw [← hR]; rfl
    clear hR
    go_enter Tryz.func6, Tryz.ntmps6
    go_wp2_with (first | (go_at_call 12; (with_reducible refine (C1.out _ (HS.out.keep U0.out.bel)).mono ?_); rintro e w1 ⟨rfl, hb⟩; have U1 := Lib.hid (U0.out.keep hb); clear hb; have c0 := cell_of_blk U1.out.sx 0 (.string s.x) rfl; have c1 := cell_of_blk U1.out.sx 1 (.int .i64 s.typ) rfl; have c2 := cell_of_blk U1.out.sx 2 (.int .i64 s.life) rfl; have c3 := cell_of_blk U1.out.sx 3 s.v rfl; have d0 := cell_of_blk U1.out.ky 0 (.int .i64 n) rfl; have d1 := cell_of_blk U1.out.ky 1 (.int .i64 a) rfl))
    go_ret
    exact ⟨rfl, U1.out.bel⟩
  by_cases hz1 : z.size ≤ 100
  case neg =>
    obtain rfl : R = false := by rw [← hR, decide_eq_false hz1]; rfl
    have z1 : (100 : Int) < (z.size : Int) := by omega
    clear hR hz1
    go_enter Tryz.func6, Tryz.ntmps6
    go_wp2_with (first | (go_at_call 12; (with_reducible refine (C1.out _ (HS.out.keep U0.out.bel)).mono ?_); rintro e w1 ⟨rfl, hb⟩; have U1 := Lib.hid (U0.out.keep hb); clear hb; have c0 := cell_of_blk U1.out.sx 0 (.string s.x) rfl; have c1 := cell_of_blk U1.out.sx 1 (.int .i64 s.typ) rfl; have c2 := cell_of_blk U1.out.sx 2 (.int .i64 s.life) rfl; have c3 := cell_of_blk U1.out.sx 3 s.v rfl; have d0 := cell_of_blk U1.out.ky 0 (.int .i64 n) rfl; have d1 := cell_of_blk U1.out.ky 1 (.int .i64 a) rfl))
    go_ret
    exact ⟨rfl, U1.out.bel⟩
  have z1 : ¬ (100 : Int) < (z.size : Int) := by omega
  rw [decide_eq_true hz1] at hR
  clear hz1
  cases b2
  case false =>
    obtain rfl : R = false := by rw [← hR]; rfl
    clear hR
    go_enter Tryz.func6, Tryz.ntmps6
    go_wp2_with (first | (go_at_call 12; (with_reducible refine (C1.out _ (HS.out.keep U0.out.bel)).mono ?_); rintro e w1 ⟨rfl, hb⟩; have U1 := Lib.hid (U0.out.keep hb); clear hb; have c0 := cell_of_blk U1.out.sx 0 (.string s.x) rfl; have c1 := cell_of_blk U1.out.sx 1 (.int .i64 s.typ) rfl; have c2 := cell_of_blk U1.out.sx 2 (.int .i64 s.life) rfl; have c3 := cell_of_blk U1.out.sx 3 s.v rfl; have d0 := cell_of_blk U1.out.ky 0 (.int .i64 n) rfl; have d1 := cell_of_blk U1.out.ky 1 (.int .i64 a) rfl) | (go_at_call 13; (with_reducible refine (C2.out _ (HS.out.keep U1.out.bel)).mono ?_); rintro e w2 ⟨rfl, hb⟩; have U2 := Lib.hid (U1.out.keep hb); clear hb; have c0 := cell_of_blk U2.out.sx 0 (.string s.x) rfl; have c1 := cell_of_blk U2.out.sx 1 (.int .i64 s.typ) rfl; have c2 := cell_of_blk U2.out.sx 2 (.int .i64 s.life) rfl; have c3 := cell_of_blk U2.out.sx 3 s.v rfl; have d0 := cell_of_blk U2.out.ky 0 (.int .i64 n) rfl; have d1 := cell_of_blk U2.out.ky 1 (.int .i64 a) rfl))
    go_ret
    exact ⟨rfl, U2.out.bel⟩
  cases b3
  case false =>
    obtain rfl : R = false := by rw [← hR]; rfl
    clear hR
    go_enter Tryz.func6, Tryz.ntmps6
    go_wp2_with (first | (go_at_call 12; (with_reducible refine (C1.out _ (HS.out.keep U0.out.bel)).mono ?_); rintro e w1 ⟨rfl, hb⟩; have U1 := Lib.hid (U0.out.keep hb); clear hb; have c0 := cell_of_blk U1.out.sx 0 (.string s.x) rfl; have c1 := cell_of_blk U1.out.sx 1 (.int .i64 s.typ) rfl; have c2 := cell_of_blk U1.out.sx 2 (.int .i64 s.life) rfl; have c3 := cell_of_blk U1.out.sx 3 s.v rfl; have d0 := cell_of_blk U1.out.ky 0 (.int .i64 n) rfl; have d1 := cell_of_blk U1.out.ky 1 (.int .i64 a) rfl) | (go_at_call 13; (with_reducible refine (C2.out _ (HS.out.keep U1.out.bel)).mono ?_); rintro e w2 ⟨rfl, hb⟩; have U2 := Lib.hid (U1.out.keep hb); clear hb; have c0 := cell_of_blk U2.out.sx 0 (.string s.x) rfl; have c1 := cell_of_blk U2.out.sx 1 (.int .i64 s.typ) rfl; have c2 := cell_of_blk U2.out.sx 2 (.int .i64 s.life) rfl; have c3 := cell_of_blk U2.out.sx 3 s.v rfl; have d0 := cell_of_blk U2.out.ky 0 (.int .i64 n) rfl; have d1 := cell_of_blk U2.out.ky 1 (.int .i64 a) rfl) | (go_at_call 14; (with_reducible refine (C3.out _).mono ?_); rintro e w3 ⟨rfl, hb⟩; have U3 := Lib.hid (U2.out.keep hb); clear hb; have c0 := cell_of_blk U3.out.sx 0 (.string s.x) rfl; have c1 := cell_of_blk U3.out.sx 1 (.int .i64 s.typ) rfl; have c2 := cell_of_blk U3.out.sx 2 (.int .i64 s.life) rfl; have c3 := cell_of_blk U3.out.sx 3 s.v rfl; have d0 := cell_of_blk U3.out.ky 0 (.int .i64 n) rfl; have d1 := cell_of_blk U3.out.ky 1 (.int .i64 a) rfl))
    go_ret
    exact ⟨rfl, U3.out.bel⟩
  cases b4
  case false =>
    obtain rfl : R = false := by rw [← hR]; rfl
    clear hR
    go_enter Tryz.func6, Tryz.ntmps6
    go_wp2_with (first | (go_at_call 12; (with_reducible refine (C1.out _ (HS.out.keep U0.out.bel)).mono ?_); rintro e w1 ⟨rfl, hb⟩; have U1 := Lib.hid (U0.out.keep hb); clear hb; have c0 := cell_of_blk U1.out.sx 0 (.string s.x) rfl; have c1 := cell_of_blk U1.out.sx 1 (.int .i64 s.typ) rfl; have c2 := cell_of_blk U1.out.sx 2 (.int .i64 s.life) rfl; have c3 := cell_of_blk U1.out.sx 3 s.v rfl; have d0 := cell_of_blk U1.out.ky 0 (.int .i64 n) rfl; have d1 := cell_of_blk U1.out.ky 1 (.int .i64 a) rfl) | (go_at_call 13; (with_reducible refine (C2.out _ (HS.out.keep U1.out.bel)).mono ?_); rintro e w2 ⟨rfl, hb⟩; have U2 := Lib.hid (U1.out.keep hb); clear hb; have c0 := cell_of_blk U2.out.sx 0 (.string s.x) rfl; have c1 := cell_of_blk U2.out.sx 1 (.int .i64 s.typ) rfl; have c2 := cell_of_blk U2.out.sx 2 (.int .i64 s.life) rfl; have c3 := cell_of_blk U2.out.sx 3 s.v rfl; have d0 := cell_of_blk U2.out.ky 0 (.int .i64 n) rfl; have d1 := cell_of_blk U2.out.ky 1 (.int .i64 a) rfl) | (go_at_call 14; (with_reducible refine (C3.out _).mono ?_); rintro e w3 ⟨rfl, hb⟩; have U3 := Lib.hid (U2.out.keep hb); clear hb; have c0 := cell_of_blk U3.out.sx 0 (.string s.x) rfl; have c1 := cell_of_blk U3.out.sx 1 (.int .i64 s.typ) rfl; have c2 := cell_of_blk U3.out.sx 2 (.int .i64 s.life) rfl; have c3 := cell_of_blk U3.out.sx 3 s.v rfl; have d0 := cell_of_blk U3.out.ky 0 (.int .i64 n) rfl; have d1 := cell_of_blk U3.out.ky 1 (.int .i64 a) rfl) | (go_at_call 15; (with_reducible refine (C4.out _).mono ?_); rintro e w4 ⟨rfl, rfl⟩))
    go_ret
    exact ⟨rfl, U3.out.bel⟩
  cases b5
  case false =>
    obtain rfl : R = false := by rw [← hR]; rfl
    clear hR
    go_enter Tryz.func6, Tryz.ntmps6
    go_wp2_with (first | (go_at_call 12; (with_reducible refine (C1.out _ (HS.out.keep U0.out.bel)).mono ?_); rintro e w1 ⟨rfl, hb⟩; have U1 := Lib.hid (U0.out.keep hb); clear hb; have c0 := cell_of_blk U1.out.sx 0 (.string s.x) rfl; have c1 := cell_of_blk U1.out.sx 1 (.int .i64 s.typ) rfl; have c2 := cell_of_blk U1.out.sx 2 (.int .i64 s.life) rfl; have c3 := cell_of_blk U1.out.sx 3 s.v rfl; have d0 := cell_of_blk U1.out.ky 0 (.int .i64 n) rfl; have d1 := cell_of_blk U1.out.ky 1 (.int .i64 a) rfl) | (go_at_call 13; (with_reducible refine (C2.out _ (HS.out.keep U1.out.bel)).mono ?_); rintro e w2 ⟨rfl, hb⟩; have U2 := Lib.hid (U1.out.keep hb); clear hb; have c0 := cell_of_blk U2.out.sx 0 (.string s.x) rfl; have c1 := cell_of_blk U2.out.sx 1 (.int .i64 s.typ) rfl; have c2 := cell_of_blk U2.out.sx 2 (.int .i64 s.life) rfl; have c3 := cell_of_blk U2.out.sx 3 s.v rfl; have d0 := cell_of_blk U2.out.ky 0 (.int .i64 n) rfl; have d1 := cell_of_blk U2.out.ky 1 (.int .i64 a) rfl) | (go_at_call 14; (with_reducible refine (C3.out _).mono ?_); rintro e w3 ⟨rfl, hb⟩; have U3 := Lib.hid (U2.out.keep hb); clear hb; have c0 := cell_of_blk U3.out.sx 0 (.string s.x) rfl; have c1 := cell_of_blk U3.out.sx 1 (.int .i64 s.typ) rfl; have c2 := cell_of_blk U3.out.sx 2 (.int .i64 s.life) rfl; have c3 := cell_of_blk U3.out.sx 3 s.v rfl; have d0 := cell_of_blk U3.out.ky 0 (.int .i64 n) rfl; have d1 := cell_of_blk U3.out.ky 1 (.int .i64 a) rfl) | (go_at_call 15; (with_reducible refine (C4.out _).mono ?_); rintro e w4 ⟨rfl, rfl⟩) | (go_at_call 16; (with_reducible refine (C5.out _).mono ?_); rintro e w5 ⟨rfl, hb⟩; have U5 := Lib.hid (U3.out.keep hb); clear hb; have c0 := cell_of_blk U5.out.sx 0 (.string s.x) rfl; have c1 := cell_of_blk U5.out.sx 1 (.int .i64 s.typ) rfl; have c2 := cell_of_blk U5.out.sx 2 (.int .i64 s.life) rfl; have c3 := cell_of_blk U5.out.sx 3 s.v rfl; have d0 := cell_of_blk U5.out.ky 0 (.int .i64 n) rfl; have d1 := cell_of_blk U5.out.ky 1 (.int .i64 a) rfl))
    go_ret
    exact ⟨rfl, U5.out.bel⟩
  cases b6
  case true =>
    obtain rfl : R = false := by rw [← hR]; rfl
    clear hR
    go_enter Tryz.func6, Tryz.ntmps6
    go_wp2_with (first | (go_at_call 12; (with_reducible refine (C1.out _ (HS.out.keep U0.out.bel)).mono ?_); rintro e w1 ⟨rfl, hb⟩; have U1 := Lib.hid (U0.out.keep hb); clear hb; have c0 := cell_of_blk U1.out.sx 0 (.string s.x) rfl; have c1 := cell_of_blk U1.out.sx 1 (.int .i64 s.typ) rfl; have c2 := cell_of_blk U1.out.sx 2 (.int .i64 s.life) rfl; have c3 := cell_of_blk U1.out.sx 3 s.v rfl; have d0 := cell_of_blk U1.out.ky 0 (.int .i64 n) rfl; have d1 := cell_of_blk U1.out.ky 1 (.int .i64 a) rfl) | (go_at_call 13; (with_reducible refine (C2.out _ (HS.out.keep U1.out.bel)).mono ?_); rintro e w2 ⟨rfl, hb⟩; have U2 := Lib.hid (U1.out.keep hb); clear hb; have c0 := cell_of_blk U2.out.sx 0 (.string s.x) rfl; have c1 := cell_of_blk U2.out.sx 1 (.int .i64 s.typ) rfl; have c2 := cell_of_blk U2.out.sx 2 (.int .i64 s.life) rfl; have c3 := cell_of_blk U2.out.sx 3 s.v rfl; have d0 := cell_of_blk U2.out.ky 0 (.int .i64 n) rfl; have d1 := cell_of_blk U2.out.ky 1 (.int .i64 a) rfl) | (go_at_call 14; (with_reducible refine (C3.out _).mono ?_); rintro e w3 ⟨rfl, hb⟩; have U3 := Lib.hid (U2.out.keep hb); clear hb; have c0 := cell_of_blk U3.out.sx 0 (.string s.x) rfl; have c1 := cell_of_blk U3.out.sx 1 (.int .i64 s.typ) rfl; have c2 := cell_of_blk U3.out.sx 2 (.int .i64 s.life) rfl; have c3 := cell_of_blk U3.out.sx 3 s.v rfl; have d0 := cell_of_blk U3.out.ky 0 (.int .i64 n) rfl; have d1 := cell_of_blk U3.out.ky 1 (.int .i64 a) rfl) | (go_at_call 15; (with_reducible refine (C4.out _).mono ?_); rintro e w4 ⟨rfl, rfl⟩) | (go_at_call 16; (with_reducible refine (C5.out _).mono ?_); rintro e w5 ⟨rfl, hb⟩; have U5 := Lib.hid (U3.out.keep hb); clear hb; have c0 := cell_of_blk U5.out.sx 0 (.string s.x) rfl; have c1 := cell_of_blk U5.out.sx 1 (.int .i64 s.typ) rfl; have c2 := cell_of_blk U5.out.sx 2 (.int .i64 s.life) rfl; have c3 := cell_of_blk U5.out.sx 3 s.v rfl; have d0 := cell_of_blk U5.out.ky 0 (.int .i64 n) rfl; have d1 := cell_of_blk U5.out.ky 1 (.int .i64 a) rfl) | (go_at_call 17; (with_reducible refine (C6.out _).mono ?_); rintro e w6 ⟨rfl, rfl⟩))
    go_ret
    exact ⟨rfl, U5.out.bel⟩
  obtain rfl : R = b7 := by rw [← hR]; cases b7 <;> rfl
  clear hR
  go_enter Tryz.func6, Tryz.ntmps6
  go_wp2_with (first | (go_at_call 12; (with_reducible refine (C1.out _ (HS.out.keep U0.out.bel)).mono ?_); rintro e w1 ⟨rfl, hb⟩; have U1 := Lib.hid (U0.out.keep hb); clear hb; have c0 := cell_of_blk U1.out.sx 0 (.string s.x) rfl; have c1 := cell_of_blk U1.out.sx 1 (.int .i64 s.typ) rfl; have c2 := cell_of_blk U1.out.sx 2 (.int .i64 s.life) rfl; have c3 := cell_of_blk U1.out.sx 3 s.v rfl; have d0 := cell_of_blk U1.out.ky 0 (.int .i64 n) rfl; have d1 := cell_of_blk U1.out.ky 1 (.int .i64 a) rfl) | (go_at_call 13; (with_reducible refine (C2.out _ (HS.out.keep U1.out.bel)).mono ?_); rintro e w2 ⟨rfl, hb⟩; have U2 := Lib.hid (U1.out.keep hb); clear hb; have c0 := cell_of_blk U2.out.sx 0 (.string s.x) rfl; have c1 := cell_of_blk U2.out.sx 1 (.int .i64 s.typ) rfl; have c2 := cell_of_blk U2.out.sx 2 (.int .i64 s.life) rfl; have c3 := cell_of_blk U2.out.sx 3 s.v rfl; have d0 := cell_of_blk U2.out.ky 0 (.int .i64 n) rfl; have d1 := cell_of_blk U2.out.ky 1 (.int .i64 a) rfl) | (go_at_call 14; (with_reducible refine (C3.out _).mono ?_); rintro e w3 ⟨rfl, hb⟩; have U3 := Lib.hid (U2.out.keep hb); clear hb; have c0 := cell_of_blk U3.out.sx 0 (.string s.x) rfl; have c1 := cell_of_blk U3.out.sx 1 (.int .i64 s.typ) rfl; have c2 := cell_of_blk U3.out.sx 2 (.int .i64 s.life) rfl; have c3 := cell_of_blk U3.out.sx 3 s.v rfl; have d0 := cell_of_blk U3.out.ky 0 (.int .i64 n) rfl; have d1 := cell_of_blk U3.out.ky 1 (.int .i64 a) rfl) | (go_at_call 15; (with_reducible refine (C4.out _).mono ?_); rintro e w4 ⟨rfl, rfl⟩) | (go_at_call 16; (with_reducible refine (C5.out _).mono ?_); rintro e w5 ⟨rfl, hb⟩; have U5 := Lib.hid (U3.out.keep hb); clear hb; have c0 := cell_of_blk U5.out.sx 0 (.string s.x) rfl; have c1 := cell_of_blk U5.out.sx 1 (.int .i64 s.typ) rfl; have c2 := cell_of_blk U5.out.sx 2 (.int .i64 s.life) rfl; have c3 := cell_of_blk U5.out.sx 3 s.v rfl; have d0 := cell_of_blk U5.out.ky 0 (.int .i64 n) rfl; have d1 := cell_of_blk U5.out.ky 1 (.int .i64 a) rfl) | (go_at_call 17; (with_reducible refine (C6.out _).mono ?_); rintro e w6 ⟨rfl, rfl⟩) | (go_at_call 18; (with_reducible refine (C7.out _).mono ?_); rintro e w7 ⟨rfl, hb⟩; have U7 := Lib.hid (U5.out.keep hb); clear hb; have c0 := cell_of_blk U7.out.sx 0 (.string s.x) rfl; have c1 := cell_of_blk U7.out.sx 1 (.int .i64 s.typ) rfl; have c2 := cell_of_blk U7.out.sx 2 (.int .i64 s.life) rfl; have c3 := cell_of_blk U7.out.sx 3 s.v rfl; have d0 := cell_of_blk U7.out.ky 0 (.int .i64 n) rfl; have d1 := cell_of_blk U7.out.ky 1 (.int .i64 a) rfl))
  go_ret
  exact ⟨rfl, U7.out.bel⟩
end Go.Proofs.YtpkjpogkimjpoaaGreatDoor
