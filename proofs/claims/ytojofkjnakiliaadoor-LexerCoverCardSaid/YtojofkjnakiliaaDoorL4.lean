/- The contracts of the closures that find the ends of runs, words and signs in package lexer; no condition beyond those that each theorem names. -/
import Derived.Test.YtojofkjnakiliaaDoorL3
namespace Go.Proofs.YtojofkjnakiliaaDoor
open Go.RowKit
open NmP

/-- How many bytes at the front may stand inside a word. -/
def runL : Bs → Nat
  | [] => 0
  | c :: t => if 3 ≤ kindN c.toNat ∧ kindN c.toNat ≤ 6 then 1 + runL t else 0
def runAt (s : ByteArray) (i : Nat) : Nat := i + runL (s.toList.drop i)
theorem runL_le : ∀ l : Bs, runL l ≤ l.length
  | [] => Nat.le_refl _
  | c :: t => by
    have h1 := runL_le t
    unfold runL
    split
    all_goals simp only [List.length_cons]; omega
theorem runAt_end (s : ByteArray) : runAt s s.size = s.size := by unfold runAt; rw [drop_all]; simp [runL]
theorem runAt_in {s : ByteArray} {i : Nat} (h : i < s.size) (hc : 3 ≤ kindN s[i].toNat ∧ kindN s[i].toNat ≤ 6) : runAt s i = runAt s (i + 1) := by
  unfold runAt; rw [drop_cons h]; simp [runL, hc]; omega
theorem runAt_out {s : ByteArray} {i : Nat} (h : i < s.size) (hc : ¬ (3 ≤ kindN s[i].toNat ∧ kindN s[i].toNat ≤ 6)) : runAt s i = i := by
  unfold runAt; rw [drop_cons h]; simp [runL, hc]
theorem runAt_ge (s : ByteArray) (i : Nat) : i ≤ runAt s i := by unfold runAt; omega
theorem runAt_le {s : ByteArray} {i : Nat} (h : i ≤ s.size) : runAt s i ≤ s.size := by
  have := runL_le (s.toList.drop i)
  rw [List.length_drop, tl_len] at this
  unfold runAt; omega

set_option maxHeartbeats 1000000 in
theorem run_any (s : ByteArray) (at_ b : Nat) (w : World) (hs : s.size ≤ maxLen) (ha : at_ ≤ s.size) (hK : KC b w) :
    Calls Tryd.prog 21 #[.string s, .int .i64 at_, .pointer (some ⟨b, 0, none⟩)] w fun e w' => e = .returned (.int .i64 (runAt s at_ : Int)) ∧ w = w' := by
  unfold maxLen at hs
  have HK := Lib.hid hK
  generalize hR : runAt s at_ = R
  have HR := Lib.hid hR
  clear hR hK
  go_enter Tryd.func21, Tryd.ntmps21
  go_wp2
  go_loop [1] (fun s1 => ∃ i : Nat, i ≤ s.size ∧ s1 = .int .i64 i ∧ Hid (runAt s i = R)) (fun s1 => s.size - (intOf s1).toNat)
  case atStart => exact ⟨at_, ha, rfl, HR⟩
  case round =>
    obtain ⟨i, hi, rfl, HA⟩ := hrel
    clear HR
    by_cases h1 : i < s.size
    · have hb : (s[i]).toNat < 256 := s[i].toNat_lt
      have hcell := HK.out (s[i]).toNat hb
      have HG1 := Lib.hid (fun h => runAt_in (s := s) (i := i) h1 h)
      have HG0 := Lib.hid (fun h => runAt_out (s := s) (i := i) h1 h)
      generalize hk : kindN (s[i]).toNat = k at *
      clear hk
      by_cases k1 : 3 ≤ k
      · have q1 : (3 : Int) ≤ (k : Int) := by omega
        by_cases k2 : k ≤ 6
        · have q2 : (k : Int) ≤ 6 := by omega
          go_wp2
          go_round
          case rel => exact ⟨i + 1, by omega, by go_num, Lib.hid ((HG1.out ⟨k1, k2⟩).symm.trans HA.out)⟩
          case measure => simp [intOf]; omega
        · have q2 : ¬ (k : Int) ≤ 6 := by omega
          have H3 := Lib.hid ((HG0.out (fun h => k2 h.2)).symm.trans HA.out)
          go_wp2
          go_ret
          exact ⟨by rw [← H3.out]; rfl, rfl⟩
      · have q1 : ¬ (3 : Int) ≤ (k : Int) := by omega
        have H3 := Lib.hid ((HG0.out (fun h => k1 h.1)).symm.trans HA.out)
        go_wp2
        go_ret
        exact ⟨by rw [← H3.out]; rfl, rfl⟩
    · obtain rfl : i = s.size := by omega
      have H3 := Lib.hid ((runAt_end s).symm.trans HA.out)
      go_wp2
      go_ret
      exact ⟨by rw [← H3.out]; rfl, rfl⟩

set_option maxHeartbeats 1000000 in
theorem sign_any (s : ByteArray) (at_ : Nat) (w : World) (hs : s.size ≤ maxLen) (ha : at_ < s.size) :
    Calls Tryd.prog 28 #[.string s, .int .i64 at_] w fun e w' => e = .returned (TkR.val ⟨3, s.extract at_ (at_ + 1), 0, at_ + 1, 0⟩) ∧ Below w.heap.size w w' := by
  unfold maxLen at hs
  go_enter Tryd.func28, Tryd.ntmps28
  go_wp2
  refine bodyPost_ret (v := .tuple #[.agg #[.int .i64 3, .string (s.extract at_ (at_ + 1)), .int .i64 0, .int .i64 0], .int .i64 ((at_ + 1 : Nat) : Int), .int .i64 0]) (by simp [results, Tryd.f28, go_sem]) rfl ⟨rfl, ?_⟩
  exact (Below.refl _ w).alloc (Nat.le_refl _) _

/-- The closure that reads runs, in its cell. -/
def RC (c b : Nat) (W : World) : Prop := W.cell? ⟨c, 0, none⟩ = some (.func (.func 21) #[] #[.pointer (some ⟨b, 0, none⟩)])

theorem bcell {W w1 : World} (hb : Below W.heap.size W w1) : (∀ b o, b < W.heap.size → w1.cell? ⟨b, o, none⟩ = W.cell? ⟨b, o, none⟩) ∧ (∀ b o, b < W.heap.size → w1.frozen? ⟨b, o, none⟩ = W.frozen? ⟨b, o, none⟩) :=
  ⟨fun b o h => hb.cell (p := ⟨b, o, none⟩) h, fun b o h => hb.frozen (p := ⟨b, o, none⟩) h⟩
theorem KC.lt {b : Nat} {W : World} (h : KC b W) : b < W.heap.size := World.block_lt_of_cell? _ _ (h 0 (by omega))
theorem KC.keep {b : Nat} {W W' : World} (h : KC b W) (hb : Below W.heap.size W W') : KC b W' := fun n hn => ((bcell hb).1 b n h.lt).trans (h n hn)
theorem RC.lt {c b : Nat} {W : World} (h : RC c b W) : c < W.heap.size := World.block_lt_of_cell? _ _ h
theorem RC.keep {c b : Nat} {W W' : World} (h : RC c b W) (hb : Below W.heap.size W W') : RC c b W' := ((bcell hb).1 c 0 h.lt).trans h
/-- The cells of a token that was just laid. -/
def tokZ : Array Value := #[.int .i64 0, .string ⟨#[]⟩, .int .i64 0, .int .i64 0]
def TC (b : Nat) (W : World) : Prop :=
  (W.cell? ⟨b, 0, none⟩ = some (.int .i64 0) ∧ W.frozen? ⟨b, 0, none⟩ = false) ∧ (W.cell? ⟨b, 1, none⟩ = some (.string ⟨#[]⟩) ∧ W.frozen? ⟨b, 1, none⟩ = false) ∧
  (W.cell? ⟨b, 2, none⟩ = some (.int .i64 0) ∧ W.frozen? ⟨b, 2, none⟩ = false) ∧ (W.cell? ⟨b, 3, none⟩ = some (.int .i64 0) ∧ W.frozen? ⟨b, 3, none⟩ = false)
theorem TC_new (W : World) (t : TypeId) : TC W.heap.size (W.alloc (.cells tokZ t)) := by
  have h0 : ∀ j, (W.alloc (.cells tokZ t)).frozen? ⟨W.heap.size, j, none⟩ = false := fun j => World.frozen?_alloc_at _ _ _ _ rfl
  have h1 : ∀ j, (W.alloc (.cells tokZ t)).cell? ⟨W.heap.size, j, none⟩ = tokZ[j]? := fun j => by rw [World.cell?_alloc_at _ _ _ _ rfl]
  exact ⟨⟨h1 0, h0 0⟩, ⟨h1 1, h0 1⟩, ⟨h1 2, h0 2⟩, ⟨h1 3, h0 3⟩⟩
theorem TC.keep {b : Nat} {W W' : World} (h : TC b W) (hb : Below W.heap.size W W') : TC b W' := by
  have hl := World.block_lt_of_cell? _ _ h.1.1
  obtain ⟨q1, q2⟩ := bcell hb
  unfold TC at *
  rw [q1 _ _ hl, q1 _ _ hl, q1 _ _ hl, q1 _ _ hl, q2 _ _ hl, q2 _ _ hl, q2 _ _ hl, q2 _ _ hl]
  exact h

theorem below_tok {w w5 : World} {v0 v1 v2 v3 : Value} (h : Below w.heap.size w w5) :
    Below w.heap.size w ((((w5.setCell ⟨w.heap.size, 0, none⟩ v0).setCell ⟨w.heap.size, 1, none⟩ v1).setCell ⟨w.heap.size, 2, none⟩ v2).setCell ⟨w.heap.size, 3, none⟩ v3) :=
  (((h.setCell (p := ⟨w.heap.size, 0, none⟩) (Nat.le_refl _) v0).setCell (p := ⟨w.heap.size, 1, none⟩) (Nat.le_refl _) v1).setCell (p := ⟨w.heap.size, 2, none⟩) (Nat.le_refl _) v2).setCell (p := ⟨w.heap.size, 3, none⟩) (Nat.le_refl _) v3

set_option maxHeartbeats 1000000 in
theorem wordAt_any (s : ByteArray) (at_ b c : Nat) (w : World) (hs : s.size ≤ maxLen) (ha : at_ ≤ s.size) (hK : KC b w) (hC : RC c b w) :
    Calls Tryd.prog 22 #[.string s, .int .i64 at_, .pointer (some ⟨c, 0, none⟩)] w fun e w' => e = .returned (wordR (s.extract at_ (runAt s at_)) (runAt s at_)).val ∧ Below w.heap.size w w' := by
  unfold maxLen at hs
  have h1 := runAt_ge s at_
  have h2 := runAt_le (s := s) ha
  have hw := fun W => word_any (s.extract at_ (runAt s at_)) (runAt s at_) W (by unfold maxLen; rw [ByteArray.size_extract]; omega)
  have HRn := Lib.hid (fun W (h : KC b W) => run_any s at_ b W (by unfold maxLen; exact hs) ha h)
  generalize hr : wordR (s.extract at_ (runAt s at_)) (runAt s at_) = r at *
  generalize runAt s at_ = R at *
  clear hr
  have HW : Hid (∀ W : World, Calls Tryd.prog 23 #[.string (s.extract at_ R), .int .i64 R] W fun e w' => e = .returned (.tuple #[.agg #[.int .i64 (r.k : Int), .string r.x, .int .i64 (r.n : Int), .int .i64 0], .int .i64 (r.next : Int), .int .i64 (r.e : Int)]) ∧ Below W.heap.size W w') := Lib.hid hw
  have hB : Below w.heap.size w (w.alloc (.cells tokZ 28)) := (Below.refl _ w).alloc (Nat.le_refl _) _
  have HK := Lib.hid (hK.keep hB)
  have hc := hC.keep hB
  unfold RC at hc
  have HT := Lib.hid (TC_new w 28)
  have hlt : w.heap.size < (w.alloc (.cells tokZ 28)).heap.size := by simp
  clear hK hC hw
  unfold tokZ at hB HK hc HT hlt
  go_enter Tryd.func22, Tryd.ntmps22
  go_wp2_with (go_at_call 21; fail)
  generalize w.alloc (.cells #[.int .i64 0, .string ⟨#[]⟩, .int .i64 0, .int .i64 0] 28) = W at *
  go_wp2_with (go_at_call 21; refine (HRn.out _ HK.out).mono ?_; rintro e w4 ⟨rfl, rfl⟩)
  refine (HW.out _).mono ?_
  rintro e w5 ⟨rfl, hb5⟩
  obtain ⟨⟨c0, f0⟩, ⟨c1, f1⟩, ⟨c2, f2⟩, ⟨c3, f3⟩⟩ := HT.out.keep hb5
  have HB := Lib.hid (hB.trans (hb5.mono (Nat.le_of_lt hlt)))
  clear hB hb5 hc HK HT
  go_wp2
  refine bodyPost_ret (v := .tuple #[.agg #[.int .i64 (r.k : Int), .string r.x, .int .i64 (r.n : Int), .int .i64 0], .int .i64 (r.next : Int), .int .i64 (r.e : Int)]) (by simp [results, Tryd.f22, go_sem, c0, c1, c2, c3]) rfl ⟨rfl, ?_⟩
  exact below_tok HB.out
end Go.Proofs.YtojofkjnakiliaaDoor
