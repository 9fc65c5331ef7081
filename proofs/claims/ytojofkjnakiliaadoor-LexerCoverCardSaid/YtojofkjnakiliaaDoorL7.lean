/- The contract of the closure for what begins with a digit in package lexer; no condition beyond those that each theorem names. -/
import Derived.Test.YtojofkjnakiliaaDoorL6
namespace Go.Proofs.YtojofkjnakiliaaDoor
open Go.RowKit
open NmP

def allD (x : ByteArray) : Prop := ∀ j, (h : j < x.size) → kindN x[j].toNat = 3
open Classical in
noncomputable def digitR (s : ByteArray) (at_ : Nat) : TkR :=
  if allD (s.extract at_ (runAt s at_)) then numR (s.extract at_ (runAt s at_)) (runAt s at_) else wordR (s.extract at_ (runAt s at_)) (runAt s at_)
theorem kind3 {n : Nat} (h : kindN n = 3) : 48 ≤ n ∧ n ≤ 57 := by
  unfold kindN at h
  repeat' split at h
  all_goals first | omega | (rename_i a b _; exact b)

set_option maxHeartbeats 2000000 in
set_option maxRecDepth 100000 in
theorem digit_any (s : ByteArray) (at_ b c : Nat) (w : World) (hs : s.size ≤ 8000) (ha : at_ < s.size) (hk : 3 ≤ kindN s[at_].toNat ∧ kindN s[at_].toNat ≤ 6) (hK : KC b w) (hC : RC c b w) :
    Calls Tryd.prog 25 #[.string s, .int .i64 at_, .pointer (some ⟨c, 0, none⟩), .pointer (some ⟨b, 0, none⟩)] w fun e w' => e = .returned (digitR s at_).val ∧ Below w.heap.size w w' := by
  have h1 : at_ < runAt s at_ := by rw [runAt_in ha hk]; exact runAt_ge s (at_ + 1)
  have h2 := runAt_le (s := s) (i := at_) (by omega)
  have hx0 : (s.extract at_ (runAt s at_)).size = runAt s at_ - at_ := by rw [ByteArray.size_extract]; omega
  have hw := fun W => word_any (s.extract at_ (runAt s at_)) (runAt s at_) W (by unfold maxLen; omega)
  have hn := fun W (h : allD (s.extract at_ (runAt s at_))) => num_any (s.extract at_ (runAt s at_)) (runAt s at_) W (by omega) (by omega) (fun j hj => kind3 (h j hj))
  have HRn := Lib.hid (fun W (h : KC b W) => run_any s at_ b W (by unfold maxLen; omega) (by omega) h)
  have hM : digitR s at_ = @ite _ (allD (s.extract at_ (runAt s at_))) (Classical.propDecidable _) (numR (s.extract at_ (runAt s at_)) (runAt s at_)) (wordR (s.extract at_ (runAt s at_)) (runAt s at_)) := rfl
  generalize digitR s at_ = m at *
  generalize wordR (s.extract at_ (runAt s at_)) (runAt s at_) = r at *
  generalize numR (s.extract at_ (runAt s at_)) (runAt s at_) = q at *
  generalize runAt s at_ = R at *
  have HX : Hid ((s.extract at_ R).size = R - at_) := Lib.hid hx0
  have HW : Hid (∀ W : World, Calls Tryd.prog 23 #[.string (s.extract at_ R), .int .i64 R] W fun e w' => e = .returned (.tuple #[.agg #[.int .i64 (r.k : Int), .string r.x, .int .i64 (r.n : Int), .int .i64 0], .int .i64 (r.next : Int), .int .i64 (r.e : Int)]) ∧ Below W.heap.size W w') := Lib.hid hw
  have HN : Hid (∀ W : World, allD (s.extract at_ R) → Calls Tryd.prog 26 #[.string (s.extract at_ R), .int .i64 R] W fun e w' => e = .returned (.tuple #[.agg #[.int .i64 (q.k : Int), .string q.x, .int .i64 (q.n : Int), .int .i64 0], .int .i64 (q.next : Int), .int .i64 (q.e : Int)]) ∧ Below W.heap.size W w') := Lib.hid hn
  have HM := Lib.hid hM
  clear hw hn hM hx0 hk
  have hB : Below w.heap.size w (w.alloc (.cells tokZ 28)) := (Below.refl _ w).alloc (Nat.le_refl _) _
  have hc := hC.keep hB
  unfold RC at hc
  have hk1 := hK.keep hB
  have HT := Lib.hid (TC_new w 28)
  have hlt : w.heap.size < (w.alloc (.cells tokZ 28)).heap.size := by simp
  have hsz : (w.alloc (.cells tokZ 28)).heap.size = w.heap.size + 1 := by simp
  clear hK hC
  unfold tokZ at hB hk1 hc HT hlt hsz
  have hconv := bytesW_run (s.extract at_ R) (w.alloc (.cells #[.int .i64 0, .string ⟨#[]⟩, .int .i64 0, .int .i64 0] 28))
  have HC := Lib.hid (fun j hj => bytesW_cell (s.extract at_ R) (w.alloc (.cells #[.int .i64 0, .string ⟨#[]⟩, .int .i64 0, .int .i64 0] 28)) j hj)
  have hb2 := bytesW_below (s.extract at_ R) (w.alloc (.cells #[.int .i64 0, .string ⟨#[]⟩, .int .i64 0, .int .i64 0] 28))
  have HT2 := Lib.hid (HT.out.keep hb2)
  have HB := Lib.hid (hB.trans (hb2.mono (Nat.le_of_lt hlt)))
  have HK := Lib.hid (hk1.keep hb2)
  have HK1 := Lib.hid hk1
  have hlt2 : w.heap.size < (bytesW (s.extract at_ R) (w.alloc (.cells #[.int .i64 0, .string ⟨#[]⟩, .int .i64 0, .int .i64 0] 28))).heap.size := Nat.lt_of_lt_of_le hlt hb2.size
  clear hb2 hB HT hlt hk1
  rw [hsz] at hconv HC
  clear hsz
  generalize hW2 : bytesW (s.extract at_ R) (w.alloc (.cells #[.int .i64 0, .string ⟨#[]⟩, .int .i64 0, .int .i64 0] 28)) = W2 at *
  clear hW2
  go_enter Tryd.func25, Tryd.ntmps25
  go_wp2_with (go_at_call 21; refine (HRn.out _ HK1.out).mono ?_; rintro e w4 ⟨rfl, rfl⟩)
  clear hconv hc
  go_loop [22] (fun s22 => ∃ j : Nat, j ≤ (s.extract at_ R).size ∧ s22 = .int .i64 j ∧ Hid (∀ k, (h : k < (s.extract at_ R).size) → k < j → kindN (s.extract at_ R)[k].toNat = 3)) (fun s22 => (s.extract at_ R).size - (intOf s22).toNat)
  case atStart => exact ⟨0, by omega, rfl, Lib.hid (fun k _ h => absurd h (Nat.not_lt_zero _))⟩
  case round =>
    obtain ⟨j, hj, rfl, HA⟩ := hrel
    by_cases h3 : j < (s.extract at_ R).size
    · have h3q : j < R - at_ := by have := HX.out; omega
      have hcell := HC.out j h3
      have hb : ((s.extract at_ R)[j]).toNat < 256 := (s.extract at_ R)[j].toNat_lt
      have hcell2 := HK.out ((s.extract at_ R)[j]).toNat hb
      have HD : Hid (kindN (s.extract at_ R)[j].toNat = 3 → ∀ k, (h : k < (s.extract at_ R).size) → k < j + 1 → kindN (s.extract at_ R)[k].toNat = 3) := Lib.hid (fun h k hk hk2 => by
        by_cases e : k = j
        · subst e; exact h
        · exact HA.out k hk (by omega))
      have HE : Hid (kindN (s.extract at_ R)[j].toNat ≠ 3 → ¬ allD (s.extract at_ R)) := Lib.hid (fun h q => h (q j h3))
      generalize kindN (s.extract at_ R)[j].toNat = k at *
      generalize (s.extract at_ R)[j].toNat = d at *
      by_cases h4 : k = 3
      · subst h4
        have H3 := Lib.hid (HD.out rfl)
        clear HD HE HA
        go_wp2
        go_round
        case rel => exact ⟨j + 1, by omega, by go_num, H3⟩
        case measure => simp [intOf]; omega
      · have hq : ((k : Int) != 3) = true := by rw [bne_iff_ne]; omega
        have H3 := HE.out h4
        have HM2 : Hid (m = r) := Lib.hid (by rw [HM.out]; exact if_neg H3)
        clear HD HE HA H3
        go_wp2_with (go_at_call 23; fail)
        refine (HW.out _).mono ?_
        rintro e w5 ⟨rfl, hb5⟩
        obtain ⟨⟨c0, f0⟩, ⟨c1, f1⟩, ⟨c2, f2⟩, ⟨c3, f3⟩⟩ := HT2.out.keep hb5
        have HB5 := Lib.hid (HB.out.trans (hb5.mono (Nat.le_of_lt hlt2)))
        clear hb5 HT2 HK HC
        go_wp2
        refine bodyPost_ret (v := .tuple #[.agg #[.int .i64 (r.k : Int), .string r.x, .int .i64 (r.n : Int), .int .i64 0], .int .i64 (r.next : Int), .int .i64 (r.e : Int)]) (by simp [results, Tryd.f25, go_sem, c0, c1, c2, c3]) rfl ⟨by rw [HM2.out]; rfl, ?_⟩
        exact below_tok HB5.out
    · have hall : allD (s.extract at_ R) := fun k hk => HA.out k hk (by omega)
      have HM2 : Hid (m = q) := Lib.hid (by rw [HM.out]; exact if_pos hall)
      have HN2 := Lib.hid (fun W => HN.out W hall)
      have hx := HX.out
      obtain rfl : j = R - at_ := by omega
      clear hall HA HX hj h3
      go_wp2_with (go_at_call 26; refine (HN2.out _).mono ?_; rintro e w5 ⟨rfl, hb5⟩; obtain ⟨⟨c0, f0⟩, ⟨c1, f1⟩, ⟨c2, f2⟩, ⟨c3, f3⟩⟩ := HT2.out.keep hb5; have HB5 := Lib.hid (HB.out.trans (hb5.mono (Nat.le_of_lt hlt2))); clear hb5 HT2 HK HC)
      refine bodyPost_ret (v := .tuple #[.agg #[.int .i64 (q.k : Int), .string q.x, .int .i64 (q.n : Int), .int .i64 0], .int .i64 (q.next : Int), .int .i64 (q.e : Int)]) (by simp [results, Tryd.f25, go_sem, c0, c1, c2, c3]) rfl ⟨by rw [HM2.out]; rfl, ?_⟩
      exact below_tok HB5.out
end Go.Proofs.YtojofkjnakiliaaDoor
