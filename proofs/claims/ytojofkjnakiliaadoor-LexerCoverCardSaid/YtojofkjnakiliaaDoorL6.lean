/- The contract of what reads numbers in package lexer; no condition beyond those that each theorem names. -/
import Derived.Test.YtojofkjnakiliaaDoorL5
import Derived.Laws.IdiomStrings
namespace Go.Proofs.YtojofkjnakiliaaDoor
open Go.RowKit
open NmP

/-- The number that digits say, from one on; none, if it passes the greatest one. -/
def numL : Bs → Nat → Option Nat
  | [], n => some n
  | c :: t, n => if 1000000000 < n * 10 + (c.toNat - 48) then none else numL t (n * 10 + (c.toNat - 48))
def numR (x : ByteArray) (next : Nat) : TkR :=
  if 1 < x.size ∧ (x.toList.headD 0).toNat = 48 then ⟨0, ⟨#[]⟩, 0, next, 10⟩
  else match numL x.toList 0 with
  | none => ⟨0, ⟨#[]⟩, 0, next, 3⟩
  | some n => ⟨2, ⟨#[]⟩, n, next, 0⟩

/-- What '[]byte(s)' of a text lays, and hands back. -/
def bytesW (s : ByteArray) (W : World) : World := W.drew.alloc (.cells (bytesRow s (grownCap W s.size 0 5)) 5 ((bytesRow s (grownCap W s.size 0 5)).size, (bytesRow s (grownCap W s.size 0 5)).size + 1))
theorem bytesW_run (s : ByteArray) (W : World) : (convert 9 51 (.string s)).run Tryd.prog W = .ok (.slice (some ⟨W.heap.size, 0, none⟩) s.size (grownCap W s.size 0 5)) (bytesW s W) :=
  run_bytes_of_string W 9 51 5 s (by kernel_rfl) (by kernel_rfl) (by kernel_rfl)
theorem bytesW_below (s : ByteArray) (W : World) : Below W.heap.size W (bytesW s W) := ((Below.refl _ W).drew).alloc (by simp) _
theorem bytesW_cell (s : ByteArray) (W : World) (j : Nat) (hj : j < s.size) : (bytesW s W).cell? ⟨W.heap.size, j, none⟩ = some (.int .u8 (s[j].toNat : Int)) := by
  have h : (bytesW s W).heap[W.heap.size]? = some (.cells (bytesRow s (grownCap W s.size 0 5)) 5 ((bytesRow s (grownCap W s.size 0 5)).size, (bytesRow s (grownCap W s.size 0 5)).size + 1)) := by
    show (W.heap.push _)[W.heap.size]? = _
    simp
  have h2 : j < s.data.size := hj
  unfold World.cell?
  rw [h]
  show (bytesRow s _)[j]? = _
  unfold bytesRow
  rw [Array.getElem?_append_left (by simpa using h2), Array.getElem?_map, Array.getElem?_eq_getElem h2]
  rfl

theorem numL_end (x : ByteArray) (n : Nat) : numL (x.toList.drop x.size) n = some n := by rw [drop_all]; rfl
theorem numL_over {x : ByteArray} {i n : Nat} (h : i < x.size) (hc : 1000000000 < n * 10 + (x[i].toNat - 48)) : numL (x.toList.drop i) n = none := by rw [drop_cons h]; simp [numL, hc]
theorem numL_next {x : ByteArray} {i n : Nat} (h : i < x.size) (hc : ¬ 1000000000 < n * 10 + (x[i].toNat - 48)) : numL (x.toList.drop i) n = numL (x.toList.drop (i + 1)) (n * 10 + (x[i].toNat - 48)) := by rw [drop_cons h]; simp only [numL, if_neg hc]

set_option maxHeartbeats 1000000 in
set_option maxRecDepth 100000 in
theorem num_any (x : ByteArray) (next : Nat) (w : World) (hx : x.size ≤ 8000) (h0 : 0 < x.size) (hd : ∀ j, (h : j < x.size) → 48 ≤ x[j].toNat ∧ x[j].toNat ≤ 57) :
    Calls Tryd.prog 26 #[.string x, .int .i64 next] w fun e w' => e = .returned (numR x next).val ∧ Below w.heap.size w w' := by
  have hM : numR x next = if 1 < x.size ∧ (x.toList.headD 0).toNat = 48 then ⟨0, ⟨#[]⟩, 0, next, 10⟩ else match numL x.toList 0 with | none => ⟨0, ⟨#[]⟩, 0, next, 3⟩ | some n => ⟨2, ⟨#[]⟩, n, next, 0⟩ := rfl
  have hh : x.toList.headD 0 = x[0] := by
    have := drop_cons h0
    rw [List.drop_zero] at this
    rw [this]; rfl
  rw [hh] at hM
  have hB : Below w.heap.size w (w.alloc (.cells tokZ 28)) := (Below.refl _ w).alloc (Nat.le_refl _) _
  have HT := Lib.hid (TC_new w 28)
  have hlt : w.heap.size < (w.alloc (.cells tokZ 28)).heap.size := by simp
  have hL0 : x.toList.drop 0 = x.toList := rfl
  rw [← hL0] at hM
  clear hh hL0
  generalize numR x next = m at *
  unfold tokZ at hB HT hlt
  by_cases hz : 1 < x.size ∧ x[0].toNat = 48
  · rw [if_pos hz] at hM
    subst hM
    obtain ⟨hz1, hz2⟩ := hz
    have hz3 : (1 : Int) < (x.size : Int) := by omega
    have hz4 : ((x[0].toNat : Int) == 48) = true := by rw [beq_iff_eq]; omega
    obtain ⟨⟨c0, f0⟩, ⟨c1, f1⟩, ⟨c2, f2⟩, ⟨c3, f3⟩⟩ := HT.out
    clear HT
    go_enter Tryd.func26, Tryd.ntmps26
    go_wp2
    refine bodyPost_ret (v := .tuple #[.agg #[.int .i64 0, .string ⟨#[]⟩, .int .i64 0, .int .i64 0], .int .i64 next, .int .i64 10]) (by simp [results, Tryd.f26, go_sem, c0, c1, c2, c3]) rfl ⟨rfl, ?_⟩
    exact hB
  · rw [if_neg hz] at hM
    have HM := Lib.hid hM
    clear hM
    have hlt2 := fun W : World => bytesW_below x W
    have hz5 : ((decide ((1 : Int) < (x.size : Int))) && ((x[0].toNat : Int) == 48)) = false := by
      rw [Bool.and_eq_false_iff]
      by_cases q : 1 < x.size
      · right; rw [beq_eq_false_iff_ne]; intro e; exact hz ⟨q, by omega⟩
      · left; rw [decide_eq_false_iff_not]; omega
    have hconv := bytesW_run x (w.alloc (.cells #[.int .i64 0, .string ⟨#[]⟩, .int .i64 0, .int .i64 0] 28))
    have HC := Lib.hid (fun j hj => bytesW_cell x (w.alloc (.cells #[.int .i64 0, .string ⟨#[]⟩, .int .i64 0, .int .i64 0] 28)) j hj)
    have hb2 := bytesW_below x (w.alloc (.cells #[.int .i64 0, .string ⟨#[]⟩, .int .i64 0, .int .i64 0] 28))
    obtain ⟨⟨c0, f0⟩, ⟨c1, f1⟩, ⟨c2, f2⟩, ⟨c3, f3⟩⟩ := HT.out.keep hb2
    have HB := Lib.hid (hB.trans (hb2.mono (Nat.le_of_lt hlt)))
    have HD := Lib.hid hd
    clear hb2 hB HT hd hlt2
    have hsz : (w.alloc (.cells #[.int .i64 0, .string ⟨#[]⟩, .int .i64 0, .int .i64 0] 28)).heap.size = w.heap.size + 1 := by simp
    rw [hsz] at hconv HC
    generalize hW : bytesW x (w.alloc (.cells #[.int .i64 0, .string ⟨#[]⟩, .int .i64 0, .int .i64 0] 28)) = W at *
    clear hW hlt hsz
    by_cases hq1 : 1 < x.size
    · have hq2 : ((x[0].toNat : Int) == 48) = false := beq_eq_false_iff_ne.2 (fun e => hz ⟨hq1, by omega⟩)
      clear hz hz5
      go_enter Tryd.func26, Tryd.ntmps26
      go_wp2
      go_loop [7, 23] (fun s7 s23 => ∃ n j : Nat, n ≤ 1000000000 ∧ j ≤ x.size ∧ s7 = .int .i64 n ∧ s23 = .int .i64 j ∧ Hid (numL (x.toList.drop j) n = numL (x.toList.drop 0) 0)) (fun s7 s23 => x.size - (intOf s23).toNat)
      case atStart => exact ⟨0, 0, by omega, by omega, rfl, rfl, Lib.hid rfl⟩
      case round =>
        obtain ⟨n, j, hn, hj, rfl, rfl, HA⟩ := hrel
        by_cases h1 : j < x.size
        · have hcell := HC.out j h1
          obtain ⟨d1, d2⟩ := HD.out j h1
          have HO := Lib.hid (fun h => numL_over (x := x) (i := j) (n := n) h1 h)
          have HN := Lib.hid (fun h => numL_next (x := x) (i := j) (n := n) h1 h)
          generalize x[j].toNat = d at *
          have hs1 : IntKind.u8.wrap ((d : Int) - 48) = (d : Int) - 48 := IntWalk.u8_in _ (by omega)
          by_cases h2 : 1000000000 < n * 10 + (d - 48)
          · have hq : (1000000000 : Int) < (n : Int) * 10 + ((d : Int) - 48) := by omega
            have H3 := Lib.hid ((HO.out h2).symm.trans HA.out)
            go_wp2
            refine bodyPost_ret (v := .tuple #[.agg #[.int .i64 0, .string ⟨#[]⟩, .int .i64 0, .int .i64 0], .int .i64 next, .int .i64 3]) (by simp [results, Tryd.f26, go_sem, c0, c1, c2, c3]) rfl ⟨by rw [HM.out, ← H3.out]; rfl, ?_⟩
            exact below_tok HB.out
          · have hq : ¬ (1000000000 : Int) < (n : Int) * 10 + ((d : Int) - 48) := by omega
            have H3 := Lib.hid ((HN.out h2).symm.trans HA.out)
            go_wp2
            go_round
            case rel => exact ⟨n * 10 + (d - 48), j + 1, by omega, by omega, by go_num, by go_num, H3⟩
            case measure => simp [intOf]; omega
        · obtain rfl : j = x.size := by omega
          have H3 := Lib.hid ((numL_end x n).symm.trans HA.out)
          go_wp2
          refine bodyPost_ret (v := .tuple #[.agg #[.int .i64 2, .string ⟨#[]⟩, .int .i64 n, .int .i64 0], .int .i64 next, .int .i64 0]) (by simp [results, Tryd.f26, go_sem, c0, c1, c2, c3]) rfl ⟨by rw [HM.out, ← H3.out]; rfl, ?_⟩
          exact below_tok HB.out
    · clear hz hz5
      go_enter Tryd.func26, Tryd.ntmps26
      go_wp2
      go_loop [7, 23] (fun s7 s23 => ∃ n j : Nat, n ≤ 1000000000 ∧ j ≤ x.size ∧ s7 = .int .i64 n ∧ s23 = .int .i64 j ∧ Hid (numL (x.toList.drop j) n = numL (x.toList.drop 0) 0)) (fun s7 s23 => x.size - (intOf s23).toNat)
      case atStart => exact ⟨0, 0, by omega, by omega, rfl, rfl, Lib.hid rfl⟩
      case round =>
        obtain ⟨n, j, hn, hj, rfl, rfl, HA⟩ := hrel
        by_cases h1 : j < x.size
        · have hcell := HC.out j h1
          obtain ⟨d1, d2⟩ := HD.out j h1
          have HO := Lib.hid (fun h => numL_over (x := x) (i := j) (n := n) h1 h)
          have HN := Lib.hid (fun h => numL_next (x := x) (i := j) (n := n) h1 h)
          generalize x[j].toNat = d at *
          have hs1 : IntKind.u8.wrap ((d : Int) - 48) = (d : Int) - 48 := IntWalk.u8_in _ (by omega)
          by_cases h2 : 1000000000 < n * 10 + (d - 48)
          · have hq : (1000000000 : Int) < (n : Int) * 10 + ((d : Int) - 48) := by omega
            have H3 := Lib.hid ((HO.out h2).symm.trans HA.out)
            go_wp2
            refine bodyPost_ret (v := .tuple #[.agg #[.int .i64 0, .string ⟨#[]⟩, .int .i64 0, .int .i64 0], .int .i64 next, .int .i64 3]) (by simp [results, Tryd.f26, go_sem, c0, c1, c2, c3]) rfl ⟨by rw [HM.out, ← H3.out]; rfl, ?_⟩
            exact below_tok HB.out
          · have hq : ¬ (1000000000 : Int) < (n : Int) * 10 + ((d : Int) - 48) := by omega
            have H3 := Lib.hid ((HN.out h2).symm.trans HA.out)
            go_wp2
            go_round
            case rel => exact ⟨n * 10 + (d - 48), j + 1, by omega, by omega, by go_num, by go_num, H3⟩
            case measure => simp [intOf]; omega
        · obtain rfl : j = x.size := by omega
          have H3 := Lib.hid ((numL_end x n).symm.trans HA.out)
          go_wp2
          refine bodyPost_ret (v := .tuple #[.agg #[.int .i64 2, .string ⟨#[]⟩, .int .i64 n, .int .i64 0], .int .i64 next, .int .i64 0]) (by simp [results, Tryd.f26, go_sem, c0, c1, c2, c3]) rfl ⟨by rw [HM.out, ← H3.out]; rfl, ?_⟩
          exact below_tok HB.out
end Go.Proofs.YtojofkjnakiliaaDoor
