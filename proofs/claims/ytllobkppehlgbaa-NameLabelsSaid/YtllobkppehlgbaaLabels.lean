/- NameLabels of layer 1 is true for every text and every slice of texts, and leaves its arguments as they were; no condition. -/
import Derived.Test.YtllobkppehlgbaaN10
namespace Go.Proofs.Ytllobkppehlgbaa
open Go.ChangeShapes Go.WideShapes Go.ChangeAt Go.RowKit Go.Joins
open Go.ChangeMaps (open_string shut_string)
open NmP
namespace Labels
set_option linter.unusedVariables false

/-- What the walk is told of a slice of texts that came in: it is nil, or leads to a row of cells. -/
def IsStrs (w : World) (a : Option Addr) (len cap : Nat) (ss : List ByteArray) : Prop :=
  (a = none ∧ len = 0 ∧ cap = 0 ∧ ss = []) ∨
  ∃ x, a = some x ∧ len ≤ cap ∧ cap ≤ maxLen ∧ len ≤ ss.length ∧ (∀ i, i < ss.length → w.cell? (x.add i) = some (.string (ss.getD i ByteArray.empty))) ∧ ∀ s ∈ ss, s.size ≤ maxLen
theorem IsStrs.len {w : World} {a : Option Addr} {len cap : Nat} {ss : List ByteArray} (h : IsStrs w a len cap ss) : len ≤ maxLen := by
  rcases h with ⟨_, h, _⟩ | ⟨x, _, h1, h2, _⟩ <;> omega
theorem IsStrs.at {w : World} {a : Option Addr} {len cap : Nat} {ss : List ByteArray} (h : IsStrs w a len cap ss) (h1 : 1 ≤ len) :
    ∃ (b o : Nat) (xs : List ByteArray), a = some ⟨b, o, none⟩ ∧ xs.length = len ∧ len ≤ cap ∧ (∀ j, (hj : j < xs.length) → w.cell? ⟨b, o + j, none⟩ = some (.string xs[j])) ∧ ∀ x ∈ xs, x.size ≤ maxLen := by
  rcases h with ⟨_, h, _⟩ | ⟨x, rfl, hl, hm, hs, hc, hz⟩
  · omega
  · obtain ⟨b, off, spot⟩ := x
    have hspot : spot = none := by simpa [Addr.add] using World.cell?_spot (hc 0 (by omega))
    subst hspot
    refine ⟨b, off, ss.take len, rfl, by simp; omega, hl, fun j hj => ?_, fun x hx => hz x (List.mem_of_mem_take hx)⟩
    rw [List.length_take] at hj
    have := hc j (by omega)
    rw [List.getElem_take, ← Go.WideShapes.add_plain, this, List.getD_eq_getElem?_getD, List.getElem?_eq_getElem (by omega)]
    rfl

theorem mem_le : ∀ {r : List Bs} {x : Bs}, x ∈ r → x.length ≤ (joinD r).length
  | [], _, h => absurd h List.not_mem_nil
  | [y], x, h => by
    rw [List.mem_singleton.1 h]; exact Nat.le_refl _
  | y :: z :: r, x, h => by
    rw [joinD_cons _ _ (by simp)]
    rcases List.mem_cons.1 h with rfl | h
    · simp
    · have := mem_le h
      simp; omega

/-- The labels of a name, joined, are this name. -/
theorem Join_labels (s : ByteArray) (hv : validB s.toList = true) (l : List ByteArray) (hl : tls l = labs s.toList) (b : Nat) (w : World) (hc : ∀ j, (hj : j < l.length) → w.cell? ⟨b, j, none⟩ = some (.string l[j])) :
    Calls Try.prog 17 #[.slice (some ⟨b, 0, none⟩) l.length l.length] w fun e w' => e = .returned (.tuple #[.string s, .int .i64 0]) ∧ Below w.heap.size w w' := by
  have hlen : l.length = (labs s.toList).length := by rw [← hl]; simp [tls]
  have h8 := (valid_len hv).1
  have hsz : ∀ x ∈ l, x.size ≤ maxLen := by
    intro x hx
    have hm : x.toList ∈ labs s.toList := by rw [← hl]; exact List.mem_map_of_mem hx
    have hle : x.toList.length ≤ s.toList.length := by
      unfold labs at hm
      split at hm
      · exact absurd hm List.not_mem_nil
      · rw [← joinD_splitF s.toList]
        exact mem_le hm
    rw [tl_len, tl_len] at hle
    have := small hv
    unfold maxLen; omega
  by_cases hr : s.toList = [46]
  · have h0 : l.length = 0 := by rw [hlen, hr, labs_root]; rfl
    rw [h0]
    have hs : s = rootS := ba_ext (by rw [rootS_toList, hr])
    rw [hs]
    exact (Join_empty _ _ w).mono fun e w' ⟨he, hw⟩ => ⟨he, hw ▸ Below.refl _ _⟩
  · have hne : 1 ≤ l.length := by
      rw [hlen, labs_of hr]
      exact List.length_pos_iff.2 (splitF_ne _)
    have hok : labsOK true (tls l) = true := by
      rw [hl, labs_of hr]
      have := hv
      simp only [validB, Bool.or_eq_true, Bool.and_eq_true, beq_iff_eq] at this
      rcases this with q | q
      · exact absurd q hr
      · exact q.1.2
    have hj : joinS l = s := ba_ext (by rw [joinS_toList, hl, labs_of hr, joinD_splitF])
    have := Join_good l b 0 l.length w (by omega) hne (fun j hj => by rw [Nat.zero_add]; exact hc j hj) hsz (Nat.le_refl _) hok true (by rw [hj]; exact hv)
    rw [hj] at this
    exact this

/-- What Join answers for the slice that came in, in every world in which this reads as it did. -/
theorem Join_kinds (a : Option Addr) (len cap : Nat) (ss : List ByteArray) (w : World) (h : IsStrs w a len cap ss) :
    (∀ W, Below w.heap.size w W → Calls Try.prog 17 #[.slice a len cap] W fun e w' => e = .returned (.tuple #[.string ⟨#[]⟩, .int .i64 11]) ∧ Below W.heap.size W w') ∨
    (len = 0 ∧ ∀ W, Below w.heap.size w W → Calls Try.prog 17 #[.slice a len cap] W fun e w' => e = .returned (.tuple #[.string rootS, .int .i64 0]) ∧ Below W.heap.size W w') ∨
    (∃ (b o : Nat) (xs : List ByteArray) (t : ByteArray), 1 ≤ len ∧ len ≤ 8 ∧ a = some ⟨b, o, none⟩ ∧ xs.length = len ∧ len ≤ cap ∧ (∀ j, (hj : j < xs.length) → w.cell? ⟨b, o + j, none⟩ = some (.string xs[j])) ∧ validB t.toList = true ∧ labs t.toList = tls xs ∧
      ∀ W, Below w.heap.size w W → Calls Try.prog 17 #[.slice a len cap] W fun e w' => e = .returned (.tuple #[.string t, .int .i64 0]) ∧ Below W.heap.size W w') := by
  by_cases h0 : len = 0
  · subst h0
    exact .inr (.inl ⟨rfl, fun W _ => (Join_empty a cap W).mono fun e w' ⟨he, hw⟩ => ⟨he, hw ▸ Below.refl _ _⟩⟩)
  · by_cases h8 : 8 < len
    · exact .inl fun W _ => (Join_many a len cap W h8 h.len).mono fun e w' ⟨he, hw⟩ => ⟨he, hw ▸ Below.refl _ _⟩
    · obtain ⟨b, o, xs, rfl, rfl, hcap, hc, hz⟩ := h.at (by omega)
      have hcW : ∀ W, Below w.heap.size w W → ∀ j, (hj : j < xs.length) → W.cell? ⟨b, o + j, none⟩ = some (.string xs[j]) := fun W hB j hj =>
        (hB.cell (World.block_lt_of_cell? _ _ (hc j hj))).trans (hc j hj)
      cases hok : labsOK true (tls xs)
      · exact .inl fun W hB => (Join_bad xs b o cap W (by omega) (by omega) (hcW W hB) hz hok).mono fun e w' ⟨he, hw⟩ => ⟨he, hw ▸ Below.refl _ _⟩
      · cases hv : validB (joinS xs).toList
        · exact .inl fun W hB => Join_good xs b o cap W (by omega) (by omega) (hcW W hB) hz hcap hok false hv
        · refine .inr (.inr ⟨b, o, xs, joinS xs, by omega, by omega, rfl, rfl, hcap, hc, hv, ?_, fun W hB => Join_good xs b o cap W (by omega) (by omega) (hcW W hB) hz hcap hok true hv⟩)
          rw [joinS_toList]
          exact (labs_join (by intro q; have := congrArg List.length q; simp [tls] at this; subst this; exact h0 rfl) hok).2
set_option maxHeartbeats 2000000 in
set_option maxRecDepth 100000 in
theorem walk_t_err (s : ByteArray) (a : Option Addr) (len cap : Nat) (w : World) (hs : s.size ≤ maxLen) (hv : validB s.toList = true) (hj : ∀ W, Below w.heap.size w W → Calls Try.prog 17 #[.slice a len cap] W fun e w' => e = .returned (.tuple #[.string ⟨#[]⟩, .int .i64 11]) ∧ Below W.heap.size W w') :
    Calls Try.prog 3 #[.string s, .slice a len cap] w fun e w' => e = .returned (.bool true) ∧ Below w.heap.size w w' := by
  have h1 := fun W => valid_any s W hs
  rw [hv] at h1
  have H1 := Lib.hid h1
  have HJ := Lib.hid hj
  have HV := Lib.hid hv
  clear h1 hj hv
  go_enter Try.func3, Try.ntmps3
  go_wp2_with (first | (go_at_call 14; refine (head_any _).mono ?_; rintro e w1 ⟨rfl, hb⟩; have HB := Lib.hid hb; clear hb) | (go_at_call 15; refine (H1.out _).mono ?_; rintro e w2 ⟨rfl, rfl⟩))
  refine (Labels_fwd s _ hs HV.out).mono ?_
  rintro e w2 ⟨b1, l1, hl1, rfl, hc1, hb1⟩
  have HL1 := Lib.hid hl1
  have HC1 := Lib.hid hc1
  have HB := Lib.hid (HB.out.trans (hb1.mono HB.out.size))
  have hn1 : l1.length ≤ 8 := by
    have h9 := (valid_len HV.out).1
    rw [← HL1.out] at h9
    simpa [tls] using h9
  clear hl1 hc1 hb1
  go_wp2_with fail
  refine (Join_labels s HV.out l1 HL1.out b1 w2 HC1.out).mono ?_
  rintro e w3 ⟨rfl, hb3⟩
  have HB := Lib.hid (HB.out.trans (hb3.mono HB.out.size))
  clear hb3 HC1 HL1
  go_wp2_with fail
  refine (HJ.out _ HB.out).mono ?_
  rintro e w4 ⟨rfl, hb4⟩
  have HB := Lib.hid (HB.out.trans (hb4.mono HB.out.size))
  clear hb4
  go_wp2
  go_ret
  exact ⟨rfl, HB.out⟩

set_option maxHeartbeats 2000000 in
set_option maxRecDepth 100000 in
theorem walk_t_ok0 (s : ByteArray) (a : Option Addr) (cap : Nat) (w : World) (hs : s.size ≤ maxLen) (hv : validB s.toList = true) (hj : ∀ W, Below w.heap.size w W → Calls Try.prog 17 #[.slice a 0 cap] W fun e w' => e = .returned (.tuple #[.string rootS, .int .i64 0]) ∧ Below W.heap.size W w') :
    Calls Try.prog 3 #[.string s, .slice a 0 cap] w fun e w' => e = .returned (.bool true) ∧ Below w.heap.size w w' := by
  have h1 := fun W => valid_any s W hs
  rw [hv] at h1
  have H1 := Lib.hid h1
  have HJ := Lib.hid hj
  have HV := Lib.hid hv
  clear h1 hj hv
  go_enter Try.func3, Try.ntmps3
  go_wp2_with (first | (go_at_call 14; refine (head_any _).mono ?_; rintro e w1 ⟨rfl, hb⟩; have HB := Lib.hid hb; clear hb) | (go_at_call 15; refine (H1.out _).mono ?_; rintro e w2 ⟨rfl, rfl⟩))
  refine (Labels_fwd s _ hs HV.out).mono ?_
  rintro e w2 ⟨b1, l1, hl1, rfl, hc1, hb1⟩
  have HL1 := Lib.hid hl1
  have HC1 := Lib.hid hc1
  have HB := Lib.hid (HB.out.trans (hb1.mono HB.out.size))
  have hn1 : l1.length ≤ 8 := by
    have h9 := (valid_len HV.out).1
    rw [← HL1.out] at h9
    simpa [tls] using h9
  clear hl1 hc1 hb1
  go_wp2_with fail
  refine (Join_labels s HV.out l1 HL1.out b1 w2 HC1.out).mono ?_
  rintro e w3 ⟨rfl, hb3⟩
  have HB := Lib.hid (HB.out.trans (hb3.mono HB.out.size))
  clear hb3 HC1 HL1
  go_wp2_with fail
  refine (HJ.out _ HB.out).mono ?_
  rintro e w4 ⟨rfl, hb4⟩
  have HB := Lib.hid (HB.out.trans (hb4.mono HB.out.size))
  clear hb4
  go_wp2_with fail
  have hts : rootS.size ≤ maxLen := by decide
  have h5 := fun W => valid_any rootS W hts
  rw [show validB rootS.toList = true by rw [rootS_toList]; rfl] at h5
  have H5 := Lib.hid h5
  clear h5
  refine (Labels_fwd rootS _ hts (by rw [rootS_toList]; rfl)).mono ?_
  rintro e w5 ⟨b5, l5, hl5, rfl, hc5, hb5⟩
  have HB := Lib.hid (HB.out.trans (hb5.mono HB.out.size))
  clear hb5
  have hl0 : l5 = [] := by
    rw [rootS_toList, labs_root] at hl5
    simpa [tls] using hl5
  subst hl0
  clear hc5 hl5
  simp only [List.length_nil]
  go_wp2_with (go_at_call 15; refine (H5.out _).mono ?_; rintro e w2 ⟨rfl, rfl⟩)
  go_loop [5, 81] (fun s5 s81 => s5 = .bool true ∧ s81 = .int .i64 0) (fun _ _ => 0)
  case atStart => exact ⟨rfl, rfl⟩
  case round =>
    obtain ⟨rfl, rfl⟩ := hrel
    go_wp2
    go_ret
    exact ⟨rfl, HB.out⟩

set_option maxHeartbeats 2000000 in
set_option maxRecDepth 100000 in
theorem walk_t_okn (s : ByteArray) (b o cap : Nat) (xs : List ByteArray) (t : ByteArray) (w : World) (hs : s.size ≤ maxLen) (hv : validB s.toList = true) (hlen : xs.length ≤ 8) (hl1 : 1 ≤ xs.length) (hcap : xs.length ≤ cap) (hcx : ∀ j, (hj : j < xs.length) → w.cell? ⟨b, o + j, none⟩ = some (.string xs[j])) (hvt : validB t.toList = true) (hlt : labs t.toList = tls xs) (hj : ∀ W, Below w.heap.size w W → Calls Try.prog 17 #[.slice (some ⟨b, o, none⟩) xs.length cap] W fun e w' => e = .returned (.tuple #[.string t, .int .i64 0]) ∧ Below W.heap.size W w') :
    Calls Try.prog 3 #[.string s, .slice (some ⟨b, o, none⟩) xs.length cap] w fun e w' => e = .returned (.bool true) ∧ Below w.heap.size w w' := by
  have h1 := fun W => valid_any s W hs
  rw [hv] at h1
  have H1 := Lib.hid h1
  have HJ := Lib.hid hj
  have HV := Lib.hid hv
  clear h1 hj hv
  have HCX := Lib.hid hcx
  have HVT := Lib.hid hvt
  have HLT := Lib.hid hlt
  clear hcx hvt hlt
  go_enter Try.func3, Try.ntmps3
  go_wp2_with (first | (go_at_call 14; refine (head_any _).mono ?_; rintro e w1 ⟨rfl, hb⟩; have HB := Lib.hid hb; clear hb) | (go_at_call 15; refine (H1.out _).mono ?_; rintro e w2 ⟨rfl, rfl⟩))
  refine (Labels_fwd s _ hs HV.out).mono ?_
  rintro e w2 ⟨b1, l1, hl1, rfl, hc1, hb1⟩
  have HL1 := Lib.hid hl1
  have HC1 := Lib.hid hc1
  have HB := Lib.hid (HB.out.trans (hb1.mono HB.out.size))
  have hn1 : l1.length ≤ 8 := by
    have h9 := (valid_len HV.out).1
    rw [← HL1.out] at h9
    simpa [tls] using h9
  clear hl1 hc1 hb1
  go_wp2_with fail
  refine (Join_labels s HV.out l1 HL1.out b1 w2 HC1.out).mono ?_
  rintro e w3 ⟨rfl, hb3⟩
  have HB := Lib.hid (HB.out.trans (hb3.mono HB.out.size))
  clear hb3 HC1 HL1
  go_wp2_with fail
  refine (HJ.out _ HB.out).mono ?_
  rintro e w4 ⟨rfl, hb4⟩
  have HB := Lib.hid (HB.out.trans (hb4.mono HB.out.size))
  clear hb4
  go_wp2_with fail
  have hts : t.size ≤ maxLen := Nat.le_trans (small HVT.out) (by unfold maxLen; omega)
  have h5 := fun W => valid_any t W hts
  rw [HVT.out] at h5
  have H5 := Lib.hid h5
  clear h5
  refine (Labels_fwd t _ hts HVT.out).mono ?_
  rintro e w5 ⟨b5, l5, hl5, rfl, hc5, hb5⟩
  have HB := Lib.hid (HB.out.trans (hb5.mono HB.out.size))
  clear hb5
  have hlx : tls l5 = tls xs := by rw [hl5]; exact HLT.out
  have hl5n : l5.length = xs.length := by have := congrArg List.length hlx; simpa [tls] using this
  have HE : Hid (∀ j, (h1 : j < l5.length) → (h2 : j < xs.length) → l5[j].toList = xs[j].toList) := Lib.hid (fun j h1 h2 => by
    have q1 : (tls l5)[j]? = some l5[j].toList := by simp [tls, h1]
    have q2 : (tls xs)[j]? = some xs[j].toList := by simp [tls, h2]
    rw [hlx, q2] at q1
    exact (Option.some.inj q1).symm)
  have HC5 := Lib.hid hc5
  have HN5 := Lib.hid hl5n
  clear hc5 hl5 hlx
  rw [hl5n]
  clear hl5n
  go_wp2_with (go_at_call 15; refine (H5.out _).mono ?_; rintro e w2 ⟨rfl, rfl⟩)
  go_loopw [5, 81] (fun s5 s81 wr => s5 = .bool true ∧ ∃ k : Nat, k ≤ xs.length ∧ s81 = .int .i64 k ∧ Hid (∀ j, (hj : j < l5.length) → wr.cell? ⟨b5, j, none⟩ = some (.string l5[j])) ∧ Hid (Below w.heap.size w wr)) (fun _ s81 _ => xs.length - (intOf s81).toNat)
  case atStart => exact ⟨rfl, 0, by omega, rfl, HC5, HB⟩
  case round =>
    obtain ⟨rfl, k, hk, rfl, HC6, HB6⟩ := hrel
    clear HC5 HB
    by_cases hlt : k < xs.length
    · have hlt5 : k < l5.length := by rw [HN5.out]; exact hlt
      have c5 := HC6.out k hlt5
      have cx : wr.cell? ⟨b, o + k, none⟩ = some (.string xs[k]) := (HB6.out.cell (World.block_lt_of_cell? _ _ (HCX.out k hlt))).trans (HCX.out k hlt)
      have he : (l5[k].toList == xs[k].toList) = true := by rw [beq_iff_eq]; exact HE.out k hlt5 hlt
      generalize l5[k] = y5 at *
      generalize xs[k] = yx at *
      have hi1 : (k : Int) < (xs.length : Int) := by omega
      have hi0 : (0 : Int) ≤ (k : Int) := by omega
      go_wp2_with fail
      go_quiet (fail)
      go_wp2
      go_roundw
      case rel => exact ⟨rfl, k + 1, by omega, by go_num, Lib.hid (fun j hj => HC6.out j hj), Lib.hid (below_drewN HB6.out _)⟩
      case measure => simp [intOf] <;> omega
    · obtain rfl : k = xs.length := by omega
      go_wp2
      go_ret
      exact ⟨rfl, HB6.out⟩

set_option maxHeartbeats 2000000 in
set_option maxRecDepth 100000 in
theorem walk_f_err (s : ByteArray) (a : Option Addr) (len cap : Nat) (w : World) (hs : s.size ≤ maxLen) (hv : validB s.toList = false) (hj : ∀ W, Below w.heap.size w W → Calls Try.prog 17 #[.slice a len cap] W fun e w' => e = .returned (.tuple #[.string ⟨#[]⟩, .int .i64 11]) ∧ Below W.heap.size W w') :
    Calls Try.prog 3 #[.string s, .slice a len cap] w fun e w' => e = .returned (.bool true) ∧ Below w.heap.size w w' := by
  have h1 := fun W => valid_any s W hs
  rw [hv] at h1
  have H1 := Lib.hid h1
  have HJ := Lib.hid hj
  have HV := Lib.hid hv
  clear h1 hj hv
  go_enter Try.func3, Try.ntmps3
  go_wp2_with (first | (go_at_call 14; refine (head_any _).mono ?_; rintro e w1 ⟨rfl, hb⟩; have HB := Lib.hid hb; clear hb) | (go_at_call 15; refine (H1.out _).mono ?_; rintro e w2 ⟨rfl, rfl⟩))
  refine (HJ.out _ HB.out).mono ?_
  rintro e w4 ⟨rfl, hb4⟩
  have HB := Lib.hid (HB.out.trans (hb4.mono HB.out.size))
  clear hb4
  go_wp2
  go_ret
  exact ⟨rfl, HB.out⟩

set_option maxHeartbeats 2000000 in
set_option maxRecDepth 100000 in
theorem walk_f_ok0 (s : ByteArray) (a : Option Addr) (cap : Nat) (w : World) (hs : s.size ≤ maxLen) (hv : validB s.toList = false) (hj : ∀ W, Below w.heap.size w W → Calls Try.prog 17 #[.slice a 0 cap] W fun e w' => e = .returned (.tuple #[.string rootS, .int .i64 0]) ∧ Below W.heap.size W w') :
    Calls Try.prog 3 #[.string s, .slice a 0 cap] w fun e w' => e = .returned (.bool true) ∧ Below w.heap.size w w' := by
  have h1 := fun W => valid_any s W hs
  rw [hv] at h1
  have H1 := Lib.hid h1
  have HJ := Lib.hid hj
  have HV := Lib.hid hv
  clear h1 hj hv
  go_enter Try.func3, Try.ntmps3
  go_wp2_with (first | (go_at_call 14; refine (head_any _).mono ?_; rintro e w1 ⟨rfl, hb⟩; have HB := Lib.hid hb; clear hb) | (go_at_call 15; refine (H1.out _).mono ?_; rintro e w2 ⟨rfl, rfl⟩))
  refine (HJ.out _ HB.out).mono ?_
  rintro e w4 ⟨rfl, hb4⟩
  have HB := Lib.hid (HB.out.trans (hb4.mono HB.out.size))
  clear hb4
  go_wp2_with fail
  have hts : rootS.size ≤ maxLen := by decide
  have h5 := fun W => valid_any rootS W hts
  rw [show validB rootS.toList = true by rw [rootS_toList]; rfl] at h5
  have H5 := Lib.hid h5
  clear h5
  refine (Labels_fwd rootS _ hts (by rw [rootS_toList]; rfl)).mono ?_
  rintro e w5 ⟨b5, l5, hl5, rfl, hc5, hb5⟩
  have HB := Lib.hid (HB.out.trans (hb5.mono HB.out.size))
  clear hb5
  have hl0 : l5 = [] := by
    rw [rootS_toList, labs_root] at hl5
    simpa [tls] using hl5
  subst hl0
  clear hc5 hl5
  simp only [List.length_nil]
  go_wp2_with (go_at_call 15; refine (H5.out _).mono ?_; rintro e w2 ⟨rfl, rfl⟩)
  go_loop [5, 81] (fun s5 s81 => s5 = .bool true ∧ s81 = .int .i64 0) (fun _ _ => 0)
  case atStart => exact ⟨rfl, rfl⟩
  case round =>
    obtain ⟨rfl, rfl⟩ := hrel
    go_wp2
    go_ret
    exact ⟨rfl, HB.out⟩

set_option maxHeartbeats 2000000 in
set_option maxRecDepth 100000 in
theorem walk_f_okn (s : ByteArray) (b o cap : Nat) (xs : List ByteArray) (t : ByteArray) (w : World) (hs : s.size ≤ maxLen) (hv : validB s.toList = false) (hlen : xs.length ≤ 8) (hl1 : 1 ≤ xs.length) (hcap : xs.length ≤ cap) (hcx : ∀ j, (hj : j < xs.length) → w.cell? ⟨b, o + j, none⟩ = some (.string xs[j])) (hvt : validB t.toList = true) (hlt : labs t.toList = tls xs) (hj : ∀ W, Below w.heap.size w W → Calls Try.prog 17 #[.slice (some ⟨b, o, none⟩) xs.length cap] W fun e w' => e = .returned (.tuple #[.string t, .int .i64 0]) ∧ Below W.heap.size W w') :
    Calls Try.prog 3 #[.string s, .slice (some ⟨b, o, none⟩) xs.length cap] w fun e w' => e = .returned (.bool true) ∧ Below w.heap.size w w' := by
  have h1 := fun W => valid_any s W hs
  rw [hv] at h1
  have H1 := Lib.hid h1
  have HJ := Lib.hid hj
  have HV := Lib.hid hv
  clear h1 hj hv
  have HCX := Lib.hid hcx
  have HVT := Lib.hid hvt
  have HLT := Lib.hid hlt
  clear hcx hvt hlt
  go_enter Try.func3, Try.ntmps3
  go_wp2_with (first | (go_at_call 14; refine (head_any _).mono ?_; rintro e w1 ⟨rfl, hb⟩; have HB := Lib.hid hb; clear hb) | (go_at_call 15; refine (H1.out _).mono ?_; rintro e w2 ⟨rfl, rfl⟩))
  refine (HJ.out _ HB.out).mono ?_
  rintro e w4 ⟨rfl, hb4⟩
  have HB := Lib.hid (HB.out.trans (hb4.mono HB.out.size))
  clear hb4
  go_wp2_with fail
  have hts : t.size ≤ maxLen := Nat.le_trans (small HVT.out) (by unfold maxLen; omega)
  have h5 := fun W => valid_any t W hts
  rw [HVT.out] at h5
  have H5 := Lib.hid h5
  clear h5
  refine (Labels_fwd t _ hts HVT.out).mono ?_
  rintro e w5 ⟨b5, l5, hl5, rfl, hc5, hb5⟩
  have HB := Lib.hid (HB.out.trans (hb5.mono HB.out.size))
  clear hb5
  have hlx : tls l5 = tls xs := by rw [hl5]; exact HLT.out
  have hl5n : l5.length = xs.length := by have := congrArg List.length hlx; simpa [tls] using this
  have HE : Hid (∀ j, (h1 : j < l5.length) → (h2 : j < xs.length) → l5[j].toList = xs[j].toList) := Lib.hid (fun j h1 h2 => by
    have q1 : (tls l5)[j]? = some l5[j].toList := by simp [tls, h1]
    have q2 : (tls xs)[j]? = some xs[j].toList := by simp [tls, h2]
    rw [hlx, q2] at q1
    exact (Option.some.inj q1).symm)
  have HC5 := Lib.hid hc5
  have HN5 := Lib.hid hl5n
  clear hc5 hl5 hlx
  rw [hl5n]
  clear hl5n
  go_wp2_with (go_at_call 15; refine (H5.out _).mono ?_; rintro e w2 ⟨rfl, rfl⟩)
  go_loopw [5, 81] (fun s5 s81 wr => s5 = .bool true ∧ ∃ k : Nat, k ≤ xs.length ∧ s81 = .int .i64 k ∧ Hid (∀ j, (hj : j < l5.length) → wr.cell? ⟨b5, j, none⟩ = some (.string l5[j])) ∧ Hid (Below w.heap.size w wr)) (fun _ s81 _ => xs.length - (intOf s81).toNat)
  case atStart => exact ⟨rfl, 0, by omega, rfl, HC5, HB⟩
  case round =>
    obtain ⟨rfl, k, hk, rfl, HC6, HB6⟩ := hrel
    clear HC5 HB
    by_cases hlt : k < xs.length
    · have hlt5 : k < l5.length := by rw [HN5.out]; exact hlt
      have c5 := HC6.out k hlt5
      have cx : wr.cell? ⟨b, o + k, none⟩ = some (.string xs[k]) := (HB6.out.cell (World.block_lt_of_cell? _ _ (HCX.out k hlt))).trans (HCX.out k hlt)
      have he : (l5[k].toList == xs[k].toList) = true := by rw [beq_iff_eq]; exact HE.out k hlt5 hlt
      generalize l5[k] = y5 at *
      generalize xs[k] = yx at *
      have hi1 : (k : Int) < (xs.length : Int) := by omega
      have hi0 : (0 : Int) ≤ (k : Int) := by omega
      go_wp2_with fail
      go_quiet (fail)
      go_wp2
      go_roundw
      case rel => exact ⟨rfl, k + 1, by omega, by go_num, Lib.hid (fun j hj => HC6.out j hj), Lib.hid (below_drewN HB6.out _)⟩
      case measure => simp [intOf] <;> omega
    · obtain rfl : k = xs.length := by omega
      go_wp2
      go_ret
      exact ⟨rfl, HB6.out⟩

theorem walk (s : ByteArray) (a : Option Addr) (len cap : Nat) (ss : List ByteArray) (w : World) (hs : s.size ≤ maxLen) (hl : IsStrs w a len cap ss) :
    Calls Try.prog 3 #[.string s, .slice a len cap] w fun e w' => e = .returned (.bool true) ∧ Below w.heap.size w w' := by
  cases hv : validB s.toList
  · rcases Join_kinds a len cap ss w hl with h | ⟨rfl, h⟩ | ⟨b, o, xs, t, h1, h8, rfl, rfl, hcap, hc, hvt, hlt, h⟩
    · exact walk_f_err s a len cap w hs hv h
    · exact walk_f_ok0 s a cap w hs hv h
    · exact walk_f_okn s b o cap xs t w hs hv h8 h1 hcap hc hvt hlt h
  · rcases Join_kinds a len cap ss w hl with h | ⟨rfl, h⟩ | ⟨b, o, xs, t, h1, h8, rfl, rfl, hcap, hc, hvt, hlt, h⟩
    · exact walk_t_err s a len cap w hs hv h
    · exact walk_t_ok0 s a cap w hs hv h
    · exact walk_t_okn s b o cap xs t w hs hv h8 h1 hcap hc hvt hlt h

theorem own : ownKnob Try.prog.godebug = none := by kernel_rfl
theorem laidOut : laidOutB Try.prog = true := by kernel_rfl

set_option maxRecDepth 100000 in
theorem lifted (os : Os) (started : os.Started) (H : Type) (enc : TypeId × Value → H) :
    ReturnsInHanded {} Try.checked os 3 .any (Rows.nameLabelsSpec.pre6 enc Try.prog Try.f3 Rows.nameLabelsRow.domain false) (Rows.nameLabelsSpec.post enc Try.prog Try.f3 false true false false) := by
  refine returnsInHanded_of_change (C := Try.checked) own started (by kernel_rfl) Try.func3
    (ChangeSpec.witness6 (enc := enc) (C := Try.checked) false ⟨#[], #[.string ⟨#[]⟩, .slice none 0 0], []⟩ 8 (by kernel_rfl) (by kernel_rfl) (by kernel_rfl) (by kernel_rfl)) ?_
  intro W base args ds gs before hval0 hW hcnd _
  have hval : ∀ (j : Nat) t v, Try.f3.params[j]? = some t → args[j]? = some v → Value.okWide Try.prog W .any base t v := hval0
  have hW' := hW
  obtain ⟨p, q, hA0, hV, rfl, hfz, hnd⟩ := hW
  have hA : DataW.TrodAll enc Try.prog W 0 (fun _ => true) true Try.f3.params.toList args.toList ds p := hA0
  rw [Try.params3] at hA hval
  obtain ⟨v0, vs0, d0, ds0, p0, q0, hargs, rfl, rfl, h0, r0⟩ := trodAll_cons hA
  obtain ⟨v1, vs1, d1, ds1, p1, q1, rfl, rfl, rfl, h1, r1⟩ := trodAll_cons r0
  obtain ⟨rfl, rfl, rfl⟩ := trodAll_nil r1
  obtain rfl : args = #[v0, v1] := by cases args; simp_all
  obtain ⟨rfl, rfl⟩ := trodVars_none hV
  have k0 := h0
  have lt0 : ∀ x ∈ p0, x.block < W.heap.size := by obtain ⟨m, hm⟩ := k0; exact DataW.trod_lt m _ _ _ hm
  have k1 := h1
  have lt1 : ∀ x ∈ p1, x.block < W.heap.size := by obtain ⟨m, hm⟩ := k1; exact DataW.trod_lt m _ _ _ hm
  obtain ⟨s0, rfl, rfl, rfl, ws0⟩ := open_string Try.underlying9 (hval 0 9 v0 rfl rfl) h0
  obtain ⟨a1, len1, cap1, rfl⟩ := okWide_slice Try.underlying22 (hval 1 22 v1 rfl rfl)
  obtain ⟨z1, w1⟩ : ∃ ss, IsStrs W a1 len1 cap1 ss := by
    obtain ⟨fuel, hf⟩ := h1
    rcases open_strings Try.underlying22 Try.underlying9 (by kernel_rfl) hf with ⟨hcs, _⟩ | ⟨x, l, c, ss, hcs, _, hl, hm, hz, _, hcell, hws⟩
    · simp [Value.cells] at hcs
      obtain ⟨rfl, rfl, rfl⟩ := hcs
      exact ⟨[], .inl ⟨rfl, rfl, rfl, rfl⟩⟩
    · simp [Value.cells] at hcs
      obtain ⟨rfl, rfl, rfl⟩ := hcs
      exact ⟨ss, .inr ⟨_, rfl, hl, hm, by simp at hz; omega, hcell, hws⟩⟩
  clear hA0 hval0
  refine (walk s0 a1 len1 cap1 z1 W ws0 w1).mono fun e W' ⟨he, bel⟩ => ?_
  subst he
  exact ⟨_, rfl, _, _, _, [], _, [], hW', trodAll_mk1 (shut_bool Try.underlying4 _), (trodAll_cons_mk (Below.trod laidOut (by kernel_rfl) (of_decide_eq_true (by kernel_rfl)) k0 bel lt0) (trodAll_cons_mk (Below.trod laidOut (by kernel_rfl) (of_decide_eq_true (by kernel_rfl)) k1 bel lt1) trodAll_mk0)), rfl, bel.frame _, fun h => by cases h⟩

theorem over : Rows.NameLabelsSaid :=
  OpenClaim.holds_of_wide 3 Try.f3 rfl rfl rfl rfl rfl rfl rfl ⟨rfl, rfl, rfl, rfl, rfl⟩ rfl rfl rfl rfl rfl (by kernel_rfl) Try.func3 (by kernel_rfl)
    (of_decide_eq_true (by kernel_rfl)) (by unfold Func.isWrapper; rw [if_neg (of_decide_eq_false (by kernel_rfl))]; exact ⟨rfl, rfl⟩)
    (fun os started H enc _ => lifted os started H enc)

end Labels
theorem nameLabels_holds : Rows.NameLabelsSaid := Labels.over
end Go.Proofs.Ytllobkppehlgbaa
