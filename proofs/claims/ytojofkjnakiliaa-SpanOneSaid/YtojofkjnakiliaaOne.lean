/- SpanOne of layer 20 is true for every input, and leaves its arguments as they were; no condition. (Written by wip/tools/genspanone.py.) -/
import Derived.Test.YtojofkjnakiliaaS14
namespace Go.Proofs.Ytojofkjnakiliaa
open Go.ChangeShapes Go.WideShapes Go.ChangeAt Go.RowKit Go.Joins Go.Shelf
open Go.ChangeMaps (open_string shut_string)
open SpP
namespace One
set_option linter.unusedVariables false

/-- Both lists have a time, or none of both. -/
def eqT (a b : List Sp) (t : Int) : Bool := hasS a t == hasS b t
def tsOf (s : Sp) : List Int := [s.1 - 1, s.1, s.2 - 1, s.2]
def chk (a b : List Sp) (s : Sp) : Bool := (tsOf s).all (eqT a b)
theorem chk_same {a b : List Sp} (ha : Val a) (hb : Val b) : (a.all (chk a b) && b.all (chk a b)) = decide (a = b) := by
  rw [Bool.eq_iff_iff, Bool.and_eq_true, List.all_eq_true, List.all_eq_true, decide_eq_true_eq]
  constructor
  · rintro ⟨h1, h2⟩
    refine one_eq ha hb fun s hs => ?_
    have h : chk a b s = true := hs.elim (h1 s) (h2 s)
    unfold chk tsOf eqT at h
    simp only [List.all_cons, List.all_nil, Bool.and_true, Bool.and_eq_true, beq_iff_eq] at h
    exact ⟨h.2.1, h.2.2.2⟩
  · rintro rfl
    have : ∀ s, chk a a s = true := fun s => by unfold chk eqT; simp
    exact ⟨fun s _ => this s, fun s _ => this s⟩
/-- What has come of the two lists. -/
def accJ (a b : List Sp) : Nat → Bool
  | 0 => true
  | 1 => a.all (chk a b)
  | _ => a.all (chk a b) && b.all (chk a b)
theorem take_all {l : List Sp} {i : Nat} {s : Sp} (a b : List Sp) (h : l[i]? = some s) : (l.take (i + 1)).all (chk a b) = ((l.take i).all (chk a b) && chk a b s) := by
  rw [List.take_add_one, h, List.all_append]
  simp
theorem take_ts {l : List Int} {i : Nat} {s : Int} (a b : List Sp) (h : l[i]? = some s) : (l.take (i + 1)).all (eqT a b) = ((l.take i).all (eqT a b) && eqT a b s) := by
  rw [List.take_add_one, h, List.all_append]
  simp
theorem row2 (W : World) (u v : Value) (T : TypeId) : ∀ W', RowKit.Below (W.alloc (.cells #[u, v] T)).heap.size (W.alloc (.cells #[u, v] T)) W' → W'.cell? ⟨W.heap.size, 0, none⟩ = some u ∧ W'.cell? ⟨W.heap.size, 1, none⟩ = some v := fun W' h => by
  refine ⟨(h.cell (p := ⟨W.heap.size, 0, none⟩) (by simp)).trans ?_, (h.cell (p := ⟨W.heap.size, 1, none⟩) (by simp)).trans ?_⟩
  · rw [World.cell?_alloc_at _ _ _ _ rfl]; rfl
  · rw [World.cell?_alloc_at _ _ _ _ rfl]; rfl
theorem row4 (W : World) (l : List Int) (T : TypeId) (N : Nat) (hN : W.heap.size = N) : ∀ W', RowKit.Below (W.alloc (.cells (l.map (Value.int .i64)).toArray T)).heap.size (W.alloc (.cells (l.map (Value.int .i64)).toArray T)) W' → ∀ k t, l[k]? = some t → W'.cell? ⟨N, k, none⟩ = some (.int .i64 t) := fun W' h k t hk => by
  subst hN
  refine (h.cell (p := ⟨W.heap.size, k, none⟩) (by simp)).trans ?_
  rw [World.cell?_alloc_at _ _ _ _ rfl]
  simp [hk]

set_option maxHeartbeats 1000000 in
set_option maxRecDepth 100000 in
theorem walk_1 {va vb : Value} {a b : List Sp} {w : World} (ha : SlS va a w) (hb : SlS vb b w) (LA : Hid (a.length ≤ maxLen)) (LB : Hid (b.length ≤ maxLen)) (FA : Hid (decide (a.length ≤ 60) = false)) :
    Calls Try.prog 8 #[va, vb] w fun e w' => e = .returned (.bool true) ∧ RowKit.Below w.heap.size w w' := by
  have H0 := Lib.hid (((AllS.start w).add ha).add hb)
  obtain ⟨pa, ca, rfl⟩ := ha.form
  obtain ⟨pb, cb, rfl⟩ := hb.form
  clear ha hb
  go_enter Try.func8, Try.ntmps8
  go_wp2_with fail
  refine (head_any _).mono ?_
  rintro e w1 ⟨rfl, hb⟩
  have H2 := Lib.hid (H0.out.step hb)
  clear H0
  clear hb
  go_wp2_with fail
  have hN := few_sl (H2.out.nth 1 rfl) LA.out
  rw [FA.out] at hN
  refine hN.mono ?_
  clear hN
  rintro e w3 ⟨rfl, hb⟩
  have H4 := Lib.hid (H2.out.step hb)
  clear H2
  clear hb
  go_wp2
  go_ret
  exact ⟨rfl, H4.out.1⟩
set_option maxHeartbeats 1000000 in
set_option maxRecDepth 100000 in
theorem walk_2 {va vb : Value} {a b : List Sp} {w : World} (ha : SlS va a w) (hb : SlS vb b w) (LA : Hid (a.length ≤ maxLen)) (LB : Hid (b.length ≤ maxLen)) (FA : Hid (decide (a.length ≤ 60) = true)) (FB : Hid (decide (b.length ≤ 60) = false)) :
    Calls Try.prog 8 #[va, vb] w fun e w' => e = .returned (.bool true) ∧ RowKit.Below w.heap.size w w' := by
  have H0 := Lib.hid (((AllS.start w).add ha).add hb)
  obtain ⟨pa, ca, rfl⟩ := ha.form
  obtain ⟨pb, cb, rfl⟩ := hb.form
  clear ha hb
  go_enter Try.func8, Try.ntmps8
  go_wp2_with fail
  refine (head_any _).mono ?_
  rintro e w1 ⟨rfl, hb⟩
  have H2 := Lib.hid (H0.out.step hb)
  clear H0
  clear hb
  go_wp2_with fail
  have hN := few_sl (H2.out.nth 1 rfl) LA.out
  rw [FA.out] at hN
  refine hN.mono ?_
  clear hN
  rintro e w3 ⟨rfl, hb⟩
  have H4 := Lib.hid (H2.out.step hb)
  clear H2
  clear hb
  go_wp2_with fail
  have hN := few_sl (H4.out.nth 0 rfl) LB.out
  rw [FB.out] at hN
  refine hN.mono ?_
  clear hN
  rintro e w5 ⟨rfl, hb⟩
  have H6 := Lib.hid (H4.out.step hb)
  clear H4
  clear hb
  go_wp2
  go_ret
  exact ⟨rfl, H6.out.1⟩
set_option maxHeartbeats 1000000 in
set_option maxRecDepth 100000 in
theorem walk_3 {va vb : Value} {a b : List Sp} {w : World} (ha : SlS va a w) (hb : SlS vb b w) (LA : Hid (a.length ≤ maxLen)) (LB : Hid (b.length ≤ maxLen)) (FA : Hid (decide (a.length ≤ 60) = true)) (FB : Hid (decide (b.length ≤ 60) = true)) (VA : Hid (validB a = false)) :
    Calls Try.prog 8 #[va, vb] w fun e w' => e = .returned (.bool true) ∧ RowKit.Below w.heap.size w w' := by
  have H0 := Lib.hid (((AllS.start w).add ha).add hb)
  obtain ⟨pa, ca, rfl⟩ := ha.form
  obtain ⟨pb, cb, rfl⟩ := hb.form
  clear ha hb
  go_enter Try.func8, Try.ntmps8
  go_wp2_with fail
  refine (head_any _).mono ?_
  rintro e w1 ⟨rfl, hb⟩
  have H2 := Lib.hid (H0.out.step hb)
  clear H0
  clear hb
  go_wp2_with fail
  have hN := few_sl (H2.out.nth 1 rfl) LA.out
  rw [FA.out] at hN
  refine hN.mono ?_
  clear hN
  rintro e w3 ⟨rfl, hb⟩
  have H4 := Lib.hid (H2.out.step hb)
  clear H2
  clear hb
  go_wp2_with fail
  have hN := few_sl (H4.out.nth 0 rfl) LB.out
  rw [FB.out] at hN
  refine hN.mono ?_
  clear hN
  rintro e w5 ⟨rfl, hb⟩
  have H6 := Lib.hid (H4.out.step hb)
  clear H4
  clear hb
  go_wp2_with fail
  have hN := rvalid_any (H6.out.nth 1 rfl) LA.out
  rw [VA.out] at hN
  refine hN.mono ?_
  clear hN
  rintro e w7 ⟨rfl, hb⟩
  have H8 := Lib.hid (H6.out.step hb)
  clear H6
  clear hb
  go_wp2
  go_ret
  exact ⟨rfl, H8.out.1⟩
set_option maxHeartbeats 1000000 in
set_option maxRecDepth 100000 in
theorem walk_4 {va vb : Value} {a b : List Sp} {w : World} (ha : SlS va a w) (hb : SlS vb b w) (LA : Hid (a.length ≤ maxLen)) (LB : Hid (b.length ≤ maxLen)) (FA : Hid (decide (a.length ≤ 60) = true)) (FB : Hid (decide (b.length ≤ 60) = true)) (VA : Hid (validB a = true)) (VB : Hid (validB b = false)) :
    Calls Try.prog 8 #[va, vb] w fun e w' => e = .returned (.bool true) ∧ RowKit.Below w.heap.size w w' := by
  have H0 := Lib.hid (((AllS.start w).add ha).add hb)
  obtain ⟨pa, ca, rfl⟩ := ha.form
  obtain ⟨pb, cb, rfl⟩ := hb.form
  clear ha hb
  go_enter Try.func8, Try.ntmps8
  go_wp2_with fail
  refine (head_any _).mono ?_
  rintro e w1 ⟨rfl, hb⟩
  have H2 := Lib.hid (H0.out.step hb)
  clear H0
  clear hb
  go_wp2_with fail
  have hN := few_sl (H2.out.nth 1 rfl) LA.out
  rw [FA.out] at hN
  refine hN.mono ?_
  clear hN
  rintro e w3 ⟨rfl, hb⟩
  have H4 := Lib.hid (H2.out.step hb)
  clear H2
  clear hb
  go_wp2_with fail
  have hN := few_sl (H4.out.nth 0 rfl) LB.out
  rw [FB.out] at hN
  refine hN.mono ?_
  clear hN
  rintro e w5 ⟨rfl, hb⟩
  have H6 := Lib.hid (H4.out.step hb)
  clear H4
  clear hb
  go_wp2_with fail
  have hN := rvalid_any (H6.out.nth 1 rfl) LA.out
  rw [VA.out] at hN
  refine hN.mono ?_
  clear hN
  rintro e w7 ⟨rfl, hb⟩
  have H8 := Lib.hid (H6.out.step hb)
  clear H6
  clear hb
  go_wp2_with fail
  have hN := rvalid_any (H8.out.nth 0 rfl) LB.out
  rw [VB.out] at hN
  refine hN.mono ?_
  clear hN
  rintro e w9 ⟨rfl, hb⟩
  have H10 := Lib.hid (H8.out.step hb)
  clear H8
  clear hb
  go_wp2
  go_ret
  exact ⟨rfl, H10.out.1⟩

set_option maxHeartbeats 4000000 in
set_option maxRecDepth 100000 in
theorem main {va vb : Value} {a b : List Sp} {w : World} (ha : SlS va a w) (hb : SlS vb b w) (LA : Hid (a.length ≤ maxLen)) (LB : Hid (b.length ≤ maxLen)) (FA : Hid (decide (a.length ≤ 60) = true)) (FB : Hid (decide (b.length ≤ 60) = true)) (VA : Hid (validB a = true)) (VB : Hid (validB b = true)) (IA : Hid (InR a)) (IB : Hid (InR b)) (KA : a.length ≤ 60) (KB : b.length ≤ 60) (SM : Hid ((a.all (chk a b) && b.all (chk a b)) = decide (a = b))) :
    Calls Try.prog 8 #[va, vb] w fun e w' => e = .returned (.bool true) ∧ RowKit.Below w.heap.size w w' := by
  have H0 := Lib.hid (((AllS.start w).add ha).add hb)
  obtain ⟨pa, ca, rfl⟩ := ha.form
  obtain ⟨pb, cb, rfl⟩ := hb.form
  clear ha hb
  go_enter Try.func8, Try.ntmps8
  go_wp2_with fail
  refine (head_any _).mono ?_
  rintro e w1 ⟨rfl, hb⟩
  have H2 := Lib.hid (H0.out.step hb)
  clear H0
  clear hb
  go_wp2_with fail
  have hN := few_sl (H2.out.nth 1 rfl) LA.out
  rw [FA.out] at hN
  refine hN.mono ?_
  clear hN
  rintro e w3 ⟨rfl, hb⟩
  have H4 := Lib.hid (H2.out.step hb)
  clear H2
  clear hb
  go_wp2_with fail
  have hN := few_sl (H4.out.nth 0 rfl) LB.out
  rw [FB.out] at hN
  refine hN.mono ?_
  clear hN
  rintro e w5 ⟨rfl, hb⟩
  have H6 := Lib.hid (H4.out.step hb)
  clear H4
  clear hb
  go_wp2_with fail
  have hN := rvalid_any (H6.out.nth 1 rfl) LA.out
  rw [VA.out] at hN
  refine hN.mono ?_
  clear hN
  rintro e w7 ⟨rfl, hb⟩
  have H8 := Lib.hid (H6.out.step hb)
  clear H6
  clear hb
  go_wp2_with fail
  have hN := rvalid_any (H8.out.nth 0 rfl) LB.out
  rw [VB.out] at hN
  refine hN.mono ?_
  clear hN
  rintro e w9 ⟨rfl, hb⟩
  have H10 := Lib.hid (H8.out.step hb)
  clear H8
  clear hb
  go_wp2
  have hr2 := row2 w9 (.slice pa a.length ca) (.slice pb b.length cb) 22
  have hH := H10.out.step (((RowKit.Below.refl _ _).alloc (Nat.le_refl _) _) : RowKit.Below w9.heap.size w9 (w9.alloc (.cells #[.slice pa a.length ca, .slice pb b.length cb] 22)))
  obtain ⟨R, hR⟩ : ∃ R, w9.heap.size = R := ⟨_, rfl⟩
  rw [hR] at hr2 ⊢
  clear hR H10
  generalize (w9.alloc (.cells #[.slice pa a.length ca, .slice pb b.length cb] 22)) = W0 at *
  have HR2 := Lib.hid hr2
  have HH := Lib.hid hH
  clear hr2 hH
  go_loopw [37, 6] (fun s37 s6 wr => ∃ j : Nat, j ≤ 2 ∧ s37 = .int .i64 j ∧ s6 = .bool (accJ a b j) ∧ Hid (RowKit.Below W0.heap.size W0 wr)) (fun s37 _ _ => 2 - (intOf s37).toNat)
  case atStart => exact ⟨0, by omega, rfl, rfl, Lib.hid (RowKit.Below.refl _ _)⟩
  case round =>
    obtain ⟨j, hj, rfl, rfl, HB⟩ := hrel
    by_cases h1 : j < 2
    · obtain ⟨p, c, l, hcell, hSl, hnx, hl, hin⟩ : ∃ p c l, wr.cell? ⟨R, j, none⟩ = some (.slice p l.length c) ∧ SlS (.slice p l.length c) l W0 ∧ accJ a b (j + 1) = (accJ a b j && l.all (chk a b)) ∧ l.length ≤ 60 ∧ InR l := by
        have hc := HR2.out wr HB.out
        have hj2 : j = 0 ∨ j = 1 := by omega
        rcases hj2 with rfl | rfl
        · exact ⟨pa, ca, a, hc.1, HH.out.nth 1 rfl, rfl, KA, IA.out⟩
        · exact ⟨pb, cb, b, hc.2, HH.out.nth 0 rfl, rfl, KB, IB.out⟩
      have hj1 : (j : Int) < 2 := by omega
      have hj0 : (0 : Int) ≤ (j : Int) := by omega
      obtain ⟨acc, hacc⟩ : ∃ acc, accJ a b j = acc := ⟨_, rfl⟩
      rw [hacc] at hnx ⊢
      have HSL := Lib.hid hSl
      have HNX := Lib.hid hnx
      have HIN := Lib.hid hin
      obtain ⟨n, hn⟩ : ∃ n, l.length = n := ⟨_, rfl⟩
      rw [hn] at hcell hl
      have HN := Lib.hid hn
      clear hSl hnx hin hacc hn
      go_wp2
      go_loopw [43, 6] (fun s43 s6 wr => ∃ i : Nat, i ≤ n ∧ s43 = .int .i64 i ∧ s6 = .bool (acc && (l.take i).all (chk a b)) ∧ Hid (RowKit.Below W0.heap.size W0 wr)) (fun s43 _ _ => n - (intOf s43).toNat)
      case atStart => exact ⟨0, Nat.zero_le _, rfl, by simp, HB⟩
      case round =>
        obtain ⟨i, hi, rfl, rfl, HB2⟩ := hrel
        by_cases h2 : i < n
        · have ia : i < l.length := by rw [HN.out]; exact h2
          have ga : l[i]? = some l[i] := List.getElem?_eq_getElem ia
          have hSA := HSL.out.keep HB2.out
          obtain ⟨b', off, rfl, hlt, hRS⟩ : ∃ b off, p = some ⟨b, off, none⟩ ∧ b < wr.heap.size ∧ RS b off l wr := by
            exact hSA.at_ (by omega)
          obtain ⟨e0, e1⟩ := hRS.at_ ga
          have hxy := HIN.out _ (List.mem_of_getElem? ga)
          have HTA := Lib.hid (take_all a b ga)
          unfold top at hxy
          generalize l[i] = s at *
          obtain ⟨x, y⟩ := s
          simp only at e0 e1 hxy
          have hx0 := hxy.1
          have hx1 := hxy.2.1
          have hx2 := hxy.2.2
          have hi1 : (i : Int) < (n : Int) := by omega
          obtain ⟨ac2, hac2⟩ : ∃ ac2, (acc && (l.take i).all (chk a b)) = ac2 := ⟨_, rfl⟩
          rw [hac2]
          have HAC := Lib.hid hac2
          clear ga hSA hRS hxy hac2 hcell
          go_wp2
          have hr4 := row4 (wr.alloc (.cells #[.int .i64 x, .int .i64 y] 34)) [x - 1, x, y - 1, y] 3 (wr.heap.size + 1) (by simp)
          have hB4 : RowKit.Below W0.heap.size W0 ((wr.alloc (.cells #[.int .i64 x, .int .i64 y] 34)).alloc (.cells ([x - 1, x, y - 1, y].map (Value.int .i64)).toArray 3)) := (HB2.out.alloc HB2.out.size _).alloc (by simp; have := HB2.out.size; omega) _
          simp only [List.map_cons, List.map_nil] at hr4 hB4
          obtain ⟨T, hT⟩ : ∃ T, wr.heap.size + 1 = T := ⟨_, rfl⟩
          rw [hT] at hr4 ⊢
          clear hT e0 e1
          generalize ((wr.alloc (.cells #[.int .i64 x, .int .i64 y] 34)).alloc (.cells #[.int .i64 (x - 1), .int .i64 x, .int .i64 (y - 1), .int .i64 y] 3)) = W4 at *
          have HR4 := Lib.hid hr4
          have HB4 := Lib.hid hB4
          clear hr4 hB4
          go_loopw [59, 6] (fun s59 s6 wr => ∃ k : Nat, k ≤ 4 ∧ s59 = .int .i64 k ∧ s6 = .bool (ac2 && ([x - 1, x, y - 1, y].take k).all (eqT a b)) ∧ Hid (RowKit.Below W4.heap.size W4 wr)) (fun s59 _ _ => 4 - (intOf s59).toNat)
          case atStart => exact ⟨0, by omega, rfl, by simp, Lib.hid (RowKit.Below.refl _ _)⟩
          case round =>
            obtain ⟨k, hk, rfl, rfl, HB5⟩ := hrel
            by_cases h3 : k < 4
            · obtain ⟨tm, htm⟩ : ∃ tm, [x - 1, x, y - 1, y][k]? = some tm := ⟨_, List.getElem?_eq_getElem (by simpa using h3)⟩
              have hck := HR4.out wr HB5.out k tm htm
              have HTT := Lib.hid (take_ts a b htm)
              have hk1 : (k : Int) < 4 := by omega
              have hk0 : (0 : Int) ≤ (k : Int) := by omega
              obtain ⟨ac3, hac3⟩ : ∃ ac3, (ac2 && ([x - 1, x, y - 1, y].take k).all (eqT a b)) = ac3 := ⟨_, rfl⟩
              have HA3 : Hid ((ac2 && ([x - 1, x, y - 1, y].take (k + 1)).all (eqT a b)) = (ac3 && eqT a b tm)) := Lib.hid (by rw [HTT.out, ← hac3, Bool.and_assoc])
              rw [hac3]
              have hHb : RowKit.Below W0.heap.size W0 wr := HB4.out.trans (HB5.out.mono HB4.out.size)
              have HHA := Lib.hid (has_any ((HH.out.step hHb).nth 1 rfl) (lenS (n := 60) KA (by omega)) tm)
              have HHB := Lib.hid (fun W (h : RowKit.Below wr.heap.size wr W) => has_any (((HH.out.step hHb).step h).nth 0 rfl) (lenS (n := 60) KB (by omega)) tm)
              clear htm hac3 hHb HTT
              cases ac3
              · go_wp2
                go_roundw
                case rel => exact ⟨k + 1, by omega, by go_num, by rw [HA3.out]; rfl, HB5⟩
                case measure => simp [intOf]; omega
              · obtain ⟨u, hu⟩ : ∃ u, hasS a tm = u := ⟨_, rfl⟩
                obtain ⟨v, hv⟩ : ∃ v, hasS b tm = v := ⟨_, rfl⟩
                rw [hu] at HHA
                rw [hv] at HHB
                have HEQ : Hid (eqT a b tm = (u == v)) := Lib.hid (by unfold eqT; rw [hu, hv])
                clear hu hv
                cases u <;> cases v
                all_goals
                  go_wp2_with fail
                  refine HHA.out.mono ?_
                  rintro e wx ⟨rfl, hbx⟩
                  have HBX := Lib.hid hbx
                  clear hbx
                  go_wp2_with fail
                  refine (HHB.out _ HBX.out).mono ?_
                  rintro e wy ⟨rfl, hby⟩
                  have HBY := Lib.hid (HB5.out.trans ((HBX.out.trans (hby.mono HBX.out.size)).mono HB5.out.size))
                  clear hby
                  go_wp2
                  go_roundw
                  case rel => exact ⟨k + 1, by omega, by go_num, by rw [HA3.out, HEQ.out]; rfl, HBY⟩
                  case measure => simp [intOf]; omega
            · obtain rfl : k = 4 := by omega
              go_wp2
              go_roundw
              case rel => exact ⟨i + 1, by omega, by go_num, by rw [HTA.out, ← Bool.and_assoc, HAC.out]; rfl, Lib.hid (HB4.out.trans (HB5.out.mono HB4.out.size))⟩
              case measure => simp [intOf]; omega
        · obtain rfl : i = n := by omega
          go_wp2
          go_roundw
          case rel => exact ⟨j + 1, by omega, by go_num, by rw [HNX.out, List.take_of_length_le (by rw [HN.out]; exact Nat.le_refl _)], HB2⟩
          case measure => simp [intOf]; omega
    · obtain rfl : j = 2 := by omega
      have HSA := Lib.hid (same_any ((HH.out.step HB.out).nth 1 rfl) ((HH.out.step HB.out).nth 0 rfl) LA.out)
      have hsm : accJ a b 2 = decide (a = b) := SM.out
      rw [hsm]
      clear hsm
      obtain ⟨q, hq⟩ : ∃ q, decide (a = b) = q := ⟨_, rfl⟩
      rw [hq] at HSA ⊢
      clear hq SM
      cases q
      all_goals
        go_wp2_with fail
        refine HSA.out.mono ?_
        rintro e wx ⟨rfl, hbx⟩
        have HBX := Lib.hid hbx
        clear hbx
        go_wp2
        go_ret
        exact ⟨rfl, HH.out.1.trans ((HB.out.trans (HBX.out.mono HB.out.size)).mono HH.out.1.size)⟩

theorem walk (a : Option Addr) (na ca : Nat) (b : Option Addr) (nb cb : Nat) (w : World) (ha : ∃ l : List Sp, l.length = na ∧ SlS (.slice a na ca) l w ∧ l.length ≤ maxLen) (hb : ∃ l : List Sp, l.length = nb ∧ SlS (.slice b nb cb) l w ∧ l.length ≤ maxLen) :
    Calls Try.prog 8 #[.slice a na ca, .slice b nb cb] w fun e w' => e = .returned (.bool true) ∧ RowKit.Below w.heap.size w w' := by
  obtain ⟨la, _, sa, ma⟩ := ha
  obtain ⟨lb, _, sb, mb⟩ := hb
  have LA := Lib.hid ma
  have LB := Lib.hid mb
  cases fa : decide (la.length ≤ 60)
  · exact walk_1 sa sb LA LB (Lib.hid fa)
  cases fb : decide (lb.length ≤ 60)
  · exact walk_2 sa sb LA LB (Lib.hid fa) (Lib.hid fb)
  cases va : validB la
  · exact walk_3 sa sb LA LB (Lib.hid fa) (Lib.hid fb) (Lib.hid va)
  cases vb : validB lb
  · exact walk_4 sa sb LA LB (Lib.hid fa) (Lib.hid fb) (Lib.hid va) (Lib.hid vb)
  have hla := of_decide_eq_true fa
  have hlb := of_decide_eq_true fb
  have xa := ((validB_iff la).1 va).2
  have xb := ((validB_iff lb).1 vb).2
  exact main sa sb LA LB (Lib.hid fa) (Lib.hid fb) (Lib.hid va) (Lib.hid vb) (Lib.hid xa.inR) (Lib.hid xb.inR) hla hlb (Lib.hid (chk_same xa xb))

theorem own : ownKnob Try.prog.godebug = none := by kernel_rfl
theorem laidOut : laidOutB Try.prog = true := by kernel_rfl

set_option maxRecDepth 100000 in
theorem lifted (os : Os) (started : os.Started) (H : Type) (enc : TypeId × Value → H) :
    ReturnsInHanded {} Try.checked os 8 .any (Rows.spanOneSpec.pre6 enc Try.prog Try.f8 Rows.spanOneRow.domain false) (Rows.spanOneSpec.post enc Try.prog Try.f8 false true false false) := by
  refine returnsInHanded_of_change (C := Try.checked) own started (by kernel_rfl) Try.func8
    (ChangeSpec.witness6 (enc := enc) (C := Try.checked) false ⟨#[], #[.slice none 0 0, .slice none 0 0], []⟩ 8 (by kernel_rfl) (by kernel_rfl) (by kernel_rfl) (by kernel_rfl)) ?_
  intro W base args ds gs before hval0 hW hcnd _
  have hval : ∀ (j : Nat) t v, Try.f8.params[j]? = some t → args[j]? = some v → Value.okWide Try.prog W .any base t v := hval0
  have hW' := hW
  obtain ⟨p, q, hA0, hV, rfl, hfz, hnd⟩ := hW
  have hA : DataW.TrodAll enc Try.prog W 0 (fun _ => true) true Try.f8.params.toList args.toList ds p := hA0
  rw [Try.params8] at hA hval
  obtain ⟨v0, vs0, d0, ds0, p0, q0, hargs, rfl, rfl, h0, r0⟩ := trodAll_cons hA
  obtain ⟨v1, vs1, d1, ds1, p1, q1, rfl, rfl, rfl, h1, r1⟩ := trodAll_cons r0
  obtain ⟨rfl, rfl, rfl⟩ := trodAll_nil r1
  obtain rfl : args = #[v0, v1] := by cases args; simp_all
  obtain ⟨rfl, rfl⟩ := trodVars_none hV
  have k0 := h0
  have lt0 : ∀ x ∈ p0, x.block < W.heap.size := by obtain ⟨m, hm⟩ := k0; exact DataW.trod_lt m _ _ _ hm
  have k1 := h1
  have lt1 : ∀ x ∈ p1, x.block < W.heap.size := by obtain ⟨m, hm⟩ := k1; exact DataW.trod_lt m _ _ _ hm
  obtain ⟨a0, len0, cap0, rfl⟩ := okWide_slice Try.underlying22 (hval 0 22 v0 rfl rfl)
  have w0 := open_spans h0
  obtain ⟨a1, len1, cap1, rfl⟩ := okWide_slice Try.underlying22 (hval 1 22 v1 rfl rfl)
  have w1 := open_spans h1
  clear hA0 hval0
  refine (walk a0 len0 cap0 a1 len1 cap1 W w0 w1).mono fun e W' ⟨he, bel⟩ => ?_
  subst he
  exact ⟨_, rfl, _, _, _, [], _, [], hW', trodAll_mk1 (shut_bool Try.underlying4 _), (trodAll_cons_mk (Below.trod laidOut (by kernel_rfl) (of_decide_eq_true (by kernel_rfl)) k0 bel lt0) (trodAll_cons_mk (Below.trod laidOut (by kernel_rfl) (of_decide_eq_true (by kernel_rfl)) k1 bel lt1) trodAll_mk0)), rfl, bel.frame _, fun h => by cases h⟩

theorem over : Rows.SpanOneSaid :=
  OpenClaim.holds_of_wide 8 Try.f8 rfl rfl rfl rfl rfl rfl rfl ⟨rfl, rfl, rfl, rfl, rfl⟩ rfl rfl rfl rfl rfl (by kernel_rfl) Try.func8 (by kernel_rfl)
    (of_decide_eq_true (by kernel_rfl)) (by unfold Func.isWrapper; rw [if_neg (of_decide_eq_false (by kernel_rfl))]; exact ⟨rfl, rfl⟩)
    (fun os started H enc _ => lifted os started H enc)


end One
theorem spanOne_holds : Rows.SpanOneSaid := One.over
end Go.Proofs.Ytojofkjnakiliaa
