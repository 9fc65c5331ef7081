/- The contract of Read of package record; no condition beyond those that each theorem names. -/
import Derived.Test.YtmnbcjchfbfngaaDoorQ2
namespace Go.Proofs.YtmnbcjchfbfngaaDoor
set_option linter.unusedSimpArgs false
set_option linter.unusedVariables false
open Go.RowKit
open NmP

def datE : Nat → Rs → Rs
  | 0, s => s
  | k + 1, s => datE k (datS s)
def datL : Nat → Rs → List Dt
  | 0, _ => []
  | k + 1, s => datV s :: datL k (datS s)
theorem datE_snoc : ∀ (k : Nat) (s : Rs), datE (k + 1) s = datS (datE k s)
  | 0, s => rfl
  | k + 1, s => datE_snoc k (datS s)
theorem datL_snoc : ∀ (k : Nat) (s : Rs), datL (k + 1) s = datL k s ++ [datV (datE k s)]
  | 0, s => rfl
  | k + 1, s => by
    show datV s :: datL (k + 1) (datS s) = _
    rw [datL_snoc k (datS s)]; rfl
theorem datL_len : ∀ (k : Nat) (s : Rs), (datL k s).length = k
  | 0, _ => rfl
  | k + 1, s => by simp [datL, datL_len k]
theorem datS_len (s : Rs) : (datS s).1.length ≤ s.1.length := Nat.le_trans (tkS_len _ _) (Nat.le_trans (tkS_len _ _) (txtS_len s))
theorem datE_len : ∀ (k : Nat) (s : Rs), (datE k s).1.length ≤ s.1.length
  | 0, _ => Nat.le_refl _
  | k + 1, s => Nat.le_trans (datE_len k (datS s)) (datS_len s)
theorem RdAt.cell {W : World} {r : Nat} {s : Rs} {s0 s1 s2 s3 : Value} (h : RdAt W r s s0 s1 s2 s3) : W.cell? ⟨r, 2, none⟩ = some s0 ∧ W.cell? ⟨r, 3, none⟩ = some s1 ∧ W.cell? ⟨r, 4, none⟩ = some s2 ∧ W.cell? ⟨r, 5, none⟩ = some s3 ∧ W.cell? ⟨r, 1, none⟩ = some (.bool s.2) ∧ (∀ j, W.frozen? ⟨r, j, none⟩ = false) := by
  obtain ⟨v, h1, _⟩ := h.at_
  exact ⟨cell_of_blk h1 2 _ rfl, cell_of_blk h1 3 _ rfl, cell_of_blk h1 4 _ rfl, cell_of_blk h1 5 _ rfl, cell_of_blk h1 1 _ rfl, fun j => frozen_of_blk h1 j⟩
theorem RdAt.set2 {W : World} {r : Nat} {s : Rs} {s0 s1 s2 s3 : Value} (h : RdAt W r s s0 s1 s2 s3) (u : Value) : RdAt (W.setCell ⟨r, 2, none⟩ u) r s u s1 s2 s3 := by
  obtain ⟨v, h1, h2⟩ := h.at_
  exact ⟨⟨v, heap_setCell_same W r 2 _ _ u h1, h2.keep (fun k hk => heap_setCell_other W _ k _ (by simp; omega))⟩⟩
theorem RdAt.set3 {W : World} {r : Nat} {s : Rs} {s0 s1 s2 s3 : Value} (h : RdAt W r s s0 s1 s2 s3) (u : Value) : RdAt (W.setCell ⟨r, 3, none⟩ u) r s s0 u s2 s3 := by
  obtain ⟨v, h1, h2⟩ := h.at_
  exact ⟨⟨v, heap_setCell_same W r 3 _ _ u h1, h2.keep (fun k hk => heap_setCell_other W _ k _ (by simp; omega))⟩⟩
theorem RdAt.set4 {W : World} {r : Nat} {s : Rs} {s0 s1 s2 s3 : Value} (h : RdAt W r s s0 s1 s2 s3) (u : Value) : RdAt (W.setCell ⟨r, 4, none⟩ u) r s s0 s1 u s3 := by
  obtain ⟨v, h1, h2⟩ := h.at_
  exact ⟨⟨v, heap_setCell_same W r 4 _ _ u h1, h2.keep (fun k hk => heap_setCell_other W _ k _ (by simp; omega))⟩⟩

/-- The name, the type, the lifetime, the data that are read, and what is left. -/
def rdT (s : Rs) : Rs := tkS 8 (txtS s)
def rdL (s : Rs) : Rs := tkS 8 (rdT s)
def rdC (s : Rs) : Rs := tkS 1 (rdL s)
def rdN (s : Rs) : Nat := numV (tkV 1 (rdL s))
def rdX (s : Rs) : ByteArray := ⟨(txtV s).toArray⟩
def rdTyp (s : Rs) : Int := wrap64 (numV (tkV 8 (txtS s)))
def rdLife (s : Rs) : Int := wrap64 (numV (tkV 8 (rdT s)))
def rdD (s : Rs) : List Dt := datL (rdN s) (rdC s)
def rdE (s : Rs) : Rs := datE (rdN s) (rdC s)

/-- A call that puts data behind the data of the set that is read. -/
def RepTo (r n : Nat) (s : Rs) (s0 s1 s2 : Value) (l : List Dt) (w : World) (e : Ending) (w' : World) : Prop :=
  e = .returned (.tuple #[]) ∧ ∃ v', RdAt w' r (datE n s) s0 s1 s2 v' ∧ OwnD (r + 1) v' (l ++ datL n s) w' ∧ Below r w w'

set_option maxHeartbeats 2000000 in
set_option maxRecDepth 100000 in
theorem repeat_r (r n : Nat) (s : Rs) (s0 s1 s2 v3 : Value) (l : List Dt) (w : World) (hr : RdAt w r s s0 s1 s2 v3) (hl : s.1.length ≤ 1000000) (hd : OwnD (r + 1) v3 l w) (hn : n ≤ 255) (hll : l.length ≤ 100) :
    Calls Tryd.prog 45 #[.int .i64 n, .func (.func 47) #[.pointer (some ⟨r, 0, none⟩)] #[]] w (RepTo r n s s0 s1 s2 l w) := by
  have HR := Lib.hid hr
  have HD := Lib.hid hd
  clear hr hd
  go_enter Tryd.func45, Tryd.ntmps45
  go_wp2
  go_loopw [5] (fun s5 wr => ∃ (i : Nat) (vi : Value), i ≤ n ∧ s5 = .int .i64 i ∧ Hid (RdAt wr r (datE i s) s0 s1 s2 vi) ∧ Hid (OwnD (r + 1) vi (l ++ datL i s) wr) ∧ Hid (Below r w wr)) (fun s5 _ => n - (intOf s5).toNat)
  case atStart => exact ⟨0, v3, Nat.zero_le _, rfl, HR, Lib.hid (by simpa [datL] using HD.out), Lib.hid (Below.refl _ _)⟩
  case round =>
    obtain ⟨i, vi, hi, rfl, H1, H2, H3⟩ := hrel
    by_cases hlt : i < n
    · have T := Lib.hid (datum_r r (datE i s) s0 s1 s2 vi (l ++ datL i s) wr H1.out (Nat.le_trans (datE_len i s) hl) H2.out (by rw [List.length_append, datL_len]; omega))
      unfold DatTo at T
      rw [← datE_snoc, List.append_assoc, ← datL_snoc] at T
      go_wp2_with (go_at_call 47; refine (T.out).mono ?_; rintro e w2 ⟨rfl, v2, h2, h3, h4⟩; have A2 := Lib.hid h2; have B2 := Lib.hid h3; have C2 := Lib.hid (H3.out.trans h4); clear h2 h3 h4)
      go_roundw
      case rel => exact ⟨i + 1, v2, hlt, by go_num, A2, B2, C2⟩
      case measure =>
        simp [intOf]
        omega
    · obtain rfl : i = n := by omega
      go_wp2
      go_end0
      exact ⟨rfl, vi, H1.out, H2.out, H3.out⟩

theorem OwnD.sl {B : Nat} {v : Value} {l : List Dt} {w : World} (h : OwnD B v l w) : SlD v l w := by
  obtain ⟨h0, h1⟩ := h
  rcases h1 with ⟨rfl, h2⟩ | ⟨g, cap, cur, rfl, h2, h3, h4, h5, h6, h7⟩
  · exact .inl ⟨List.length_eq_zero_iff.1 h2, none, 0, rfl⟩
  · refine .inr ⟨g, 0, cap, rfl, (Array.getElem?_eq_some_iff.1 h3).1, fun m u hm => ?_⟩
    rw [Nat.zero_add]
    rw [← h7, List.getElem?_take] at hm
    split at hm
    · exact cell_of_blk h3 m u (by simpa using hm)
    · cases hm
theorem txtV_len (s : Rs) : (txtV s).length ≤ 255 := by
  unfold txtV
  have h1 : numV (tkV 1 s) ≤ 255 := by
    rcases tkV_len 1 s with h | h
    · rw [h]; decide
    · have := numV_lt 1 _ h
      omega
  rcases tkV_len (numV (tkV 1 s)) (tkS 1 s) with h | h
  · rw [h]; simp
  · rw [h]; exact h1
theorem rdX_size (s : Rs) : (rdX s).size ≤ 255 := by
  show (txtV s).toArray.size ≤ 255
  simpa using txtV_len s
theorem datL_size : ∀ (k : Nat) (s : Rs), ∀ d ∈ datL k s, d.1.size ≤ 255
  | 0, _, d, h => absurd h List.not_mem_nil
  | k + 1, s, d, h => by
    rcases List.mem_cons.1 h with rfl | h
    · show (txtV s).toArray.size ≤ 255
      simpa using txtV_len s
    · exact datL_size k (datS s) d h
/-- Bytes are those of a valid set. -/
def readOk (bs : Bs) : Bool := !(rdE (bs, false)).2 && (rdE (bs, false)).1.isEmpty && setB (rdX (bs, false)).toList (rdTyp (bs, false)) (rdLife (bs, false)) (rdD (bs, false))
/-- A call that returns the set that some bytes are, or none. -/
def ReadTo (ok : Bool) (x : ByteArray) (typ life : Int) (l : List Dt) (w : World) (e : Ending) (w' : World) : Prop :=
  (if ok = true then ∃ v, e = .returned (.tuple #[.agg #[.string x, .int .i64 typ, .int .i64 life, v], .int .i64 0]) ∧ SlD v l w' else e = .returned (.tuple #[.agg #[.string ⟨#[]⟩, .int .i64 0, .int .i64 0, .slice none 0 0], .int .i64 10])) ∧ Below w.heap.size w w'

theorem four_set {W : World} {q : Nat} {o0 o1 o2 o3 : Value} {t : TypeId} (a b c d : Value) (h : W.heap[q]? = some (Obj.cells #[o0, o1, o2, o3] t (0, 0))) :
    ((((W.setCell ⟨q, 0, none⟩ a).setCell ⟨q, 1, none⟩ b).setCell ⟨q, 2, none⟩ c).setCell ⟨q, 3, none⟩ d).heap[q]? = some (Obj.cells #[a, b, c, d] t (0, 0)) := by
  have h1 := heap_setCell_same W q 0 _ _ a h
  have h2 := heap_setCell_same _ q 1 _ _ b h1
  have h3 := heap_setCell_same _ q 2 _ _ c h2
  exact heap_setCell_same _ q 3 _ _ d h3
theorem OwnD.keep {B : Nat} {v : Value} {l : List Dt} {w w' : World} (h : OwnD B v l w) (hb : Below w.heap.size w w') : OwnD B v l w' := by
  obtain ⟨h0, h1⟩ := h
  refine ⟨h0, ?_⟩
  rcases h1 with h1 | ⟨g, cap, cur, h1, h2, h3, h4⟩
  · exact .inl h1
  · exact .inr ⟨g, cap, cur, h1, h2, (hb.block g (Array.getElem?_eq_some_iff.1 h3).1).trans h3, h4⟩
theorem OwnD.set {B : Nat} {v : Value} {l : List Dt} {w : World} (h : OwnD B v l w) {a : Addr} (ha : a.block < B) (u : Value) : OwnD B v l (w.setCell a u) := ownsRow_setCell_below h ha u
theorem cells6 {w w' : World} {r : Nat} {a b c d : Value} (hb : Below w.heap.size w w') (hr : r < w.heap.size) (h2 : w.cell? ⟨r, 2, none⟩ = some a) (h3 : w.cell? ⟨r, 3, none⟩ = some b) (h4 : w.cell? ⟨r, 4, none⟩ = some c) (h5 : w.cell? ⟨r, 5, none⟩ = some d) :
    w'.cell? ⟨r, 2, none⟩ = some a ∧ w'.cell? ⟨r, 3, none⟩ = some b ∧ w'.cell? ⟨r, 4, none⟩ = some c ∧ w'.cell? ⟨r, 5, none⟩ = some d ∧ True :=
  ⟨(hb.cell (p := ⟨r, 2, none⟩) hr).trans h2, (hb.cell (p := ⟨r, 3, none⟩) hr).trans h3, (hb.cell (p := ⟨r, 4, none⟩) hr).trans h4, (hb.cell (p := ⟨r, 5, none⟩) hr).trans h5, trivial⟩
set_option maxHeartbeats 2000000 in
set_option maxRecDepth 100000 in
theorem read_any (bs : Bs) (v : Value) (w : World) (hv : SlB w.heap.size v bs w) (hl : bs.length ≤ 1000000) (hrul : RulesAt w) :
    Calls Tryd.prog 18 #[v] w (ReadTo (readOk bs) (rdX (bs, false)) (rdTyp (bs, false)) (rdLife (bs, false)) (rdD (bs, false)) w) := by
  have hb0 : Below w.heap.size w ((w.alloc (.cells #[.string ⟨#[]⟩, .int .i64 0, .int .i64 0, .slice none 0 0] 24)).alloc (.cells #[v, .bool false, .string ⟨#[]⟩, .int .i64 0, .int .i64 0, .slice none 0 0] 73)) := ((Below.refl _ w).alloc (Nat.le_refl _) _).alloc (by simp) _
  have hA0 : RdAt ((w.alloc (.cells #[.string ⟨#[]⟩, .int .i64 0, .int .i64 0, .slice none 0 0] 24)).alloc (.cells #[v, .bool false, .string ⟨#[]⟩, .int .i64 0, .int .i64 0, .slice none 0 0] 73)) (w.heap.size + 1) (bs, false) (.string ⟨#[]⟩) (.int .i64 0) (.int .i64 0) (.slice none 0 0) := by
    refine ⟨⟨v, ?_, ?_⟩⟩
    · have := heap_alloc_new (w.alloc (.cells #[.string ⟨#[]⟩, .int .i64 0, .int .i64 0, .slice none 0 0] 24)) (.cells #[v, .bool false, .string ⟨#[]⟩, .int .i64 0, .int .i64 0, .slice none 0 0] 73)
      simpa using this
    · have h1 := hv.keep (W' := (w.alloc (.cells #[.string ⟨#[]⟩, .int .i64 0, .int .i64 0, .slice none 0 0] 24)).alloc (.cells #[v, .bool false, .string ⟨#[]⟩, .int .i64 0, .int .i64 0, .slice none 0 0] 73)) (fun k hk => hb0.block k hk)
      rcases h1 with h | ⟨g, off, c, q1, q2, q3, q4⟩
      · exact .inl h
      · exact .inr ⟨g, off, c, q1, q2, by omega, q4⟩
  obtain ⟨p, c, rfl⟩ := hv.form
  have TT := Lib.hid (text_r (w.heap.size + 1) (bs, false) (.string ⟨#[]⟩) (.int .i64 0) (.int .i64 0) (.slice none 0 0) _ hA0 hl)
  unfold TxtTo at TT
  have l1 : (txtS (bs, false)).1.length ≤ 1000000 := Nat.le_trans (txtS_len _) hl
  have l2 : (rdT (bs, false)).1.length ≤ 1000000 := Nat.le_trans (tkS_len _ _) l1
  have l3 : (rdL (bs, false)).1.length ≤ 1000000 := Nat.le_trans (tkS_len _ _) l2
  have l4 : (rdC (bs, false)).1.length ≤ 1000000 := Nat.le_trans (tkS_len _ _) l3
  have T1 := Lib.hid (fun W s0 s1 s2 s3 (h : RdAt W (w.heap.size + 1) (txtS (bs, false)) s0 s1 s2 s3) => number_r (w.heap.size + 1) (txtS (bs, false)) s0 s1 s2 s3 W h l1)
  have T2 := Lib.hid (fun W s0 s1 s2 s3 (h : RdAt W (w.heap.size + 1) (rdT (bs, false)) s0 s1 s2 s3) => number_r (w.heap.size + 1) (rdT (bs, false)) s0 s1 s2 s3 W h l2)
  have T3 := Lib.hid (fun W s0 s1 s2 s3 (h : RdAt W (w.heap.size + 1) (rdL (bs, false)) s0 s1 s2 s3) => count_any (w.heap.size + 1) (rdL (bs, false)) s0 s1 s2 s3 W h l3)
  have T4 := Lib.hid (fun W s0 s1 s2 (h : RdAt W (w.heap.size + 1) (rdC (bs, false)) s0 s1 s2 (.slice none 0 0)) => repeat_r (w.heap.size + 1) (rdN (bs, false)) (rdC (bs, false)) s0 s1 s2 (.slice none 0 0) [] W h l4 (ownD_nil _ _) (by
    unfold rdN
    rcases tkV_len 1 (rdL (bs, false)) with h | h
    · rw [h]; decide
    · have := numV_lt 1 _ h
      omega) (by simp))
  unfold NumTo at T1 T2 T3
  unfold RepTo at T4
  have e1 : Hid (tkS 8 (txtS (bs, false)) = rdT (bs, false)) := Lib.hid rfl
  have e2 : Hid (tkS 8 (rdT (bs, false)) = rdL (bs, false)) := Lib.hid rfl
  have e3 : Hid (tkS 1 (rdL (bs, false)) = rdC (bs, false)) := Lib.hid rfl
  have e4 : Hid (numV (tkV 1 (rdL (bs, false))) = rdN (bs, false)) := Lib.hid rfl
  have e5 : Hid ((⟨(txtV (bs, false)).toArray⟩ : ByteArray) = rdX (bs, false)) := Lib.hid rfl
  have e6 : Hid (wrap64 (numV (tkV 8 (txtS (bs, false)))) = rdTyp (bs, false)) := Lib.hid rfl
  have e7 : Hid (wrap64 (numV (tkV 8 (rdT (bs, false)))) = rdLife (bs, false)) := Lib.hid rfl
  have e8 : Hid (datE (rdN (bs, false)) (rdC (bs, false)) = rdE (bs, false)) := Lib.hid rfl
  have e9 : Hid (datL (rdN (bs, false)) (rdC (bs, false)) = rdD (bs, false)) := Lib.hid rfl
  rw [e1.out, e6.out] at T1
  rw [e2.out, e7.out] at T2
  rw [e3.out, e4.out] at T3
  rw [e5.out] at TT
  simp only [e8.out, e9.out, List.nil_append] at T4
  clear e1 e2 e3 e4 e5 e6 e7 e8 e9 l1 l2 l3 l4
  have HX := Lib.hid (rdX_size (bs, false))
  have HDz := Lib.hid (fun d (h : d ∈ rdD (bs, false)) => datL_size _ _ d h)
  unfold readOk
  generalize rdE (bs, false) = sE at *
  generalize rdD (bs, false) = lD at *
  generalize rdN (bs, false) = nD at *
  generalize rdX (bs, false) = xx at *
  generalize rdTyp (bs, false) = typ at *
  generalize rdLife (bs, false) = life at *
  generalize rdC (bs, false) = sC at *
  generalize rdL (bs, false) = sL at *
  generalize rdT (bs, false) = sT at *
  generalize txtS (bs, false) = sX at *
  have hq0 : ((w.alloc (.cells #[.string ⟨#[]⟩, .int .i64 0, .int .i64 0, .slice none 0 0] 24)).alloc (.cells #[.slice p bs.length c, .bool false, .string ⟨#[]⟩, .int .i64 0, .int .i64 0, .slice none 0 0] 73)).heap[w.heap.size]? = some (Obj.cells #[.string ⟨#[]⟩, .int .i64 0, .int .i64 0, .slice none 0 0] 24 (0, 0)) := by
    rw [heap_alloc_old _ _ (by simp)]; exact heap_alloc_new w _
  have HQ0 := Lib.hid hq0
  have HB0 := Lib.hid hb0
  have HR0 : Hid (∀ W, Below w.heap.size w W → RulesAt W) := Lib.hid (fun W hb => hrul.keep hb)
  have hz0 : w.heap.size + 1 < ((w.alloc (.cells #[.string ⟨#[]⟩, .int .i64 0, .int .i64 0, .slice none 0 0] 24)).alloc (.cells #[.slice p bs.length c, .bool false, .string ⟨#[]⟩, .int .i64 0, .int .i64 0, .slice none 0 0] 73)).heap.size := by simp
  have HZ0 := Lib.hid hz0
  clear hb0 hA0 hv hq0 hrul hz0
  obtain ⟨rest, bad⟩ := sE
  simp only at T4 ⊢
  obtain ⟨sb, hset⟩ : ∃ r, setB xx.toList typ life lD = r := ⟨_, rfl⟩
  rw [hset]
  obtain ⟨emp, hemp⟩ : ∃ r, rest.isEmpty = r := ⟨_, rfl⟩
  rw [hemp]
  cases bad
  case true =>
    rw [show (!true && emp && sb) = false by cases emp <;> rfl]
    go_enter Tryd.func18, Tryd.ntmps18
    go_wp2_with (first | (go_at_call 43; refine (TT.out).mono ?_; rintro e w1 ⟨rfl, h2, h3⟩; have zc := h2.cell.1; have zf2 := h2.cell.2.2.2.2.2 2; have A1 := Lib.hid (h2.set2 (.string xx)); have B1 := Lib.hid ((below_of_grown h3 HZ0.out).setCell (p := ⟨w.heap.size + 1, 2, none⟩) (Nat.le_refl _) (.string xx)); clear h2 h3) | (go_at_call 44; (with_reducible refine (T1.out _ _ _ _ _ A1.out).mono ?_); rintro e w2 ⟨rfl, h2, h3⟩; clear zc zf2; have zc := h2.cell.2.1; have zf2 := h2.cell.2.2.2.2.2 3; have A2 := Lib.hid (h2.set3 (.int .i64 typ)); have B2 := Lib.hid (((B1.out).trans (below_of_grown h3 A1.out.lt)).setCell (p := ⟨w.heap.size + 1, 3, none⟩) (Nat.le_refl _) (.int .i64 typ)); clear h2 h3) | (go_at_call 44; (with_reducible refine (T2.out _ _ _ _ _ A2.out).mono ?_); rintro e w3 ⟨rfl, h2, h3⟩; clear zc zf2; have zc := h2.cell.2.2.1; have zf2 := h2.cell.2.2.2.2.2 4; have A3 := Lib.hid (h2.set4 (.int .i64 life)); have B3 := Lib.hid (((B2.out).trans (below_of_grown h3 A2.out.lt)).setCell (p := ⟨w.heap.size + 1, 4, none⟩) (Nat.le_refl _) (.int .i64 life)); clear h2 h3) | (go_at_call 46; (with_reducible refine (T3.out _ _ _ _ _ A3.out).mono ?_); rintro e w4 ⟨rfl, h2, h3⟩; clear zc zf2; have A4 := Lib.hid h2; have B4 := Lib.hid ((B3.out).trans (below_of_grown h3 A3.out.lt)); clear h2 h3) | (go_at_call 45; (with_reducible refine (T4.out _ _ _ _ A4.out).mono ?_); fail))
    (with_reducible refine (T4.out _ _ _ _ A4.out).mono ?_)
    rintro e w5 ⟨rfl, v5, h2, h3, h4⟩
    have B5 := B4.out.trans h4
    have S5 := h3.sl
    have hQ5 := (B5.block w.heap.size (by omega)).trans HQ0.out
    have hBw : Below w.heap.size w w5 := HB0.out.trans (B5.mono (by omega))
    have hR5 := HR0.out w5 hBw
    obtain ⟨c2, c3, c4, c5, c1, cf⟩ := h2.cell
    obtain ⟨vl, hblk, hsl⟩ := h2.at_
    obtain ⟨pl, cl, rfl⟩ := hsl.form
    have c0 := cell_of_blk hblk 0 (.slice pl rest.length cl) rfl
    have VV0 := (valid_set xx typ life v5 lD w5 (by have := HX.out; unfold maxLen; omega) (fun d hd => by have := HDz.out d hd; unfold maxLen; omega) S5 hR5)
    rw [hset] at VV0
    have VV := Lib.hid VV0
    clear VV0
    have q0 := cell_of_blk hQ5 0 (.string ⟨#[]⟩) rfl
    have q1 := cell_of_blk hQ5 1 (.int .i64 0) rfl
    have q2 := cell_of_blk hQ5 2 (.int .i64 0) rfl
    have q3 := cell_of_blk hQ5 3 (.slice none 0 0) rfl
    have qf0 := frozen_of_blk hQ5 0
    have qf1 := frozen_of_blk hQ5 1
    have qf2 := frozen_of_blk hQ5 2
    have qf3 := frozen_of_blk hQ5 3
    have HQ5 := Lib.hid hQ5
    have HS5 := Lib.hid S5
    have HBw := Lib.hid hBw
    have hrs : w.heap.size + 1 < w5.heap.size := h2.lt
    have hqs := (Array.getElem?_eq_some_iff.1 hQ5).1
    have HOw := Lib.hid h3
    clear hQ5 S5 hBw B5 h2 h3 h4 hblk hsl cf hR5
    clear TT T1 T2 T3 T4 A1 A2 A3 A4 B1 B2 B3 B4
    simp only at c0 c1
    go_wp2
    have hx := four_set (.string ⟨#[]⟩) (.int .i64 0) (.int .i64 0) (.slice none 0 0) HQ5.out
    have hbx := (((HBw.out.setCell (p := ⟨w.heap.size, 0, none⟩) (Nat.le_refl _) (.string ⟨#[]⟩)).setCell (p := ⟨w.heap.size, 1, none⟩) (Nat.le_refl _) (.int .i64 0)).setCell (p := ⟨w.heap.size, 2, none⟩) (Nat.le_refl _) (.int .i64 0)).setCell (p := ⟨w.heap.size, 3, none⟩) (Nat.le_refl _) (.slice none 0 0)
    generalize (((World.setCell _ _ _).setCell _ _).setCell _ _).setCell _ _ = W' at *
    have x0 := cell_of_blk hx 0 (.string ⟨#[]⟩) rfl
    have x1 := cell_of_blk hx 1 (.int .i64 0) rfl
    have x2 := cell_of_blk hx 2 (.int .i64 0) rfl
    have x3 := cell_of_blk hx 3 (.slice none 0 0) rfl
    refine bodyPost_ret (v := .tuple #[.agg #[.string ⟨#[]⟩, .int .i64 0, .int .i64 0, .slice none 0 0], .int .i64 10]) (by simp [results, Tryd.f18, go_sem, x0, x1, x2, x3]) rfl ?_
    exact ⟨by rw [if_neg (by simp)], hbx⟩
  case false =>
    cases emp
    · rw [show (!false && false && sb) = false from rfl]
      go_enter Tryd.func18, Tryd.ntmps18
      go_wp2_with (first | (go_at_call 43; refine (TT.out).mono ?_; rintro e w1 ⟨rfl, h2, h3⟩; have zc := h2.cell.1; have zf2 := h2.cell.2.2.2.2.2 2; have A1 := Lib.hid (h2.set2 (.string xx)); have B1 := Lib.hid ((below_of_grown h3 HZ0.out).setCell (p := ⟨w.heap.size + 1, 2, none⟩) (Nat.le_refl _) (.string xx)); clear h2 h3) | (go_at_call 44; (with_reducible refine (T1.out _ _ _ _ _ A1.out).mono ?_); rintro e w2 ⟨rfl, h2, h3⟩; clear zc zf2; have zc := h2.cell.2.1; have zf2 := h2.cell.2.2.2.2.2 3; have A2 := Lib.hid (h2.set3 (.int .i64 typ)); have B2 := Lib.hid (((B1.out).trans (below_of_grown h3 A1.out.lt)).setCell (p := ⟨w.heap.size + 1, 3, none⟩) (Nat.le_refl _) (.int .i64 typ)); clear h2 h3) | (go_at_call 44; (with_reducible refine (T2.out _ _ _ _ _ A2.out).mono ?_); rintro e w3 ⟨rfl, h2, h3⟩; clear zc zf2; have zc := h2.cell.2.2.1; have zf2 := h2.cell.2.2.2.2.2 4; have A3 := Lib.hid (h2.set4 (.int .i64 life)); have B3 := Lib.hid (((B2.out).trans (below_of_grown h3 A2.out.lt)).setCell (p := ⟨w.heap.size + 1, 4, none⟩) (Nat.le_refl _) (.int .i64 life)); clear h2 h3) | (go_at_call 46; (with_reducible refine (T3.out _ _ _ _ _ A3.out).mono ?_); rintro e w4 ⟨rfl, h2, h3⟩; clear zc zf2; have A4 := Lib.hid h2; have B4 := Lib.hid ((B3.out).trans (below_of_grown h3 A3.out.lt)); clear h2 h3) | (go_at_call 45; (with_reducible refine (T4.out _ _ _ _ A4.out).mono ?_); fail))
      (with_reducible refine (T4.out _ _ _ _ A4.out).mono ?_)
      rintro e w5 ⟨rfl, v5, h2, h3, h4⟩
      have B5 := B4.out.trans h4
      have S5 := h3.sl
      have hQ5 := (B5.block w.heap.size (by omega)).trans HQ0.out
      have hBw : Below w.heap.size w w5 := HB0.out.trans (B5.mono (by omega))
      have hR5 := HR0.out w5 hBw
      obtain ⟨c2, c3, c4, c5, c1, cf⟩ := h2.cell
      obtain ⟨vl, hblk, hsl⟩ := h2.at_
      obtain ⟨pl, cl, rfl⟩ := hsl.form
      have c0 := cell_of_blk hblk 0 (.slice pl rest.length cl) rfl
      have VV0 := (valid_set xx typ life v5 lD w5 (by have := HX.out; unfold maxLen; omega) (fun d hd => by have := HDz.out d hd; unfold maxLen; omega) S5 hR5)
      rw [hset] at VV0
      have VV := Lib.hid VV0
      clear VV0
      have q0 := cell_of_blk hQ5 0 (.string ⟨#[]⟩) rfl
      have q1 := cell_of_blk hQ5 1 (.int .i64 0) rfl
      have q2 := cell_of_blk hQ5 2 (.int .i64 0) rfl
      have q3 := cell_of_blk hQ5 3 (.slice none 0 0) rfl
      have qf0 := frozen_of_blk hQ5 0
      have qf1 := frozen_of_blk hQ5 1
      have qf2 := frozen_of_blk hQ5 2
      have qf3 := frozen_of_blk hQ5 3
      have HQ5 := Lib.hid hQ5
      have HS5 := Lib.hid S5
      have HBw := Lib.hid hBw
      have hrs : w.heap.size + 1 < w5.heap.size := h2.lt
      have hqs := (Array.getElem?_eq_some_iff.1 hQ5).1
      have HOw := Lib.hid h3
      clear hQ5 S5 hBw B5 h2 h3 h4 hblk hsl cf hR5
      clear TT T1 T2 T3 T4 A1 A2 A3 A4 B1 B2 B3 B4
      simp only at c0 c1
      have hz : decide ((0 : Int) < (rest.length : Int)) = true := by
        cases rest with
        | nil => cases hemp
        | cons _ _ => simp
      have hz2 : (0 : Nat) < rest.length := by
        cases rest with
        | nil => cases hemp
        | cons _ _ => simp
      clear hemp
      go_wp2
      have hx := four_set (.string ⟨#[]⟩) (.int .i64 0) (.int .i64 0) (.slice none 0 0) HQ5.out
      have hbx := (((HBw.out.setCell (p := ⟨w.heap.size, 0, none⟩) (Nat.le_refl _) (.string ⟨#[]⟩)).setCell (p := ⟨w.heap.size, 1, none⟩) (Nat.le_refl _) (.int .i64 0)).setCell (p := ⟨w.heap.size, 2, none⟩) (Nat.le_refl _) (.int .i64 0)).setCell (p := ⟨w.heap.size, 3, none⟩) (Nat.le_refl _) (.slice none 0 0)
      generalize (((World.setCell _ _ _).setCell _ _).setCell _ _).setCell _ _ = W' at *
      have x0 := cell_of_blk hx 0 (.string ⟨#[]⟩) rfl
      have x1 := cell_of_blk hx 1 (.int .i64 0) rfl
      have x2 := cell_of_blk hx 2 (.int .i64 0) rfl
      have x3 := cell_of_blk hx 3 (.slice none 0 0) rfl
      refine bodyPost_ret (v := .tuple #[.agg #[.string ⟨#[]⟩, .int .i64 0, .int .i64 0, .slice none 0 0], .int .i64 10]) (by simp [results, Tryd.f18, go_sem, x0, x1, x2, x3]) rfl ?_
      exact ⟨by rw [if_neg (by simp)], hbx⟩
    · have hnil : rest = [] := by simpa using hemp
      subst hnil
      clear hemp
      cases sb
      · rw [show (!false && true && false) = false from rfl]
        go_enter Tryd.func18, Tryd.ntmps18
        go_wp2_with (first | (go_at_call 43; refine (TT.out).mono ?_; rintro e w1 ⟨rfl, h2, h3⟩; have zc := h2.cell.1; have zf2 := h2.cell.2.2.2.2.2 2; have A1 := Lib.hid (h2.set2 (.string xx)); have B1 := Lib.hid ((below_of_grown h3 HZ0.out).setCell (p := ⟨w.heap.size + 1, 2, none⟩) (Nat.le_refl _) (.string xx)); clear h2 h3) | (go_at_call 44; (with_reducible refine (T1.out _ _ _ _ _ A1.out).mono ?_); rintro e w2 ⟨rfl, h2, h3⟩; clear zc zf2; have zc := h2.cell.2.1; have zf2 := h2.cell.2.2.2.2.2 3; have A2 := Lib.hid (h2.set3 (.int .i64 typ)); have B2 := Lib.hid (((B1.out).trans (below_of_grown h3 A1.out.lt)).setCell (p := ⟨w.heap.size + 1, 3, none⟩) (Nat.le_refl _) (.int .i64 typ)); clear h2 h3) | (go_at_call 44; (with_reducible refine (T2.out _ _ _ _ _ A2.out).mono ?_); rintro e w3 ⟨rfl, h2, h3⟩; clear zc zf2; have zc := h2.cell.2.2.1; have zf2 := h2.cell.2.2.2.2.2 4; have A3 := Lib.hid (h2.set4 (.int .i64 life)); have B3 := Lib.hid (((B2.out).trans (below_of_grown h3 A2.out.lt)).setCell (p := ⟨w.heap.size + 1, 4, none⟩) (Nat.le_refl _) (.int .i64 life)); clear h2 h3) | (go_at_call 46; (with_reducible refine (T3.out _ _ _ _ _ A3.out).mono ?_); rintro e w4 ⟨rfl, h2, h3⟩; clear zc zf2; have A4 := Lib.hid h2; have B4 := Lib.hid ((B3.out).trans (below_of_grown h3 A3.out.lt)); clear h2 h3) | (go_at_call 45; (with_reducible refine (T4.out _ _ _ _ A4.out).mono ?_); fail))
        (with_reducible refine (T4.out _ _ _ _ A4.out).mono ?_)
        rintro e w5 ⟨rfl, v5, h2, h3, h4⟩
        have B5 := B4.out.trans h4
        have S5 := h3.sl
        have hQ5 := (B5.block w.heap.size (by omega)).trans HQ0.out
        have hBw : Below w.heap.size w w5 := HB0.out.trans (B5.mono (by omega))
        have hR5 := HR0.out w5 hBw
        obtain ⟨c2, c3, c4, c5, c1, cf⟩ := h2.cell
        obtain ⟨vl, hblk, hsl⟩ := h2.at_
        obtain ⟨pl, cl, rfl⟩ := hsl.form
        have c0 := cell_of_blk hblk 0 (.slice pl ([] : Bs).length cl) rfl
        have VV0 := (valid_set xx typ life v5 lD w5 (by have := HX.out; unfold maxLen; omega) (fun d hd => by have := HDz.out d hd; unfold maxLen; omega) S5 hR5)
        rw [hset] at VV0
        have VV := Lib.hid VV0
        clear VV0
        have q0 := cell_of_blk hQ5 0 (.string ⟨#[]⟩) rfl
        have q1 := cell_of_blk hQ5 1 (.int .i64 0) rfl
        have q2 := cell_of_blk hQ5 2 (.int .i64 0) rfl
        have q3 := cell_of_blk hQ5 3 (.slice none 0 0) rfl
        have qf0 := frozen_of_blk hQ5 0
        have qf1 := frozen_of_blk hQ5 1
        have qf2 := frozen_of_blk hQ5 2
        have qf3 := frozen_of_blk hQ5 3
        have HQ5 := Lib.hid hQ5
        have HS5 := Lib.hid S5
        have HBw := Lib.hid hBw
        have hrs : w.heap.size + 1 < w5.heap.size := h2.lt
        have hqs := (Array.getElem?_eq_some_iff.1 hQ5).1
        have HOw := Lib.hid h3
        clear hQ5 S5 hBw B5 h2 h3 h4 hblk hsl cf hR5
        clear TT T1 T2 T3 T4 A1 A2 A3 A4 B1 B2 B3 B4
        simp only at c0 c1
        rw [List.length_nil] at c0
        go_wp2_with (go_at_call 13; refine (VV.out).mono ?_; rintro e w6 ⟨rfl, hb6⟩; have HQ6 := Lib.hid ((hb6.block w.heap.size hqs).trans HQ5.out); have HB6 := Lib.hid (HBw.out.trans (hb6.mono HBw.out.size)); have HO6 := Lib.hid (HOw.out.keep hb6); obtain ⟨k2, k3, k4, k5, kf⟩ := cells6 hb6 hrs c2 c3 c4 c5; clear hb6 q0 q1 q2 q3 qf0 qf1 qf2 qf3; have q0 := cell_of_blk HQ6.out 0 (.string ⟨#[]⟩) rfl; have q1 := cell_of_blk HQ6.out 1 (.int .i64 0) rfl; have q2 := cell_of_blk HQ6.out 2 (.int .i64 0) rfl; have q3 := cell_of_blk HQ6.out 3 (.slice none 0 0) rfl; have qf0 := frozen_of_blk HQ6.out 0; have qf1 := frozen_of_blk HQ6.out 1; have qf2 := frozen_of_blk HQ6.out 2; have qf3 := frozen_of_blk HQ6.out 3)
        have hx := four_set (.string ⟨#[]⟩) (.int .i64 0) (.int .i64 0) (.slice none 0 0) HQ6.out
        have hbx := (((HB6.out.setCell (p := ⟨w.heap.size, 0, none⟩) (Nat.le_refl _) (.string ⟨#[]⟩)).setCell (p := ⟨w.heap.size, 1, none⟩) (Nat.le_refl _) (.int .i64 0)).setCell (p := ⟨w.heap.size, 2, none⟩) (Nat.le_refl _) (.int .i64 0)).setCell (p := ⟨w.heap.size, 3, none⟩) (Nat.le_refl _) (.slice none 0 0)
        generalize (((World.setCell _ _ _).setCell _ _).setCell _ _).setCell _ _ = W' at *
        have x0 := cell_of_blk hx 0 (.string ⟨#[]⟩) rfl
        have x1 := cell_of_blk hx 1 (.int .i64 0) rfl
        have x2 := cell_of_blk hx 2 (.int .i64 0) rfl
        have x3 := cell_of_blk hx 3 (.slice none 0 0) rfl
        refine bodyPost_ret (v := .tuple #[.agg #[.string ⟨#[]⟩, .int .i64 0, .int .i64 0, .slice none 0 0], .int .i64 10]) (by simp [results, Tryd.f18, go_sem, x0, x1, x2, x3]) rfl ?_
        exact ⟨by rw [if_neg (by simp)], hbx⟩
      · rw [show (!false && true && true) = true from rfl]
        go_enter Tryd.func18, Tryd.ntmps18
        go_wp2_with (first | (go_at_call 43; refine (TT.out).mono ?_; rintro e w1 ⟨rfl, h2, h3⟩; have zc := h2.cell.1; have zf2 := h2.cell.2.2.2.2.2 2; have A1 := Lib.hid (h2.set2 (.string xx)); have B1 := Lib.hid ((below_of_grown h3 HZ0.out).setCell (p := ⟨w.heap.size + 1, 2, none⟩) (Nat.le_refl _) (.string xx)); clear h2 h3) | (go_at_call 44; (with_reducible refine (T1.out _ _ _ _ _ A1.out).mono ?_); rintro e w2 ⟨rfl, h2, h3⟩; clear zc zf2; have zc := h2.cell.2.1; have zf2 := h2.cell.2.2.2.2.2 3; have A2 := Lib.hid (h2.set3 (.int .i64 typ)); have B2 := Lib.hid (((B1.out).trans (below_of_grown h3 A1.out.lt)).setCell (p := ⟨w.heap.size + 1, 3, none⟩) (Nat.le_refl _) (.int .i64 typ)); clear h2 h3) | (go_at_call 44; (with_reducible refine (T2.out _ _ _ _ _ A2.out).mono ?_); rintro e w3 ⟨rfl, h2, h3⟩; clear zc zf2; have zc := h2.cell.2.2.1; have zf2 := h2.cell.2.2.2.2.2 4; have A3 := Lib.hid (h2.set4 (.int .i64 life)); have B3 := Lib.hid (((B2.out).trans (below_of_grown h3 A2.out.lt)).setCell (p := ⟨w.heap.size + 1, 4, none⟩) (Nat.le_refl _) (.int .i64 life)); clear h2 h3) | (go_at_call 46; (with_reducible refine (T3.out _ _ _ _ _ A3.out).mono ?_); rintro e w4 ⟨rfl, h2, h3⟩; clear zc zf2; have A4 := Lib.hid h2; have B4 := Lib.hid ((B3.out).trans (below_of_grown h3 A3.out.lt)); clear h2 h3) | (go_at_call 45; (with_reducible refine (T4.out _ _ _ _ A4.out).mono ?_); fail))
        (with_reducible refine (T4.out _ _ _ _ A4.out).mono ?_)
        rintro e w5 ⟨rfl, v5, h2, h3, h4⟩
        have B5 := B4.out.trans h4
        have S5 := h3.sl
        obtain ⟨pv, cv, rfl⟩ := S5.form
        have hQ5 := (B5.block w.heap.size (by omega)).trans HQ0.out
        have hBw : Below w.heap.size w w5 := HB0.out.trans (B5.mono (by omega))
        have hR5 := HR0.out w5 hBw
        obtain ⟨c2, c3, c4, c5, c1, cf⟩ := h2.cell
        obtain ⟨vl, hblk, hsl⟩ := h2.at_
        obtain ⟨pl, cl, rfl⟩ := hsl.form
        have c0 := cell_of_blk hblk 0 (.slice pl ([] : Bs).length cl) rfl
        have VV0 := (valid_set xx typ life (.slice pv lD.length cv) lD w5 (by have := HX.out; unfold maxLen; omega) (fun d hd => by have := HDz.out d hd; unfold maxLen; omega) S5 hR5)
        rw [hset] at VV0
        have VV := Lib.hid VV0
        clear VV0
        have q0 := cell_of_blk hQ5 0 (.string ⟨#[]⟩) rfl
        have q1 := cell_of_blk hQ5 1 (.int .i64 0) rfl
        have q2 := cell_of_blk hQ5 2 (.int .i64 0) rfl
        have q3 := cell_of_blk hQ5 3 (.slice none 0 0) rfl
        have qf0 := frozen_of_blk hQ5 0
        have qf1 := frozen_of_blk hQ5 1
        have qf2 := frozen_of_blk hQ5 2
        have qf3 := frozen_of_blk hQ5 3
        have HQ5 := Lib.hid hQ5
        have HS5 := Lib.hid S5
        have HBw := Lib.hid hBw
        have hrs : w.heap.size + 1 < w5.heap.size := h2.lt
        have hqs := (Array.getElem?_eq_some_iff.1 hQ5).1
        have HOw := Lib.hid h3
        clear hQ5 S5 hBw B5 h2 h3 h4 hblk hsl cf hR5
        clear TT T1 T2 T3 T4 A1 A2 A3 A4 B1 B2 B3 B4
        simp only at c0 c1
        rw [List.length_nil] at c0
        go_wp2_with (go_at_call 13; refine (VV.out).mono ?_; rintro e w6 ⟨rfl, hb6⟩; have HQ6 := Lib.hid ((hb6.block w.heap.size hqs).trans HQ5.out); have HB6 := Lib.hid (HBw.out.trans (hb6.mono HBw.out.size)); have HO6 := Lib.hid (HOw.out.keep hb6); obtain ⟨k2, k3, k4, k5, kf⟩ := cells6 hb6 hrs c2 c3 c4 c5; clear hb6 q0 q1 q2 q3 qf0 qf1 qf2 qf3; have q0 := cell_of_blk HQ6.out 0 (.string ⟨#[]⟩) rfl; have q1 := cell_of_blk HQ6.out 1 (.int .i64 0) rfl; have q2 := cell_of_blk HQ6.out 2 (.int .i64 0) rfl; have q3 := cell_of_blk HQ6.out 3 (.slice none 0 0) rfl; have qf0 := frozen_of_blk HQ6.out 0; have qf1 := frozen_of_blk HQ6.out 1; have qf2 := frozen_of_blk HQ6.out 2; have qf3 := frozen_of_blk HQ6.out 3)
        have hx := four_set (.string xx) (.int .i64 typ) (.int .i64 life) (.slice pv lD.length cv) HQ6.out
        have hbx := (((HB6.out.setCell (p := ⟨w.heap.size, 0, none⟩) (Nat.le_refl _) (.string xx)).setCell (p := ⟨w.heap.size, 1, none⟩) (Nat.le_refl _) (.int .i64 typ)).setCell (p := ⟨w.heap.size, 2, none⟩) (Nat.le_refl _) (.int .i64 life)).setCell (p := ⟨w.heap.size, 3, none⟩) (Nat.le_refl _) (.slice pv lD.length cv)
        have hox := (((HO6.out.set (a := ⟨w.heap.size, 0, none⟩) (by simp only; omega) (.string xx)).set (a := ⟨w.heap.size, 1, none⟩) (by simp only; omega) (.int .i64 typ)).set (a := ⟨w.heap.size, 2, none⟩) (by simp only; omega) (.int .i64 life)).set (a := ⟨w.heap.size, 3, none⟩) (by simp only; omega) (.slice pv lD.length cv)
        generalize (((World.setCell _ _ _).setCell _ _).setCell _ _).setCell _ _ = W' at *
        have x0 := cell_of_blk hx 0 (.string xx) rfl
        have x1 := cell_of_blk hx 1 (.int .i64 typ) rfl
        have x2 := cell_of_blk hx 2 (.int .i64 life) rfl
        have x3 := cell_of_blk hx 3 (.slice pv lD.length cv) rfl
        refine bodyPost_ret (v := .tuple #[.agg #[.string xx, .int .i64 typ, .int .i64 life, (.slice pv lD.length cv)], .int .i64 0]) (by simp [results, Tryd.f18, go_sem, x0, x1, x2, x3]) rfl ?_
        exact ⟨by rw [if_pos rfl]; exact ⟨(.slice pv lD.length cv), rfl, hox.sl⟩, hbx⟩
end Go.Proofs.YtmnbcjchfbfngaaDoor
