/- Rows of stops that a call owns; the way from a zone up to the root, plain; no condition beyond those that each theorem names. -/
import Derived.Test.YtkhckgknldiheaaDoorT8
namespace Go.Proofs.YtkhckgknldiheaaDoor
set_option linter.unusedSimpArgs false
set_option linter.unusedVariables false
open Go.RowKit
open NmP SpP

/-- A stop: a zone, and its known anchor set. -/
abbrev Stp := ByteArray × Sd
def dotB : ByteArray := ⟨#[46]⟩
def zSd : Sd := ⟨⟨#[]⟩, 0, 0, none, 0, 0, none, 0, 0, [], []⟩
theorem zSd_in (w : World) : zSd.In w := ⟨⟨Nat.zero_le _, fun d h => absurd h List.not_mem_nil, .inl ⟨rfl, none, 0, rfl⟩⟩, Nat.zero_le _, .inl ⟨rfl, none, 0, rfl⟩, fun d h => absurd h List.not_mem_nil, Nat.zero_le _⟩
def valsT (s : Stp) : List Value := .string s.1 :: valsK s.2
def rowT (l : List Stp) : List Value := l.flatMap valsT
def RTp (b off : Nat) (l : List Stp) (W : World) : Prop := ∀ (m : Nat) (u : Value), (rowT l)[m]? = some u → W.cell? ⟨b, off + m, none⟩ = some u
theorem rowT_cons (t : Stp) (l : List Stp) : rowT (t :: l) = valsT t ++ rowT l := rfl
theorem rowT_append (a b : List Stp) : rowT (a ++ b) = rowT a ++ rowT b := by simp [rowT]
theorem rowT_len (l : List Stp) : (rowT l).length = 6 * l.length := by
  induction l with
  | nil => rfl
  | cons s r ih => rw [rowT_cons, List.length_append, ih]; simp [valsT, valsK]; omega
theorem rowT_get : ∀ (l : List Stp) (i f : Nat) (t : Stp), l[i]? = some t → f < 6 → (rowT l)[i * 6 + f]? = (valsT t)[f]?
  | [], _, _, _, h, _ => by simp at h
  | a :: r, 0, f, t, h, hf => by
    simp at h; subst h
    rw [rowT_cons, List.getElem?_append_left (by simp [valsT, valsK]; omega), Nat.zero_mul, Nat.zero_add]
  | a :: r, i + 1, f, t, h, hf => by
    rw [rowT_cons, List.getElem?_append_right (by simp [valsT, valsK]; omega), show (i + 1) * 6 + f - (valsT a).length = i * 6 + f by simp [valsT, valsK]; omega]
    exact rowT_get r i f t (by simpa using h) hf
structure TAt (W : World) (b off : Nat) (s : Stp) : Prop where
  z : W.cell? ⟨b, off, none⟩ = some (.string s.1)
  c0 : W.cell? ⟨b, off + 1, none⟩ = some (.string s.2.x)
  c1 : W.cell? ⟨b, off + 2, none⟩ = some (.int .i64 s.2.t)
  c2 : W.cell? ⟨b, off + 3, none⟩ = some (.int .i64 s.2.f)
  c3 : W.cell? ⟨b, off + 4, none⟩ = some (.slice s.2.p s.2.n s.2.c)
  c4 : W.cell? ⟨b, off + 5, none⟩ = some (.slice s.2.q s.2.m s.2.d)
theorem RTp.at_ {b off : Nat} {l : List Stp} {W : World} (h : RTp b off l W) {i : Nat} {t : Stp} (hi : l[i]? = some t) : TAt W b (off + i * 6) t := by
  have k : ∀ (f : Nat) (u : Value), f < 6 → (valsT t)[f]? = some u → W.cell? ⟨b, off + i * 6 + f, none⟩ = some u := fun f u hf hu => by
    have := h (i * 6 + f) u (by rw [rowT_get l i f t hi hf]; exact hu)
    rw [← Nat.add_assoc] at this; exact this
  exact ⟨k 0 _ (by omega) rfl, k 1 _ (by omega) rfl, k 2 _ (by omega) rfl, k 3 _ (by omega) rfl, k 4 _ (by omega) rfl, k 5 _ (by omega) rfl⟩
theorem RTp.keep {b off : Nat} {l : List Stp} {W W' : World} (h : RTp b off l W) (hb : b < W.heap.size) (hB : Below W.heap.size W W') : RTp b off l W' := fun m u hm =>
  (hB.cell (p := ⟨b, off + m, none⟩) hb).trans (h m u hm)
/-- A slice that holds stops. -/
def SlT (v : Value) (l : List Stp) (W : World) : Prop := ((l = [] ∧ ∃ p c, v = .slice p 0 c) ∨ ∃ b off c, v = .slice (some ⟨b, off, none⟩) l.length c ∧ b < W.heap.size ∧ RTp b off l W) ∧ ∀ s ∈ l, s.2.In W
theorem SlT.keep {v : Value} {l : List Stp} {W W' : World} (h : SlT v l W) (hb : Below W.heap.size W W') : SlT v l W' := by
  refine ⟨?_, fun s hs => (h.2 s hs).keep hb⟩
  rcases h.1 with h | ⟨b, off, c, h1, h2, h3⟩
  · exact .inl h
  · exact .inr ⟨b, off, c, h1, Nat.lt_of_lt_of_le h2 hb.size, h3.keep h2 hb⟩
theorem SlT.form {v : Value} {l : List Stp} {W : World} (h : SlT v l W) : ∃ p c, v = .slice p l.length c := by
  rcases h.1 with ⟨h, p, c, h2⟩ | ⟨b, off, c, h1, _⟩
  · exact ⟨p, c, by rw [h2, h]; rfl⟩
  · exact ⟨_, c, h1⟩
theorem SlT.at_ {p : Option Addr} {n c : Nat} {l : List Stp} {W : World} (h : SlT (.slice p n c) l W) (h1 : 0 < l.length) : ∃ b off, p = some ⟨b, off, none⟩ ∧ b < W.heap.size ∧ RTp b off l W := by
  rcases h.1 with ⟨h, _⟩ | ⟨b, off, c, h2, h3, h4⟩
  · rw [h] at h1; cases h1
  · cases h2; exact ⟨b, off, rfl, h3, h4⟩
/-- Stops that the call owns. -/
def OwnT (B : Nat) (v : Value) (l : List Stp) (w : World) : Prop := w.ownsRow B 110 6 v l.length (rowT l)
def zStp : Value := .agg #[.string ⟨#[]⟩, .string ⟨#[]⟩, .int .i64 0, .int .i64 0, .slice none 0 0, .slice none 0 0]
theorem infoT : (Tryd.prog.info? 110).map (fun i => (i.zero, i.size, i.bytes)) = some (some zStp, 6, 96) := by kernel_rfl
theorem ownT_nil (B : Nat) (w : World) : OwnT B (.slice none 0 0) [] w := ⟨rfl, .inl ⟨rfl, rfl⟩⟩
theorem OwnT.mono {B B' : Nat} {v : Value} {l : List Stp} {w : World} (h : OwnT B v l w) (hB : B' ≤ B) : OwnT B' v l w := by
  obtain ⟨h0, h1⟩ := h
  refine ⟨h0, ?_⟩
  rcases h1 with h1 | ⟨g, cap, cur, h2, h3, h4⟩
  · exact .inl h1
  · exact .inr ⟨g, cap, cur, h2, Nat.le_trans hB h3, h4⟩
theorem OwnT.keep {B : Nat} {v : Value} {l : List Stp} {w w' : World} (h : OwnT B v l w) (hb : Below w.heap.size w w') : OwnT B v l w' := by
  obtain ⟨h0, h1⟩ := h
  refine ⟨h0, ?_⟩
  rcases h1 with h1 | ⟨g, cap, cur, h1, h2, h3, h4⟩
  · exact .inl h1
  · exact .inr ⟨g, cap, cur, h1, h2, (hb.block g (Array.getElem?_eq_some_iff.1 h3).1).trans h3, h4⟩
theorem OwnT.lt {B : Nat} {v : Value} {l : List Stp} {w : World} (h : OwnT B v l w) : ∀ k, v.ownBlock = some k → B ≤ k ∧ k < w.heap.size := fun k hk => World.ownsRow.lt h k hk
theorem OwnT.sl {B : Nat} {v : Value} {l : List Stp} {w : World} (h : OwnT B v l w) (hin : ∀ s ∈ l, s.2.In w) : SlT v l w := by
  refine ⟨?_, hin⟩
  obtain ⟨h0, h1⟩ := h
  rcases h1 with ⟨rfl, h2⟩ | ⟨g, cap, cur, rfl, h2, h3, h4, h5, h6, h7⟩
  · exact .inl ⟨List.length_eq_zero_iff.1 h2, none, 0, rfl⟩
  · refine .inr ⟨g, 0, cap, rfl, (Array.getElem?_eq_some_iff.1 h3).1, fun m u hm => ?_⟩
    rw [Nat.zero_add]
    rw [← h7, List.getElem?_take] at hm
    split at hm
    · exact cell_of_blk h3 m u (by simpa using hm)
    · cases hm

/-! plain -/
/-- What way finds: stops, or what is missing, or none. -/
inductive WR where
  | good (l : List Stp)
  | miss (z : ByteArray)
  | bad
def WR.push (p : Stp) : WR → WR
  | .good l => .good (p :: l)
  | .miss z => .miss z
  | .bad => .bad
def WR.pre (acc : List Stp) : WR → WR
  | .good l => .good (acc ++ l)
  | .miss z => .miss z
  | .bad => .bad
theorem pre_push (acc : List Stp) (p : Stp) (r : WR) : (r.push p).pre acc = r.pre (acc ++ [p]) := by
  cases r <;> simp [WR.push, WR.pre]
/-- The zone above may be gone to. -/
def stepB (z a : ByteArray) : Bool := inB z.toList a.toList && !decide (a = z) && !wildB a.toList
def wayR (known : List Sd) : Nat → ByteArray → WR
  | 0, _ => .bad
  | k + 1, z => if z = dotB then .good [] else match findK known z 6 with
    | none => .miss z
    | some s => match s.g with
      | [] => .bad
      | g :: _ => if stepB z g.z = true then (wayR known k g.z).push (z, s) else .bad
def mz (z : ByteArray) : Nat := if z = dotB then 0 else z.size + 1
theorem dot_list : dotB.toList = [46] := by rw [tl]; rfl
theorem ba_eqT {a b : ByteArray} (h : a.toList = b.toList) : a = b := by
  apply ByteArray.ext
  apply Array.toList_inj.1
  rw [← tl, ← tl]; exact h
theorem mz_lt {z a : ByteArray} (hz : z ≠ dotB) (h : stepB z a = true) : mz a < mz z ∧ a.size ≤ 60 := by
  unfold stepB inB at h
  simp only [Bool.and_eq_true, Bool.not_eq_true', decide_eq_false_iff_not] at h
  obtain ⟨⟨⟨⟨h1, h2⟩, h3⟩, h4⟩, h5⟩ := h
  refine ⟨?_, by rw [← tl_len]; exact (valid_small h2).2⟩
  unfold mz
  rw [if_neg hz]
  split
  · omega
  · rename_i hd
    unfold underB at h3
    simp only [Bool.or_eq_true, Bool.and_eq_true, beq_iff_eq, decide_eq_true_eq] at h3
    rcases h3 with (h3 | h3) | ⟨⟨h3, _⟩, _⟩
    · exact absurd (ba_eqT (h3.trans dot_list.symm)) hd
    · exact absurd (ba_eqT h3).symm h4
    · rw [tl_len, tl_len] at h3
      omega
theorem wayR_dot (known : List Sd) (k : Nat) (h : 0 < k) : wayR known k dotB = .good [] := by
  obtain ⟨j, rfl⟩ : ∃ j, k = j + 1 := ⟨k - 1, by omega⟩
  simp [wayR]
/-- More steps than are needed change nothing. -/
theorem wayR_more (known : List Sd) : ∀ (k j : Nat) (z : ByteArray), mz z < k → mz z < j → wayR known k z = wayR known j z
  | 0, _, _, h, _ => absurd h (Nat.not_lt_zero _)
  | _ + 1, 0, _, _, h => absurd h (Nat.not_lt_zero _)
  | k + 1, j + 1, z, hk, hj => by
    unfold wayR
    by_cases hz : z = dotB
    · rw [if_pos hz, if_pos hz]
    · rw [if_neg hz, if_neg hz]
      cases findK known z 6 with
      | none => rfl
      | some s =>
        simp only
        cases s.g with
        | nil => rfl
        | cons g r =>
          simp only
          by_cases hs : stepB z g.z = true
          · rw [if_pos hs, if_pos hs]
            have := (mz_lt hz hs).1
            rw [wayR_more known k j g.z (by omega) (by omega)]
          · rw [if_neg hs, if_neg hs]
end Go.Proofs.YtkhckgknldiheaaDoor
