/- The gaps of LexerGaps are gaps, and what the source with one of them is split into; no condition beyond those that each theorem names. -/
import Derived.Test.YtggcnpmniidgkaaG2
import Derived.Lib.LastIndexByte
namespace Go.Proofs.Ytggcnpmniidgkaa
open Go.RowKit Go.Maps Go.Shelf
open NmP
namespace Gaps

theorem gap_of (G : Bs) (h1 : skipG false G = G.length) (h2 : endsIn false G = false) (h3 : skipG true G = G.length) (h4 : G ≠ []) (h5 : ¬ (3 ≤ kindN (G.headD 0).toNat ∧ kindN (G.headD 0).toNat ≤ 6)) : Gap G where
  mid := fun y => by rw [skip_whole _ _ _ h1, h2]
  fin := fun cm => by cases cm <;> assumption
  ne := h4
  stop := fun c m' h => by rw [h] at h5; exact h5
theorem tlL (l : List UInt8) : (⟨l.toArray⟩ : ByteArray).toList = l := ofL_toList l
theorem gapK_gap (r : Nat) : Gap (gapK r).toList := by
  unfold gapK
  repeat' split
  · rw [show g0.toList = [32] from tlL _]; exact gap_of _ (by decide) (by decide) (by decide) (by decide) (by decide)
  · rw [show g1.toList = [10] from tlL _]; exact gap_of _ (by decide) (by decide) (by decide) (by decide) (by decide)
  · rw [show g2.toList = [9, 10, 32] from tlL _]; exact gap_of _ (by decide) (by decide) (by decide) (by decide) (by decide)
  · rw [show g3.toList = [35, 32, 97, 32, 123, 32, 34, 32, 48, 49, 10] from tlL _]; exact gap_of _ (by decide) (by decide) (by decide) (by decide) (by decide)
  · rw [show g4.toList = [10, 35, 45, 10] from tlL _]; exact gap_of _ (by decide) (by decide) (by decide) (by decide) (by decide)
theorem gap_line {G : Bs} (h : Gap G) : Gap (10 :: G) where
  mid := fun y => by
    rw [List.cons_append, skipG_cons, if_neg (by simp), if_pos (by decide), h.mid, List.length_cons]; omega
  fin := fun cm => by
    rw [skipG_cons, if_neg (by simp), if_pos (by decide), h.fin, List.length_cons]; omega
  ne := by simp
  stop := fun c m' e => by cases e; decide

theorem ins_at {l : Bs} {ts : List PTok} {G : Bs} (hG : Gap G) (hO : lexA l 0 = .ok ts) (hl : ts.length ≤ 2000) (k : Nat) (hk : k ≤ ts.length) (h8 : l.length + G.length ≤ 8000) (s' : Bs)
    (hs : s' = l.take (placeOf ts k 0 l.length) ++ (G ++ l.drop (placeOf ts k 0 l.length))) : placeOf ts k 0 l.length ≤ l.length ∧ lexR s' = (((ts.take k).map PTok.tok) ++ ((ts.drop k).map PTok.tok).map (Tok.up G.length), 0, 0) := by
  have hsl : s'.length = l.length + G.length := by
    rw [hs, List.length_append, List.length_append, List.length_take, List.length_drop]
    have := (lexO_ins hG _ l 0 ts k (l.length + G.length + 1) hO (Nat.lt_succ_self _) hk (Nat.lt_succ_self _)).1
    omega
  obtain ⟨h1, h2⟩ := lexO_ins hG _ l 0 ts k (s'.length + 1) hO (Nat.lt_succ_self _) hk (by omega)
  rw [← hs] at h2
  refine ⟨h1, ?_⟩
  rw [lexR_of (by omega) h2 (by simp; omega), List.map_append, tok_up]
theorem lib_idx (s : ByteArray) : ∃ m0 : Nat, m0 ≤ s.size ∧ Lib.lastIndexByte s ((10 : UInt8).toNat : Int) + 1 = m0 := by
  rcases Lib.lastIndexByte_spec s ((10 : UInt8).toNat : Int) with ⟨h, _⟩ | ⟨i, hi, h, _⟩
  · exact ⟨0, Nat.zero_le _, by rw [h]; rfl⟩
  · exact ⟨i + 1, hi, by rw [h]; rfl⟩
end Gaps
end Go.Proofs.Ytggcnpmniidgkaa
