/- What Path finds in the example of layer 10's head; no condition beyond those that each theorem names. -/
import Derived.Test.YtkhckgknldiheaaDoorTF
namespace Go.Proofs.YtkhckgknldiheaaDoor
set_option linter.unusedSimpArgs false
set_option linter.unusedVariables false
open Go.RowKit
open NmP SpP

def sX : ByteArray := ⟨#[120]⟩
theorem IsS.ok {s : Sd} {x zone : ByteArray} {kind n : Int} {d : Dt} (h : IsS s x kind zone n d) : s.st.ok = true := by
  obtain ⟨g, h1, h2, h3, h4, h5, h6, h7⟩ := h.g
  unfold checkB signB at h7
  simp only [Bool.and_eq_true] at h7
  exact h7.1.1.1.1.1
theorem IsS.signed {s : Sd} {x zone : ByteArray} {kind n : Int} {d : Dt} (h : IsS s x kind zone n d) (keys : List Sp) (t dd : Int) (hk : keys.contains (n, 1) = true) : signedB s.st s.g zone keys t dd = (timeB t dd && (decide (0 ≤ t - dd) && decide (t + dd ≤ 100))) := by
  obtain ⟨g, h1, h2, h3, h4, h5, h6, h7⟩ := h.g
  unfold signedB
  rw [h1]
  simp only [List.any_cons, List.any_nil, Bool.or_false]
  unfold okG
  rw [h2, h3, h4, h5, h6, hk, h7]
  simp
theorem IsS.bad {s : Sd} {x zone : ByteArray} {kind n : Int} {d : Dt} (h : IsS s x kind zone n d) : badK s = false := by
  have ho := h.ok
  obtain ⟨g, h1, h2, h3, h4, h5, h6, h7⟩ := h.g
  unfold badK
  simp [ho, h1]
theorem IsS.is {s : Sd} {x zone : ByteArray} {kind n : Int} {d : Dt} (h : IsS s x kind zone n d) (z : ByteArray) (k : Int) : isQ z k s = (decide (x = z) && decide (kind = k)) := by
  unfold isQ
  rw [h.x, h.t]
/-- The anchors of the example. -/
def rA (v : Value) : St := ⟨dotB, 6, 0, v, [dE 1]⟩
theorem rA_ok (v : Value) : (rA v).ok = true := by
  show setB dotB.toList 6 0 [dE 1] = true
  kernel_rfl
theorem rA_rooted (v : Value) : rootedB (rA v) = true := by
  unfold rootedB
  rw [rA_ok]
  rfl
theorem sX_valid : (validB sX.toList && !wildB sX.toList) = true := by kernel_rfl
theorem star_bad : wildB (⟨#[42, 46, 120]⟩ : ByteArray).toList = true := by kernel_rfl
theorem step_x : stepB sX dotB = true := by kernel_rfl
theorem sX_ne : ¬ sX = dotB := by decide
theorem args_x (known : List Sd) (v : Value) (t : Int) (hk : knownB known = true) (ht : 0 ≤ t ∧ t ≤ 10000000) : argsB known (rA v) sX t 5 = true := by
  have h := sX_valid
  unfold argsB timeB
  rw [hk, rA_rooted, Bool.true_and, Bool.true_and, h]
  simp [ht.1, ht.2]
theorem path_star (known : List Sd) (v : Value) (t d : Int) : pathR known (rA v) ⟨#[42, 46, 120]⟩ t d = .arg := by
  unfold pathR argsB
  rw [star_bad]
  simp
theorem known_of {l : List Sd} (h : ∀ s ∈ l, badK s = false) (hl : l.length ≤ 400) : knownB l = true := by
  unfold knownB
  simp only [hl, decide_true, Bool.true_and, Bool.not_eq_true', List.any_eq_false]
  intro s hs
  rw [h s hs]
  simp
theorem path0 (v : Value) : pathR [] (rA v) sX 50 5 = .miss sX 6 := by
  unfold pathR
  rw [if_pos (args_x [] v 50 rfl (by omega))]
  unfold wayR
  rw [if_neg sX_ne]
  rfl
theorem way_x {s1 : Sd} {l : List Sd} (h1 : IsS s1 sX 6 dotB 1 (dE 2)) : wayR (s1 :: l) 63 sX = .good [(sX, s1)] := by
  obtain ⟨g, hg, hz, -⟩ := h1.g
  have hf : findK (s1 :: l) sX 6 = some s1 := by
    unfold findK
    rw [List.find?_cons_of_pos (by rw [h1.is]; rfl)]
  show (if sX = dotB then WR.good [] else _) = _
  rw [if_neg sX_ne, hf]
  simp only [hg, hz, step_x, if_true]
  show (if dotB = dotB then WR.good [] else _).push _ = _
  rw [if_pos rfl]
  rfl
theorem down_x (known : List Sd) (a : St) (t d : Int) (s1 : Sd) : downF known a t d ([(sX, s1)] ++ [(dotB, zSd)]) = folF known a t d [(dotB, zSd), (sX, s1)] (.run [] ⟨#[]⟩) := rfl
theorem step_root {known : List Sd} {v : Value} {s2 : Sd} (t : Int) (ht : timeB t 5 = true) (h2 : IsS s2 dotB 7 dotB 1 (dE 1)) (hf : findK known dotB 7 = some s2) :
    stepF known (rA v) t 5 (dotB, zSd) [] ⟨#[]⟩ = if (decide (0 ≤ t - 5) && decide (t + 5 ≤ 100)) = true then .run [(1, 1)] dotB else .bad := by
  unfold stepF
  simp only [hf, decide_true, Bool.not_true, Bool.false_and, Bool.false_eq_true, if_false, if_true]
  have hm : matchB (rA v) s2 t 5 = (decide (0 ≤ t - 5) && decide (t + 5 ≤ 100)) := by
    unfold matchB
    rw [rA_ok, h2.ok, h2.t, h2.x]
    show (true && true && decide ((6 : Int) = 6) && decide ((7 : Int) = 7) && decide (dotB = dotB) && signedB s2.st s2.g dotB (commonL (keysL s2.l) (keysL [dE 1])) t 5) = _
    rw [h2.l, h2.signed _ t 5 (by decide), ht]
    simp
  rw [hm, h2.l]
  rfl
theorem step_x0 {known : List Sd} {v : Value} {s1 : Sd} (h1 : IsS s1 sX 6 dotB 1 (dE 2)) :
    stepF known (rA v) 50 5 (sX, s1) [(1, 1)] dotB = match findK known sX 7 with
    | none => .miss sX
    | some k => if matchB s1.st k 50 5 = true then .run (keysL k.l) sX else .bad := by
  unfold stepF
  have hs : signedB s1.st s1.g dotB [(1, 1)] 50 5 = true := by rw [h1.signed _ 50 5 (by decide)]; decide
  have hd : decide (sX = dotB) = false := by decide
  simp only [hs, hd, Bool.not_true, Bool.and_false, Bool.false_eq_true, if_false]
  rw [if_neg sX_ne]
  rfl
theorem path_run {l : List Sd} {v : Value} {s1 : Sd} (t : Int) (ht : 0 ≤ t ∧ t ≤ 10000000) (h1 : IsS s1 sX 6 dotB 1 (dE 2)) (hk : knownB (s1 :: l) = true) : pathR (s1 :: l) (rA v) sX t 5 = pathD (folF (s1 :: l) (rA v) t 5 [(dotB, zSd), (sX, s1)] (.run [] ⟨#[]⟩)) := by
  unfold pathR
  rw [if_pos (args_x _ v t hk ht), way_x h1]
  show pathD (downF _ _ _ _ _) = _
  rw [down_x]
theorem path1 {v : Value} {s1 : Sd} (h1 : IsS s1 sX 6 dotB 1 (dE 2)) : pathR [s1] (rA v) sX 50 5 = .miss dotB 7 := by
  rw [path_run 50 (by omega) h1 (known_of (fun s hs => by rw [List.mem_singleton.1 hs]; exact h1.bad) (by simp))]
  have hf : findK [s1] dotB 7 = none := by
    unfold findK
    rw [List.find?_cons_of_neg (by rw [h1.is]; decide)]
    rfl
  show pathD (folF _ _ _ _ _ (stepF [s1] (rA v) 50 5 (dotB, zSd) [] ⟨#[]⟩)) = _
  unfold stepF
  rw [hf]
  rfl
theorem path2 {v : Value} {s1 s2 : Sd} (h1 : IsS s1 sX 6 dotB 1 (dE 2)) (h2 : IsS s2 dotB 7 dotB 1 (dE 1)) : pathR [s1, s2] (rA v) sX 50 5 = .miss sX 7 := by
  rw [path_run 50 (by omega) h1 (known_of (fun s hs => by rcases List.mem_cons.1 hs with rfl | hs; exact h1.bad; rw [List.mem_singleton.1 hs]; exact h2.bad) (by simp))]
  have hf : findK [s1, s2] dotB 7 = some s2 := by
    unfold findK
    rw [List.find?_cons_of_neg (by rw [h1.is]; decide), List.find?_cons_of_pos (by rw [h2.is]; decide)]
  have hg : findK [s1, s2] sX 7 = none := by
    unfold findK
    rw [List.find?_cons_of_neg (by rw [h1.is]; decide), List.find?_cons_of_neg (by rw [h2.is]; decide)]
    rfl
  show pathD (folF _ _ _ _ _ (stepF [s1, s2] (rA v) 50 5 (dotB, zSd) [] ⟨#[]⟩)) = _
  rw [step_root 50 (by decide) h2 hf, if_pos (by decide)]
  show pathD (folF _ _ _ _ _ (stepF [s1, s2] (rA v) 50 5 (sX, s1) [(1, 1)] dotB)) = _
  rw [step_x0 h1, hg]
  rfl
theorem find3 {s1 s2 s3 : Sd} (h1 : IsS s1 sX 6 dotB 1 (dE 2)) (h2 : IsS s2 dotB 7 dotB 1 (dE 1)) (h3 : IsS s3 sX 7 sX 2 (dE 2)) : findK [s1, s2, s3] dotB 7 = some s2 ∧ findK [s1, s2, s3] sX 7 = some s3 ∧ knownB [s1, s2, s3] = true := by
  refine ⟨?_, ?_, known_of (fun s hs => by rcases List.mem_cons.1 hs with rfl | hs; exact h1.bad; rcases List.mem_cons.1 hs with rfl | hs; exact h2.bad; rw [List.mem_singleton.1 hs]; exact h3.bad) (by simp)⟩
  · unfold findK
    rw [List.find?_cons_of_neg (by rw [h1.is]; decide), List.find?_cons_of_pos (by rw [h2.is]; decide)]
  · unfold findK
    rw [List.find?_cons_of_neg (by rw [h1.is]; decide), List.find?_cons_of_neg (by rw [h2.is]; decide), List.find?_cons_of_pos (by rw [h3.is]; decide)]
theorem path3 {v : Value} {s1 s2 s3 : Sd} (h1 : IsS s1 sX 6 dotB 1 (dE 2)) (h2 : IsS s2 dotB 7 dotB 1 (dE 1)) (h3 : IsS s3 sX 7 sX 2 (dE 2)) : pathR [s1, s2, s3] (rA v) sX 50 5 = .keys [(2, 1)] := by
  obtain ⟨hf, hg, hk⟩ := find3 h1 h2 h3
  rw [path_run 50 (by omega) h1 hk]
  show pathD (folF _ _ _ _ _ (stepF [s1, s2, s3] (rA v) 50 5 (dotB, zSd) [] ⟨#[]⟩)) = _
  rw [step_root 50 (by decide) h2 hf, if_pos (by decide)]
  show pathD (folF _ _ _ _ _ (stepF [s1, s2, s3] (rA v) 50 5 (sX, s1) [(1, 1)] dotB)) = _
  rw [step_x0 h1, hg]
  have hm : matchB s1.st s3 50 5 = true := by
    unfold matchB
    rw [h1.ok, h3.ok, h3.t, h3.x]
    show (true && true && decide (s1.t = 6) && decide ((7 : Int) = 7) && decide (s1.x = sX) && signedB s3.st s3.g s1.x (commonL (keysL s3.l) (keysL s1.l)) 50 5) = _
    rw [h1.x, h1.t, h1.l, h3.l, h3.signed _ 50 5 (by decide)]
    decide
  simp only [hm, if_true, h3.l]
  rfl
theorem path3late {v : Value} {s1 s2 s3 : Sd} (h1 : IsS s1 sX 6 dotB 1 (dE 2)) (h2 : IsS s2 dotB 7 dotB 1 (dE 1)) (h3 : IsS s3 sX 7 sX 2 (dE 2)) : pathR [s1, s2, s3] (rA v) sX 98 5 = .bad := by
  obtain ⟨hf, hg, hk⟩ := find3 h1 h2 h3
  rw [path_run 98 (by omega) h1 hk]
  show pathD (folF _ _ _ _ _ (stepF [s1, s2, s3] (rA v) 98 5 (dotB, zSd) [] ⟨#[]⟩)) = _
  rw [step_root 98 (by decide) h2 hf, if_neg (by decide)]
  rfl
end Go.Proofs.YtkhckgknldiheaaDoor
