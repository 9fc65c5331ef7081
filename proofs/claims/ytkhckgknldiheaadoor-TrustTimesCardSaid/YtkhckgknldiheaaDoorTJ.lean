/- Layer 10: less slack at a nearer time; no condition beyond those that each theorem names. -/
import Derived.Test.YtkhckgknldiheaaDoorTI
namespace Go.Proofs.YtkhckgknldiheaaDoor
set_option linter.unusedSimpArgs false
set_option linter.unusedVariables false
open Go.RowKit
open NmP SpP

theorem ok_near {s : St} {zone : ByteArray} {keys : List Sp} {t d t' d' : Int} {g : Sg} (h : okG s zone keys t d g = true) (h1 : t - d ≤ t' - d') (h2 : t' + d' ≤ t + d) : okG s zone keys t' d' g = true := by
  unfold okG at h ⊢
  simp only [Bool.and_eq_true, decide_eq_true_eq] at h ⊢
  obtain ⟨⟨⟨a, b⟩, c⟩, e⟩ := h
  exact ⟨⟨⟨a, by omega⟩, by omega⟩, e⟩
theorem signed_near {s : St} {sigs : List Sg} {zone : ByteArray} {keys : List Sp} {t d t' d' : Int} (h : signedB s sigs zone keys t d = true) (h1 : t - d ≤ t' - d') (h2 : t' + d' ≤ t + d) (ht : timeB t' d' = true) : signedB s sigs zone keys t' d' = true := by
  unfold signedB at h ⊢
  rw [Bool.and_eq_true] at h
  rw [ht, Bool.true_and]
  obtain ⟨g, hg, hk⟩ := List.any_eq_true.1 h.2
  exact List.any_eq_true.2 ⟨g, hg, ok_near hk h1 h2⟩
theorem signed_time {s : St} {sigs : List Sg} {zone : ByteArray} {keys : List Sp} {t d : Int} (h : signedB s sigs zone keys t d = true) : 0 ≤ t ∧ t ≤ 10000000 ∧ 0 ≤ d ∧ d ≤ 1000 := by
  unfold signedB at h
  rw [Bool.and_eq_true] at h
  have h1 := h.1
  unfold timeB at h1
  simp only [Bool.and_eq_true, decide_eq_true_eq] at h1
  omega
theorem box5 (w : World) (s : Sd) : (w.alloc (.cells #[.string s.x, .int .i64 s.t, .int .i64 s.f, .slice s.p s.n s.c, .slice s.q s.m s.d] 37)).heap[w.heap.size]? = some (Obj.cells #[.string s.x, .int .i64 s.t, .int .i64 s.f, .slice s.p s.n s.c, .slice s.q s.m s.d] 37 (0, 0)) := heap_alloc_new w _

set_option maxHeartbeats 4000000 in
set_option maxRecDepth 100000 in
theorem times_walk (s : Sd) (z : ByteArray) (kv : Value) (keys : List Sp) (t d k : Int) (w : World) (hs : s.In w) (hr : RulesAt w) (hk : SlS kv keys w) (hz : z.size ≤ maxLen) (hkl : keys.length ≤ maxLen) :
    Calls Tryd.prog 5 #[.agg #[.string s.x, .int .i64 s.t, .int .i64 s.f, .slice s.p s.n s.c, .slice s.q s.m s.d], .string z, kv, .int .i64 t, .int .i64 d, .int .i64 k] w fun e w' => e = .returned (.bool true) ∧ Below w.heap.size w w' := by
  obtain ⟨pk, ck, rfl⟩ := hk.form
  have hb0 := bnewE w (.cells #[.string s.x, .int .i64 s.t, .int .i64 s.f, .slice s.p s.n s.c, .slice s.q s.m s.d] 37)
  have CH := Lib.hid (head_any (w.alloc (.cells #[.string s.x, .int .i64 s.t, .int .i64 s.f, .slice s.p s.n s.c, .slice s.q s.m s.d] 37)) (hr.keep hb0))
  have HBX := Lib.hid (box5 w s)
  have HB0 := Lib.hid hb0
  have CS : Hid (∀ (W : World) (t d : Int), Below w.heap.size w W → Calls Tryd.prog 18 #[.agg #[.string s.x, .int .i64 s.t, .int .i64 s.f, .slice s.p s.n s.c, .slice s.q s.m s.d], .string z, .slice pk keys.length ck, .int .i64 t, .int .i64 d] W fun e w' => e = .returned (.bool (signedB s.st s.g z keys t d)) ∧ Below W.heap.size W w') := Lib.hid (fun (W : World) (t d : Int) (hb : Below w.heap.size w W) => signed_any s.st s.sv s.g z (.slice pk keys.length ck) keys t d W (hs.hs.keep hb) (hr.keep hb) (hk.keep hb) (hs.hg.keep hb) hs.hz hkl hs.hl)
  go_enter Tryd.func5, Tryd.ntmps5
  go_upto_region 2 with (go_at_call 9; (with_reducible refine (CH.out).mono ?_); rintro e w1 ⟨rfl, hb⟩; have HB1 := Lib.hid (HB0.out.trans (hb.mono HB0.out.size)); have HQ := Lib.hid ((hb.block w.heap.size (by simp)).trans HBX.out); clear hb)
  have a0 := cell_of_blk HQ.out 0 (.string s.x) rfl
  have a1 := cell_of_blk HQ.out 1 (.int .i64 s.t) rfl
  have a2 := cell_of_blk HQ.out 2 (.int .i64 s.f) rfl
  have a3 := cell_of_blk HQ.out 3 (.slice s.p s.n s.c) rfl
  have a4 := cell_of_blk HQ.out 4 (.slice s.q s.m s.d) rfl
  generalize keys.length = n at *
  by_cases c1 : 20 < s.m
  · go_wp2
    go_ret
    exact ⟨rfl, HB1.out⟩
  by_cases c2 : 20 < n
  · go_wp2
    go_ret
    exact ⟨rfl, HB1.out⟩
  by_cases c3 : 20 < s.n
  · go_wp2
    go_ret
    exact ⟨rfl, HB1.out⟩
  by_cases c4 : k < -1000
  · go_wp2
    go_ret
    exact ⟨rfl, HB1.out⟩
  by_cases c5 : 1000 < k
  · go_wp2
    go_ret
    exact ⟨rfl, HB1.out⟩
  cases hB : signedB s.st s.g z keys t d
  · have HF := Lib.hid hB
    clear hB
    by_cases hk0 : k < 0
    · go_wp2_with (go_at_call 18; (with_reducible refine (CS.out _ t d HB1.out).mono ?_); rintro e w2 ⟨rfl, hb⟩; rw [HF.out]; have HB2 := Lib.hid (HB1.out.trans (hb.mono HB1.out.size)); replace HQ := Lib.hid ((hb.block w.heap.size (Array.getElem?_eq_some_iff.1 HQ.out).1).trans HQ.out); clear hb a0 a1 a2 a3 a4; have a0 := cell_of_blk HQ.out 0 (.string s.x) rfl; have a1 := cell_of_blk HQ.out 1 (.int .i64 s.t) rfl; have a2 := cell_of_blk HQ.out 2 (.int .i64 s.f) rfl; have a3 := cell_of_blk HQ.out 3 (.slice s.p s.n s.c) rfl; have a4 := cell_of_blk HQ.out 4 (.slice s.q s.m s.d) rfl)
      go_ret
      exact ⟨rfl, HB2.out⟩
    · go_wp2_with (go_at_call 18; (with_reducible refine (CS.out _ t d HB1.out).mono ?_); rintro e w2 ⟨rfl, hb⟩; rw [HF.out]; have HB2 := Lib.hid (HB1.out.trans (hb.mono HB1.out.size)); replace HQ := Lib.hid ((hb.block w.heap.size (Array.getElem?_eq_some_iff.1 HQ.out).1).trans HQ.out); clear hb a0 a1 a2 a3 a4; have a0 := cell_of_blk HQ.out 0 (.string s.x) rfl; have a1 := cell_of_blk HQ.out 1 (.int .i64 s.t) rfl; have a2 := cell_of_blk HQ.out 2 (.int .i64 s.f) rfl; have a3 := cell_of_blk HQ.out 3 (.slice s.p s.n s.c) rfl; have a4 := cell_of_blk HQ.out 4 (.slice s.q s.m s.d) rfl)
      go_ret
      exact ⟨rfl, HB2.out⟩
  have hT := signed_time hB
  have HF := Lib.hid hB
  have near : ∀ t' d', t - d ≤ t' - d' → t' + d' ≤ t + d → 0 ≤ t' → t' ≤ 10000000 → 0 ≤ d' → d' ≤ 1000 → signedB s.st s.g z keys t' d' = true := fun t' d' h1 h2 h3 h4 h5 h6 => signed_near hB h1 h2 (by unfold timeB; simp; omega)
  have NR := Lib.hid near
  clear near hB
  obtain ⟨hT1, hT2, hT3, hT4⟩ := hT
  by_cases hk0 : k < 0
  · by_cases e1 : d + k < 0
    · go_wp2_with (go_at_call 18; (with_reducible refine (CS.out _ t d HB1.out).mono ?_); rintro e w2 ⟨rfl, hb⟩; rw [HF.out]; have HB2 := Lib.hid (HB1.out.trans (hb.mono HB1.out.size)); replace HQ := Lib.hid ((hb.block w.heap.size (Array.getElem?_eq_some_iff.1 HQ.out).1).trans HQ.out); clear hb a0 a1 a2 a3 a4; have a0 := cell_of_blk HQ.out 0 (.string s.x) rfl; have a1 := cell_of_blk HQ.out 1 (.int .i64 s.t) rfl; have a2 := cell_of_blk HQ.out 2 (.int .i64 s.f) rfl; have a3 := cell_of_blk HQ.out 3 (.slice s.p s.n s.c) rfl; have a4 := cell_of_blk HQ.out 4 (.slice s.q s.m s.d) rfl)
      go_ret
      exact ⟨rfl, HB2.out⟩
    by_cases e2 : t + k < 0
    · go_wp2_with (go_at_call 18; (with_reducible refine (CS.out _ t d HB1.out).mono ?_); rintro e w2 ⟨rfl, hb⟩; rw [HF.out]; have HB2 := Lib.hid (HB1.out.trans (hb.mono HB1.out.size)); replace HQ := Lib.hid ((hb.block w.heap.size (Array.getElem?_eq_some_iff.1 HQ.out).1).trans HQ.out); clear hb a0 a1 a2 a3 a4; have a0 := cell_of_blk HQ.out 0 (.string s.x) rfl; have a1 := cell_of_blk HQ.out 1 (.int .i64 s.t) rfl; have a2 := cell_of_blk HQ.out 2 (.int .i64 s.f) rfl; have a3 := cell_of_blk HQ.out 3 (.slice s.p s.n s.c) rfl; have a4 := cell_of_blk HQ.out 4 (.slice s.q s.m s.d) rfl)
      go_ret
      exact ⟨rfl, HB2.out⟩
    by_cases e3 : 10000000 < t + k
    · omega
    have N1 := Lib.hid (NR.out (t + k) (d + k) (by omega) (by omega) (by omega) (by omega) (by omega) (by omega))
    have N2 := Lib.hid (NR.out t (d + k) (by omega) (by omega) (by omega) (by omega) (by omega) (by omega))
    go_wp2_with (first | (go_at_call 18; (with_reducible refine (CS.out _ t d HB1.out).mono ?_); rintro e w2 ⟨rfl, hb⟩; rw [HF.out]; have HB2 := Lib.hid (HB1.out.trans (hb.mono HB1.out.size)); replace HQ := Lib.hid ((hb.block w.heap.size (Array.getElem?_eq_some_iff.1 HQ.out).1).trans HQ.out); clear hb a0 a1 a2 a3 a4; have a0 := cell_of_blk HQ.out 0 (.string s.x) rfl; have a1 := cell_of_blk HQ.out 1 (.int .i64 s.t) rfl; have a2 := cell_of_blk HQ.out 2 (.int .i64 s.f) rfl; have a3 := cell_of_blk HQ.out 3 (.slice s.p s.n s.c) rfl; have a4 := cell_of_blk HQ.out 4 (.slice s.q s.m s.d) rfl) | (go_at_call 18; (with_reducible refine (CS.out _ (t + k) (d + k) HB2.out).mono ?_); rintro e w3 ⟨rfl, hb⟩; rw [N1.out]; have HB3 := Lib.hid (HB2.out.trans (hb.mono HB2.out.size)); replace HQ := Lib.hid ((hb.block w.heap.size (Array.getElem?_eq_some_iff.1 HQ.out).1).trans HQ.out); clear hb a0 a1 a2 a3 a4; have a0 := cell_of_blk HQ.out 0 (.string s.x) rfl; have a1 := cell_of_blk HQ.out 1 (.int .i64 s.t) rfl; have a2 := cell_of_blk HQ.out 2 (.int .i64 s.f) rfl; have a3 := cell_of_blk HQ.out 3 (.slice s.p s.n s.c) rfl; have a4 := cell_of_blk HQ.out 4 (.slice s.q s.m s.d) rfl) | (go_at_call 18; (with_reducible refine (CS.out _ t (d + k) HB3.out).mono ?_); rintro e w4 ⟨rfl, hb⟩; rw [N2.out]; have HB4 := Lib.hid (HB3.out.trans (hb.mono HB3.out.size)); replace HQ := Lib.hid ((hb.block w.heap.size (Array.getElem?_eq_some_iff.1 HQ.out).1).trans HQ.out); clear hb a0 a1 a2 a3 a4; have a0 := cell_of_blk HQ.out 0 (.string s.x) rfl; have a1 := cell_of_blk HQ.out 1 (.int .i64 s.t) rfl; have a2 := cell_of_blk HQ.out 2 (.int .i64 s.f) rfl; have a3 := cell_of_blk HQ.out 3 (.slice s.p s.n s.c) rfl; have a4 := cell_of_blk HQ.out 4 (.slice s.q s.m s.d) rfl))
    go_ret
    exact ⟨rfl, HB4.out⟩
  · by_cases e1 : d - k < 0
    · go_wp2_with (go_at_call 18; (with_reducible refine (CS.out _ t d HB1.out).mono ?_); rintro e w2 ⟨rfl, hb⟩; rw [HF.out]; have HB2 := Lib.hid (HB1.out.trans (hb.mono HB1.out.size)); replace HQ := Lib.hid ((hb.block w.heap.size (Array.getElem?_eq_some_iff.1 HQ.out).1).trans HQ.out); clear hb a0 a1 a2 a3 a4; have a0 := cell_of_blk HQ.out 0 (.string s.x) rfl; have a1 := cell_of_blk HQ.out 1 (.int .i64 s.t) rfl; have a2 := cell_of_blk HQ.out 2 (.int .i64 s.f) rfl; have a3 := cell_of_blk HQ.out 3 (.slice s.p s.n s.c) rfl; have a4 := cell_of_blk HQ.out 4 (.slice s.q s.m s.d) rfl)
      go_ret
      exact ⟨rfl, HB2.out⟩
    by_cases e2 : t + k < 0
    · omega
    by_cases e3 : 10000000 < t + k
    · go_wp2_with (go_at_call 18; (with_reducible refine (CS.out _ t d HB1.out).mono ?_); rintro e w2 ⟨rfl, hb⟩; rw [HF.out]; have HB2 := Lib.hid (HB1.out.trans (hb.mono HB1.out.size)); replace HQ := Lib.hid ((hb.block w.heap.size (Array.getElem?_eq_some_iff.1 HQ.out).1).trans HQ.out); clear hb a0 a1 a2 a3 a4; have a0 := cell_of_blk HQ.out 0 (.string s.x) rfl; have a1 := cell_of_blk HQ.out 1 (.int .i64 s.t) rfl; have a2 := cell_of_blk HQ.out 2 (.int .i64 s.f) rfl; have a3 := cell_of_blk HQ.out 3 (.slice s.p s.n s.c) rfl; have a4 := cell_of_blk HQ.out 4 (.slice s.q s.m s.d) rfl)
      go_ret
      exact ⟨rfl, HB2.out⟩
    have N1 := Lib.hid (NR.out (t + k) (d - k) (by omega) (by omega) (by omega) (by omega) (by omega) (by omega))
    have N2 := Lib.hid (NR.out t (d - k) (by omega) (by omega) (by omega) (by omega) (by omega) (by omega))
    go_wp2_with (first | (go_at_call 18; (with_reducible refine (CS.out _ t d HB1.out).mono ?_); rintro e w2 ⟨rfl, hb⟩; rw [HF.out]; have HB2 := Lib.hid (HB1.out.trans (hb.mono HB1.out.size)); replace HQ := Lib.hid ((hb.block w.heap.size (Array.getElem?_eq_some_iff.1 HQ.out).1).trans HQ.out); clear hb a0 a1 a2 a3 a4; have a0 := cell_of_blk HQ.out 0 (.string s.x) rfl; have a1 := cell_of_blk HQ.out 1 (.int .i64 s.t) rfl; have a2 := cell_of_blk HQ.out 2 (.int .i64 s.f) rfl; have a3 := cell_of_blk HQ.out 3 (.slice s.p s.n s.c) rfl; have a4 := cell_of_blk HQ.out 4 (.slice s.q s.m s.d) rfl) | (go_at_call 18; (with_reducible refine (CS.out _ (t + k) (d - k) HB2.out).mono ?_); rintro e w3 ⟨rfl, hb⟩; rw [N1.out]; have HB3 := Lib.hid (HB2.out.trans (hb.mono HB2.out.size)); replace HQ := Lib.hid ((hb.block w.heap.size (Array.getElem?_eq_some_iff.1 HQ.out).1).trans HQ.out); clear hb a0 a1 a2 a3 a4; have a0 := cell_of_blk HQ.out 0 (.string s.x) rfl; have a1 := cell_of_blk HQ.out 1 (.int .i64 s.t) rfl; have a2 := cell_of_blk HQ.out 2 (.int .i64 s.f) rfl; have a3 := cell_of_blk HQ.out 3 (.slice s.p s.n s.c) rfl; have a4 := cell_of_blk HQ.out 4 (.slice s.q s.m s.d) rfl) | (go_at_call 18; (with_reducible refine (CS.out _ t (d - k) HB3.out).mono ?_); rintro e w4 ⟨rfl, hb⟩; rw [N2.out]; have HB4 := Lib.hid (HB3.out.trans (hb.mono HB3.out.size)); replace HQ := Lib.hid ((hb.block w.heap.size (Array.getElem?_eq_some_iff.1 HQ.out).1).trans HQ.out); clear hb a0 a1 a2 a3 a4; have a0 := cell_of_blk HQ.out 0 (.string s.x) rfl; have a1 := cell_of_blk HQ.out 1 (.int .i64 s.t) rfl; have a2 := cell_of_blk HQ.out 2 (.int .i64 s.f) rfl; have a3 := cell_of_blk HQ.out 3 (.slice s.p s.n s.c) rfl; have a4 := cell_of_blk HQ.out 4 (.slice s.q s.m s.d) rfl))
    go_ret
    exact ⟨rfl, HB4.out⟩
end Go.Proofs.YtkhckgknldiheaaDoor
