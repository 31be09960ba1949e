/-
  What the statement on Write answers.
-/
import Derived.Test.YtkpcmfgeanlcnaaDoorWrR
namespace Go.Proofs.YtkpcmfgeanlcnaaDoor
open Go.RowKit Go.Deep

theorem OwnB.nil (B : Nat) (w : World) : OwnB B w (.slice none 0 0) [] := World.ownsRow_nil w B 5 1
open Classical in
/-- The bytes that are told beside an error: none. -/
noncomputable def Sh.out (s : Sh) : List UInt8 := if s.err = 0 then wrB s else []
theorem Sh.out_ok {s : Sh} (h : s.err = 0) : s.out = wrB s := by unfold Sh.out; rw [if_pos h]
theorem Sh.out_err {s : Sh} (h : s.err ≠ 0) : s.out = [] := by unfold Sh.out; rw [if_neg h]
/-- What both Writes answer. -/
def Wrote (s : Sh) (w : World) (r : Ending) (w' : World) : Prop := ∃ v, r = .returned (.tuple #[v, .int .i64 (s.err : Nat)]) ∧ OwnB w.heap.size w' v s.out ∧ Below w.heap.size w w'

theorem cwrite_all (s : Sh) (vN vS vC : Value) (w : World) (h : s.In w vN vS vC) (hT : Tab w) :
    Calls Tryd.prog 25 #[shV s vN vS vC] w fun r w' => Wrote s w r w' := by
  by_cases he : s.err = 0
  · refine (cwrite_ok s vN vS vC w h he hT).mono ?_
    rintro r w' ⟨v, rfl, h1, h2⟩
    exact ⟨v, by rw [he]; rfl, by rw [Sh.out_ok he]; exact h1, h2⟩
  · refine (cwrite_err s vN vS vC w h he).mono ?_
    rintro r w' ⟨rfl, h2⟩
    exact ⟨_, rfl, by rw [Sh.out_err he]; exact OwnB.nil _ _, h2⟩
theorem rwrite_all (s : Sh) (vN vS vC : Value) (w : World) (h : s.In w vN vS vC) (hz2 : ∀ i, s.zs.getD i 0 ≤ 9223372036854775807) :
    Calls Tryd.prog 26 #[shV s vN vS vC] w fun r w' => Wrote s w r w' := by
  by_cases h1 : s.Fine
  · have hF := (Sh.fine_iff s).1 h1
    by_cases h2 : s.Listed
    · obtain ⟨K, N, I, C, ns, zs, col⟩ := s
      have f1 := h1.k1
      have f2 := h1.kn
      have f3 := h1.n1
      have f4 := h1.i0
      have f5 := h1.iN
      have f6 := h1.c1
      have f7 := h1.c2
      simp only at f1 f2 f3 f4 f5 f6 f7 hz2
      obtain ⟨k, rfl⟩ : ∃ k : Nat, K = k := ⟨K.toNat, by omega⟩
      obtain ⟨n, rfl⟩ : ∃ n : Nat, N = n := ⟨N.toNat, by omega⟩
      obtain ⟨i, rfl⟩ : ∃ i : Nat, I = i := ⟨I.toNat, by omega⟩
      obtain ⟨c, rfl⟩ : ∃ c : Nat, C = c := ⟨C.toNat, by omega⟩
      refine (rwrite_rest k n i c (by omega) (by omega) (by omega) (by omega) (by omega) (by omega) ns zs col vN vS vC w h ((Sh.listed_iff _).1 h2) hz2).mono ?_
      rintro r w' ⟨hB, ⟨he, rfl⟩ | ⟨he, v, rfl, hO⟩⟩
      · exact ⟨_, rfl, by rw [Sh.out_err he]; exact OwnB.nil _ _, hB⟩
      · exact ⟨v, by rw [he]; rfl, by rw [Sh.out_ok he]; exact hO, hB⟩
    · have e : s.err = 2 := by unfold Sh.err; rw [if_neg (show ¬ ¬ s.Fine from fun x => x h1), if_pos h2]
      refine (rwrite_names s.K s.N s.I s.C s.ns s.zs s.col vN vS vC w h hF.1 hF.2.1 hF.2.2 (fun x => h2 ((Sh.listed_iff s).2 x))).mono ?_
      rintro r w' ⟨rfl, hB⟩
      exact ⟨_, by rw [e]; rfl, by rw [Sh.out_err (by rw [e]; decide)]; exact OwnB.nil _ _, hB⟩
  · have e : s.err = 1 := by unfold Sh.err; rw [if_pos h1]
    refine (rwrite_params s.K s.N s.I s.C vN vS vC w (fun x => h1 ((Sh.fine_iff s).2 x))).mono ?_
    rintro r w' ⟨rfl, hB⟩
    exact ⟨_, by rw [e]; rfl, by rw [Sh.out_err (by rw [e]; decide)]; exact OwnB.nil _ _, hB⟩

theorem OwnB.string {B : Nat} {w : World} {v : Value} {l : List UInt8} (h : OwnB B w v l) : (convert 24 9 v).run Tryd.prog w = .ok (.string ⟨l.toArray⟩) w := by
  rcases h.2 with ⟨rfl, h0⟩ | ⟨g, cap, cur, rfl, _⟩
  · have : l = [] := List.length_eq_zero_iff.1 h0
    subst this
    rw [run_convert_bytes_string w 24 9 5 none 0 0 Tryd.underlying24 Tryd.underlying5 Tryd.underlying9]
    rfl
  · refine run_convert_bytes_back w 24 9 5 ⟨g, 0, none⟩ cap l Tryd.underlying24 Tryd.underlying5 Tryd.underlying9 (fun j hj => ?_)
    have := World.ownsRow.cellAt h j (by omega)
    rw [add_off, Nat.zero_add, this, u8V_get hj]
    simp [bAt, List.getD_eq_getElem?_getD, List.getElem?_eq_getElem hj]
set_option maxHeartbeats 400000 in
set_option maxRecDepth 100000 in
theorem lawSame_any (va vb : Value) (l : List UInt8) (B B' : Nat) (w : World) (ha : OwnB B w va l) (hb : OwnB B' w vb l) :
    Calls Tryd.prog 27 #[va, vb] w fun e w' => e = .returned (.bool true) ∧ w' = w := by
  have h1 := ha.string
  have h2 := hb.string
  clear ha hb
  go_enter Tryd.func27, Tryd.ntmps27
  go_wp2
  go_ret
  exact ⟨ret_bool' (by simp), rfl⟩
set_option maxHeartbeats 400000 in
set_option maxRecDepth 100000 in
theorem lawNum_any (x : Int) (w : World) :
    Calls Tryd.prog 20 #[.int .i64 x] w fun e w' => e = .returned (.int .i64 x) ∧ w' = w := by
  go_enter Tryd.func20, Tryd.ntmps20
  go_wp2
  go_ret
  exact ⟨rfl, rfl⟩

set_option maxHeartbeats 4000000 in
set_option maxRecDepth 100000 in
theorem written_any (s : Sh) (vN vS vC : Value) (w : World) (h : s.In w vN vS vC) (hz2 : ∀ i, s.zs.getD i 0 ≤ 9223372036854775807) (hT : Tab w) :
    Calls Tryd.prog 12 #[shV s vN vS vC] w fun r w' => ∃ v, r = .returned (.tuple #[v, .bool true]) ∧ Below w.heap.size w w' := by
  have hB0 := (Below.refl w.heap.size w).alloc (Nat.le_refl _) (.cells #[.int .i64 s.K, .int .i64 s.N, .int .i64 s.I, .int .i64 s.C, vN, vS, vC] 36)
  have K1 := cwrite_all s vN vS vC _ (h.below hB0) (hT.below hB0 hT.1)
  have hel := s.err_lt
  unfold shV at K1 ⊢
  unfold Wrote at K1
  obtain ⟨e, ee⟩ : ∃ e, s.err = e := ⟨_, rfl⟩
  obtain ⟨L, eL⟩ : ∃ L, s.out = L := ⟨_, rfl⟩
  rw [ee, eL] at K1
  rw [ee] at hel
  go_enter Tryd.func12, Tryd.ntmps12
  go_wp2_with (first
    | (go_at_call 25; refine K1.mono ?_; clear K1; rintro r w1 ⟨v1, rfl, hO1, hB⟩; obtain ⟨⟨c0, c1, c2, c3, c4, c5, c6⟩, hB1⟩ := box7 hB; have K2 := rwrite_all s vN vS vC w1 (h.below hB1) hz2; unfold shV at K2; unfold Wrote at K2; rw [ee, eL] at K2; clear hB)
    | (go_at_call 26; refine K2.mono ?_; clear K2; rintro r w2 ⟨v2, rfl, hO2, hB2⟩; have hO12 := hO1.below hB2)
    | (go_at_call 20; refine (lawNum_any _ _).mono ?_; rintro r w' ⟨rfl, hw'⟩; obtain rfl := hw'.symm)
    | (go_at_call 27; refine (lawSame_any v1 v2 L _ _ _ (by exact hO12) (by exact hO2)).mono ?_; rintro r w' ⟨rfl, hw'⟩; obtain rfl := hw'.symm))
  go_ret2
  exact ⟨_, rfl, hB1.trans (hB2.mono hB1.size)⟩
set_option maxHeartbeats 4000000 in
set_option maxRecDepth 100000 in
theorem writes_any (s : Sh) (vN vS vC : Value) (w : World) (h : s.In w vN vS vC) (hz2 : ∀ i, s.zs.getD i 0 ≤ 9223372036854775807) (hT : Tab w) :
    Calls Tryd.prog 6 #[shV s vN vS vC] w fun r w' => r = .returned (.bool true) ∧ Below w.heap.size w w' := by
  have hB0 := (Below.refl w.heap.size w).alloc (Nat.le_refl _) (.cells #[.int .i64 s.K, .int .i64 s.N, .int .i64 s.I, .int .i64 s.C, vN, vS, vC] 36)
  have K1 := written_any s vN vS vC _ (h.below hB0) hz2 (hT.below hB0 hT.1)
  unfold shV at K1 ⊢
  go_enter Tryd.func6, Tryd.ntmps6
  go_wp2_with (first | (go_at_call 12; refine K1.mono ?_; clear K1; rintro r w1 ⟨v1, rfl, hB⟩))
  go_ret
  exact ⟨rfl, hB0.trans (hB.mono hB0.size)⟩
end Go.Proofs.YtkpcmfgeanlcnaaDoor
