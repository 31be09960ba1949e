/-
  How the program reads a shard: a piece (read).
-/
import Derived.Test.YtkpcmfgeanlcnaaDoorPrQ
namespace Go.Proofs.YtkpcmfgeanlcnaaDoor
open Go.RowKit Go.Deep

/-- What a piece that is read asks of what has been read. -/
structure Fit (s : St) : Prop where
  bd : Bd s
  nx : s.nx ≤ 3
  k : s.nx ≠ 0 → 1 ≤ s.k ∧ s.k ≤ 128 ∧ s.i ≤ 128 ∧ 4 ≤ s.m
  tt : 2 ≤ s.nx → s.tt ≤ 65536
theorem chain_wrap {w w' w'' : World} {S : Nat → Prop} (h : But w.heap.size S w w') (hb : Below w'.heap.size w' w'') : But w.heap.size S w w'' := h.trans (.of_below (hb.mono h.size))
section
variable (B rb : Nat) (s : St) (t : List UInt8) (vN vS vC vT : Value) (hF : Fit s) (ht : t.length ≤ s.sz) (w : World) (I : RI B w rb s t vN vS vC vT) (hTab : Tab w) (hPow : Pow w) (h16 : 4 ≤ w.heap.size)
set_option maxHeartbeats 4000000 in
set_option maxRecDepth 100000 in
include hF ht I hTab hPow h16 in
theorem rread_any : Calls Tryd.prog 102 #[.pointer (some ⟨rb, 0, none⟩)] w fun q w' => ReadOut B w rb s t vN vS vC vT (readP s t) 2 q w' := by
  have hb := hF.bd
  have c10 := RowAt.cell I.rd (i := 10) rfl
  simp only [St.rd] at c10
  have hnx := hF.nx
  have hfk := hF.k
  have hft := hF.tt
  have h4 : s.nx = 0 ∨ s.nx = 1 ∨ s.nx = 2 ∨ s.nx = 3 := by omega
  rcases h4 with e0 | e0 | e0 | e0
  · have K := readHead_any B rb s t vN vS vC vT hb ht w I hTab e0
    have HP : Hid (readP s t = headP s t) := by show _ = _; unfold readP; rw [if_pos e0]
    rw [HP.out]
    rw [e0] at c10
    clear hfk hft hnx e0 HP
    cases hR : headP s t with
    | error e =>
      unfold ReadOut at K
      rw [hR] at K
      simp only at K
      clear hR
      go_enter Tryd.func102, Tryd.ntmps102
      go_wp2_with (first | (go_at_call 135; refine K.mono ?_; rintro q w2 ⟨g1, ⟨v, d, hd, rfl, g2⟩, ⟨r', g3⟩, g4⟩) | (go_at_call 104; refine (within_any _ d _ _ _ _ (by exact g2)).mono ?_; rintro q w3 ⟨v3, rfl, g5, g6⟩))
      go_ret
      exact ⟨chain_wrap g1 g6, ⟨_, d + 1, by omega, rfl, g5⟩, ⟨_, RowAt.later g3 (S := fun _ => False) (.of_below g6) (RowAt.lt g3) id⟩, fun h => (g4 h).below g6⟩
    | ok s' =>
      unfold ReadOut at K
      rw [hR] at K
      simp only at K
      clear hR
      go_enter Tryd.func102, Tryd.ntmps102
      go_wp2_with (first | (go_at_call 135; refine K.mono ?_; rintro q w2 ⟨g1, rfl, g2⟩) | (go_at_call 104; refine (within_nil _ _).mono ?_; rintro q w3 ⟨rfl, hw3⟩; obtain rfl := hw3.symm))
      go_ret
      exact ⟨g1, rfl, g2⟩
  · have K := readManifest_any B rb s t vN vS vC vT hb ht w I hTab hPow h16 e0 (hfk (by omega)).1 (hfk (by omega)).2.1 (hfk (by omega)).2.2.2
    have HP : Hid (readP s t = manP s t) := by show _ = _; unfold readP; rw [if_neg (by omega), if_pos e0]
    rw [HP.out]
    rw [e0] at c10
    clear hfk hft hnx e0 HP
    cases hR : manP s t with
    | error e =>
      unfold ReadOut at K
      rw [hR] at K
      simp only at K
      clear hR
      go_enter Tryd.func102, Tryd.ntmps102
      go_wp2_with (first | (go_at_call 136; refine K.mono ?_; rintro q w2 ⟨g1, ⟨v, d, hd, rfl, g2⟩, ⟨r', g3⟩, g4⟩) | (go_at_call 104; refine (within_any _ d _ _ _ _ (by exact g2)).mono ?_; rintro q w3 ⟨v3, rfl, g5, g6⟩))
      go_ret
      exact ⟨chain_wrap g1 g6, ⟨_, d + 1, by omega, rfl, g5⟩, ⟨_, RowAt.later g3 (S := fun _ => False) (.of_below g6) (RowAt.lt g3) id⟩, fun h => (g4 h).below g6⟩
    | ok s' =>
      unfold ReadOut at K
      rw [hR] at K
      simp only at K
      clear hR
      go_enter Tryd.func102, Tryd.ntmps102
      go_wp2_with (first | (go_at_call 136; refine K.mono ?_; rintro q w2 ⟨g1, rfl, g2⟩) | (go_at_call 104; refine (within_nil _ _).mono ?_; rintro q w3 ⟨rfl, hw3⟩; obtain rfl := hw3.symm))
      go_ret
      exact ⟨g1, rfl, g2⟩
  · have K := readFrame_any B rb s t vN vS vC vT hb ht w I hTab e0 (hfk (by omega)).1 (hfk (by omega)).2.1 (hfk (by omega)).2.2.1 (hft (by omega))
    have HP : Hid (readP s t = frameP s t) := by show _ = _; unfold readP; rw [if_neg (by omega), if_neg (by omega), if_pos e0]
    rw [HP.out]
    rw [e0] at c10
    clear hfk hft hnx e0 HP
    cases hR : frameP s t with
    | error e =>
      unfold ReadOut at K
      rw [hR] at K
      simp only at K
      clear hR
      go_enter Tryd.func102, Tryd.ntmps102
      go_wp2_with (first | (go_at_call 137; refine K.mono ?_; rintro q w2 ⟨g1, ⟨v, d, hd, rfl, g2⟩, ⟨r', g3⟩, g4⟩) | (go_at_call 104; refine (within_any _ d _ _ _ _ (by exact g2)).mono ?_; rintro q w3 ⟨v3, rfl, g5, g6⟩))
      go_ret
      exact ⟨chain_wrap g1 g6, ⟨_, d + 1, by omega, rfl, g5⟩, ⟨_, RowAt.later g3 (S := fun _ => False) (.of_below g6) (RowAt.lt g3) id⟩, fun h => (g4 h).below g6⟩
    | ok s' =>
      unfold ReadOut at K
      rw [hR] at K
      simp only at K
      clear hR
      go_enter Tryd.func102, Tryd.ntmps102
      go_wp2_with (first | (go_at_call 137; refine K.mono ?_; rintro q w2 ⟨g1, rfl, g2⟩) | (go_at_call 104; refine (within_nil _ _).mono ?_; rintro q w3 ⟨rfl, hw3⟩; obtain rfl := hw3.symm))
      go_ret
      exact ⟨g1, rfl, g2⟩
  · have K := readTail_any B rb s t vN vS vC vT hb ht w I e0
    have HP : Hid (readP s t = tailP s t) := by show _ = _; unfold readP; rw [if_neg (by omega), if_neg (by omega), if_neg (by omega)]
    rw [HP.out]
    rw [e0] at c10
    clear hfk hft hnx e0 HP
    cases hR : tailP s t with
    | error e =>
      unfold ReadOut at K
      rw [hR] at K
      simp only at K
      clear hR
      go_enter Tryd.func102, Tryd.ntmps102
      go_wp2_with (first | (go_at_call 138; refine K.mono ?_; rintro q w2 ⟨g1, ⟨v, d, hd, rfl, g2⟩, ⟨r', g3⟩, g4⟩) | (go_at_call 104; refine (within_any _ d _ _ _ _ (by exact g2)).mono ?_; rintro q w3 ⟨v3, rfl, g5, g6⟩))
      go_ret
      exact ⟨chain_wrap g1 g6, ⟨_, d + 1, by omega, rfl, g5⟩, ⟨_, RowAt.later g3 (S := fun _ => False) (.of_below g6) (RowAt.lt g3) id⟩, fun h => (g4 h).below g6⟩
    | ok s' =>
      unfold ReadOut at K
      rw [hR] at K
      simp only at K
      clear hR
      go_enter Tryd.func102, Tryd.ntmps102
      go_wp2_with (first | (go_at_call 138; refine K.mono ?_; rintro q w2 ⟨g1, rfl, g2⟩) | (go_at_call 104; refine (within_nil _ _).mono ?_; rintro q w3 ⟨rfl, hw3⟩; obtain rfl := hw3.symm))
      go_ret
      exact ⟨g1, rfl, g2⟩
end
end Go.Proofs.YtkpcmfgeanlcnaaDoor
