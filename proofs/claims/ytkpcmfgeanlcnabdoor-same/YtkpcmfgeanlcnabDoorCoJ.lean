/-
  In company: bytes multiplied and inverted.
-/
import Derived.Test.YtkpcmfgeanlcnabDoorCoB
import Derived.Test.YtkpcmfgeanlcnabDoorCoV
import Derived.Test.YtkpcmfgeanlcnabDoorRowW
namespace Go.Proofs.YtkpcmfgeanlcnabDoor
open Go.Conc Go.RowKit Go.Gh
open Go.ConcR (Payload)

section
variable {main : Bool} {R : World → World → Prop} {D : World → World → Array Event → Prop}
def MI (R : World → World → Prop) (w0 : World) (m : Nat) (a : Act) (w : World) : Prop := ∃ (k p x y : Nat) (v2 v3 v4 v7 v8 v9 v10 v11 v12 v13 v14 v15 v16 v17 v18 v19 : Value), k ≤ 8 ∧ p < 256 ∧ x < 256 ∧ y < 256 ∧ Hid (mulN (8 - k) p x y = m) ∧ Since R w0 w ∧ a = ⟨#[.int .u8 ((x : Nat) : Int), .int .u8 ((y : Nat) : Int), v2, v3, v4, .int .u8 ((p : Nat) : Int), .int .i64 ((k : Nat) : Int), v7, v8, v9, v10, v11, v12, v13, v14, v15, v16, v17, v18, v19], []⟩
def muM (a : Act) (_ : World) : Nat := 8 - (intOf (a.tmps.getD 6 undef)).toNat
set_option maxRecDepth 100000 in
set_option maxHeartbeats 1000000 in
theorem mul_c (T : Terms R D) : ∃ n, ∀ (a b : Nat) (w : World), a < 256 → b < 256 → CallsC Tryd.prog main R D 70 #[.int .u8 (a : Int), .int .u8 (b : Int)] n w fun v w' => v = .int .u8 (mul a b : Nat) ∧ Since R w w' := by
  obtain ⟨kx, hx⟩ := timesX_c (main := main) T
  co_apply Exists.intro
  intro a b w ha hb
  co_apply callsC_of_wpC Tryd.func70 (by rfl) rfl
  have hF : Since R w w := .refl w
  simp only [Tryd.ntmps70, List.size_toArray, List.length_cons, List.length_nil, Nat.reduceAdd, Nat.reduceSub, Array.replicate_succ, Array.replicate_zero, List.push_toArray, List.append_toArray, List.nil_append, List.cons_append]
  co_go T (Since.rely T) hF (co_quiet T)
  co_apply wpC_loop T (MI R w (mul a b)) muM _ 8
  · exact ⟨0, 0, a, b, _, _, _, _, _, _, _, _, _, _, _, _, _, _, _, _, by omega, by omega, ha, hb, rfl, hF, rfl⟩
  · simp [muM]
  · rintro act w' ⟨k, p, x, y, v2, v3, v4, v7, v8, v9, v10, v11, v12, v13, v14, v15, v16, v17, v18, v19, hk, hp, hx', hy, H, hF, rfl⟩
    co_go T (Since.rely T) hF (co_quiet T)
    co_split T (decide (((k : Nat) : Int) < 8))
    · intro hlt
      have hlt' : k < 8 := by have := of_decide_eq_true hlt; omega
      clear hlt
      have hand := u8_and1 y hy
      have G := mulN_step hlt' H.out
      clear H
      co_ctl T
      co_then
      co_ctl T
      co_ctl T
      co_apply wpC_seq_mid T (fun a' w' => ∃ (p' : Nat) (v8 v9 v10 v11 v12 v13 : Value), p' < 256 ∧ p' = (if y % 2 = 1 then p ^^^ x else p) ∧ Since R w w' ∧ a' = ⟨#[.int .u8 ((x : Nat) : Int), .int .u8 ((y : Nat) : Int), v2, v3, v4, .int .u8 ((p' : Nat) : Int), .int .i64 ((k : Nat) : Int), .bool (decide (((k : Nat) : Int) < 8)), v8, v9, v10, v11, v12, v13, v14, v15, v16, v17, v18, v19], []⟩)
      · co_go T (Since.rely T) hF (co_quiet T)
        co_split T (((y : Nat) : Int) % 2 == 1)
        · intro h1
          have h2 : y % 2 = 1 := by simp at h1; omega
          clear h1
          co_go T (Since.rely T) hF (co_quiet T)
          rw [u8_xor_b hp hx']
          exact ⟨p ^^^ x, _, _, _, _, _, _, xor_lt hp hx', by rw [if_pos h2], hF, rfl⟩
        · intro h1
          have h2 : ¬ y % 2 = 1 := by simp at h1; omega
          clear h1
          co_go T (Since.rely T) hF (co_quiet T)
          exact ⟨p, _, _, _, _, _, _, hp, by rw [if_neg h2], hF, rfl⟩
      · clear hF
        rintro a' w' ⟨p', v8, v9, v10, v11, v12, v13, hp', hpe, hF, rfl⟩
        rw [← hpe] at G
        clear hpe
        co_go T (Since.rely T) hF (co_quiet T)
        co_apply opsC_call T rfl (by rfl) rfl
        · walk_nrm
          exact hx _ _ hx'
        rintro v w' ⟨rfl, hs⟩
        replace hF : Since R w w' := hs.elim (fun e => e ▸ hF) (fun r => Since.rely T hF r)
        clear hs
        walk_nrm
        co_go T (Since.rely T) hF (co_quiet T)
        have e1 : ((y : Nat) : Int) / 2 = ((y / 2 : Nat) : Int) := by omega
        have e2 : IntKind.i64.wrap (((k : Nat) : Int) + 1) = ((k + 1 : Nat) : Int) := by rw [IntKind.wrap_i64]; omega
        simp only [e1, e2]
        refine ⟨⟨k + 1, p', tx x, y / 2, _, _, _, _, _, _, _, _, _, _, _, _, _, _, _, _, by omega, hp', tx_lt hx', by omega, G, hF, rfl⟩, ?_⟩
        simp [muM, intOf]
        omega
    · intro hlt
      obtain rfl : k = 8 := by have := of_decide_eq_false hlt; omega
      clear hlt
      co_go T (Since.rely T) hF (co_quiet T)
      refine ⟨rfl, _, resultsC_tmp (by rfl) _, ?_, hF⟩
      have G : p = mul a b := H.out
      simp [G]

def II (R : World → World → Prop) (w0 : World) (m : Nat) (a : Act) (w : World) : Prop := ∃ (k p x : Nat) (v0 v1 v2 v5 v7 v8 v9 v10 v11 v12 v13 v14 v15 : Value), k ≤ 7 ∧ p < 256 ∧ x < 256 ∧ Hid (invN (7 - k) p x = m) ∧ Since R w0 w ∧ a = ⟨#[v0, v1, v2, .int .u8 ((p : Nat) : Int), .int .u8 ((x : Nat) : Int), v5, .int .i64 ((k : Nat) : Int), v7, v8, v9, v10, v11, v12, v13, v14, v15], []⟩
def muI7 (a : Act) (_ : World) : Nat := 7 - (intOf (a.tmps.getD 6 undef)).toNat
set_option maxRecDepth 100000 in
set_option maxHeartbeats 1000000 in
theorem inv_c (T : Terms R D) : ∃ n, ∀ (a : Nat) (w : World), a < 256 → CallsC Tryd.prog main R D 58 #[.int .u8 (a : Int)] n w fun v w' => v = .int .u8 (inv a : Nat) ∧ Since R w w' := by
  obtain ⟨kx, hx⟩ := mul_c (main := main) T
  co_apply Exists.intro
  intro a w ha
  co_apply callsC_of_wpC Tryd.func58 (by rfl) rfl
  have hF : Since R w w := .refl w
  simp only [Tryd.ntmps58, List.size_toArray, List.length_cons, List.length_nil, Nat.reduceAdd, Nat.reduceSub, Array.replicate_succ, Array.replicate_zero, List.push_toArray, List.append_toArray, List.nil_append, List.cons_append]
  co_go T (Since.rely T) hF (co_quiet T)
  co_apply wpC_loop T (II R w (inv a)) muI7 _ 7
  · exact ⟨0, a, 1, _, _, _, _, _, _, _, _, _, _, _, _, _, by omega, ha, by omega, rfl, hF, rfl⟩
  · simp [muI7]
  · rintro act w' ⟨k, p, x, v0, v1, v2, v5, v7, v8, v9, v10, v11, v12, v13, v14, v15, hk, hp, hx', H, hF, rfl⟩
    co_go T (Since.rely T) hF (co_quiet T)
    co_split T (decide (((k : Nat) : Int) < 7))
    · intro hlt
      have hlt' : k < 7 := by have := of_decide_eq_true hlt; omega
      clear hlt
      have hpp : mul p p < 256 := mul_lt hp
      co_go T (Since.rely T) hF (co_quiet T)
      co_apply opsC_call T rfl (by rfl) rfl
      · walk_nrm
        exact hx _ _ _ hp hp
      rintro v w' ⟨rfl, hs⟩
      replace hF : Since R w w' := hs.elim (fun e => e ▸ hF) (fun r => Since.rely T hF r)
      clear hs
      walk_nrm
      co_go T (Since.rely T) hF (co_quiet T)
      co_apply opsC_call T rfl (by rfl) rfl
      · walk_nrm
        exact hx _ _ _ hx' hpp
      rintro v w' ⟨rfl, hs⟩
      replace hF : Since R w w' := hs.elim (fun e => e ▸ hF) (fun r => Since.rely T hF r)
      clear hs
      walk_nrm
      co_go T (Since.rely T) hF (co_quiet T)
      have e2 : IntKind.i64.wrap (((k : Nat) : Int) + 1) = ((k + 1 : Nat) : Int) := by rw [IntKind.wrap_i64]; omega
      simp only [e2]
      refine ⟨⟨k + 1, mul p p, mul x (mul p p), _, _, _, _, _, _, _, _, _, _, _, _, _, by omega, hpp, mul_lt hx', invN_step hlt' H.out, hF, rfl⟩, ?_⟩
      simp [muI7, intOf]
      omega
    · intro hlt
      obtain rfl : k = 7 := by have := of_decide_eq_false hlt; omega
      clear hlt
      co_go T (Since.rely T) hF (co_quiet T)
      refine ⟨rfl, _, resultsC_tmp (by rfl) _, ?_, hF⟩
      have G : x = inv a := H.out
      simp [G]
end
end Go.Proofs.YtkpcmfgeanlcnabDoor

/-
  In company: a row of the code.
-/
namespace Go.Proofs.YtkpcmfgeanlcnabDoor
open Go.Conc Go.RowKit Go.Gh
open Go.ConcR (Payload)

def rowL (k i c : Nat) : List Nat := (List.range k).map fun j => if j < c then rowV k i j else 0
theorem rowL_zero (k i : Nat) : rowL k i 0 = List.replicate k 0 := by
  unfold rowL
  apply List.ext_getElem?
  intro j
  by_cases h : j < k <;> simp [h]
theorem rowL_set (k i c : Nat) (hc : c < k) : (rowL k i c).set c (rowV k i c) = rowL k i (c + 1) := by
  unfold rowL
  apply List.ext_getElem?
  intro j
  rw [List.getElem?_set]
  by_cases h : c = j
  · subst h
    simp [hc]
  · rw [if_neg h]
    by_cases hj : j < k
    · simp only [List.getElem?_map, List.getElem?_range hj, Option.map_some]
      by_cases h1 : j < c
      · rw [if_pos h1, if_pos (by omega)]
      · rw [if_neg h1, if_neg (by omega)]
    · simp [hj]
theorem rowL_end (k i : Nat) : rowL k i k = (List.range k).map (rowV k i) := by
  unfold rowL
  exact List.map_congr_left fun j hj => by rw [if_pos (by simpa using hj)]
theorem rowL_unit (k i : Nat) (hi : i < k) : (List.replicate k 0).set i 1 = (List.range k).map (rowV k i) := by
  apply List.ext_getElem?
  intro j
  rw [List.getElem?_set]
  by_cases h : i = j
  · subst h
    simp [hi, rowV]
  · rw [if_neg h]
    by_cases hj : j < k
    · simp [hj, rowV, hi, Ne.symm h]
    · simp [hj]

section
variable [Payload] [OldG] {main : Bool} {Wg C n B : Nat} {Cl : Nat → Prop}
omit [OldG] in
theorem CG.set {w0 w : World} (h0 : Bs C B w0) {N : Nat} {cur : List Nat} (h : CG Wg C n B Cl w0 N cur w) (i x : Nat) : CG Wg C n B Cl w0 N (cur.set i x) (w.setCell ⟨N, i, none⟩ (.int .u8 ((x : Nat) : Int))) :=
  ⟨h.bs.set _ _, ex_fresh h.ex h0 h.lo _, h.lo, mine_grow (w := w) (w' := w.setCell _ _) rfl (by rw [sz_set]; omega) h.mn, by rw [heap_set w h.hx, bytesA_set]⟩
omit [Payload] [OldG] in
theorem make_c (k : Nat) (hk : k ≤ 128) : (∀ w : World, (Instr.makeSlice 29 (.int .i64 (k : Int)) (.int .i64 (k : Int))).run Tryd.prog w = .ok (.slice (some ⟨w.heap.size, 0, none⟩) k k) (w.alloc (.cells (madeCells #[.int .u8 0] k) 5))) ∧ ∀ (w : World) (es : Array Event), (Instr.makeSlice 29 (.int .i64 (k : Int)) (.int .i64 (k : Int))).events Tryd.prog w es = es := by
  obtain ⟨i0, hi, hz0, hz1, hz2⟩ := info_parts info_u8
  refine ⟨fun w => ?_, fun w es => ?_⟩
  · have := run_make (P := Tryd.prog) w 29 5 i0 (.int .u8 0) Tryd.underlying29 hi hz0 .i64 .i64 (k : Int) (k : Int) (by omega) (by omega) (by rw [hz2]; omega) (by omega)
    rw [hz1, show (Value.int .u8 0).cells = #[.int .u8 0] from rfl] at this
    simpa using this
  · exact events_make (P := Tryd.prog) w 29 5 i0 (.int .u8 0) Tryd.underlying29 hi hz0 .i64 .i64 (k : Int) (k : Int) (by omega) (by omega) (by rw [hz2]; omega) (by omega) (by rw [hz2]; simp; omega) es

set_option maxRecDepth 100000 in
set_option maxHeartbeats 2000000 in
theorem unitRow_c (k i : Nat) (hk : k ≤ 128) (hi : i < k) : ∃ q, ∀ (w : World), Bs C B w →
    CallsC Tryd.prog main (Ro Wg C n B Cl) (Dg Wg C n B Cl) 57 #[.int .i64 ((k : Nat) : Int), .int .i64 ((i : Nat) : Int)] q w fun v w' => ∃ N, v = .slice (some ⟨N, 0, none⟩) k k ∧ CG Wg C n B Cl w N ((List.range k).map (rowV k i)) w' := by
  obtain ⟨hmk, hme⟩ := make_c k hk
  have hiI : (i : Int) < (k : Int) := by omega
  co_apply Exists.intro
  intro w hb
  co_apply callsC_of_wpC Tryd.func57 (by rfl) rfl
  simp only [Tryd.ntmps57, List.size_toArray, List.length_cons, List.length_nil, Nat.reduceAdd, Nat.reduceSub, Array.replicate_succ, Array.replicate_zero, List.push_toArray, List.append_toArray, List.nil_append, List.cons_append]
  have hF : CF Wg C n B Cl w w := ⟨hb, .refl w⟩
  co_apply wpC_seq termsG
  co_reg termsG
  co_op CF.rely hF (co_quiet termsG)
  co_apply opsC_nil termsG
  co_then
  co_apply wpC_seq termsG
  co_reg termsG
  co_op CF.rely hF (co_quiet termsG)
  co_opw CF.rely hF (skip) (rw [listed_nil (by simp [go_sem, *])]; exact dg_alloc hF.bs.hC _ rfl)
  replace hF := hF.alloc k
  generalize hN : Array.size (World.heap _) = N at hF ⊢
  clear hN
  co_op CG.rely hF (co_quiet termsG)
  co_apply opsC_nil termsG
  co_then
  co_apply wpC_seq termsG
  co_reg termsG
  co_op CG.rely hF (co_quiet termsG)
  co_op CG.rely hF (co_quiet termsG)
  co_opw CG.rely hF (skip) (co_still termsG)
  have hNC : N ≠ C := by have := hF.lo; have := hb.hC; omega
  have hu : ∀ {w : World} (h : w.heap[N]? = some (.cells (bytesA (List.replicate k 0)) 5)), w.cell? ⟨N, i, none⟩ = some (.int .u8 0) ∧ w.frozen? ⟨N, i, none⟩ = false := fun h => ⟨by rw [cell_of _ h, bytesA_get]; simp [hi], thaw_of _ h i⟩
  co_opw CG.rely hF (have hc := (hu hF.hx).1; have hz := (hu hF.hx).2) (refine dg_set hF.mn hNC (hF.bs.lt hF.mn) ?_; co_evs (exact ⟨_, _, rfl, rfl⟩))
  replace hF := hF.set hb i 1
  rw [rowL_unit k i hi] at hF
  clear hc hz
  co_apply opsC_nil termsG
  co_then
  co_apply wpC_seq termsG
  co_reg termsG
  co_op CG.rely hF (co_quiet termsG)
  co_op CG.rely hF (co_quiet termsG)
  co_apply opsC_nil termsG
  co_then
  co_apply wpC_ret termsG
  exact ⟨rfl, _, resultsC_tmp (by rfl) _, N, rfl, hF⟩

def RI (Wg C n B : Nat) (Cl : Nat → Prop) (w0 : World) (k i N : Nat) (a : Act) (w : World) : Prop :=
  ∃ (j : Nat) (v2 v3 v4 v6 v7 v8 v9 v10 v11 v12 v13 v14 v15 v18 v19 v20 v21 v22 v23 v24 v25 v26 v27 v28 v29 : Value), j ≤ k ∧ CG Wg C n B Cl w0 N (rowL k i j) w ∧ a = ⟨#[.int .i64 ((k : Nat) : Int), .int .i64 ((i : Nat) : Int), v2, v3, v4, .slice (some ⟨N, 0, none⟩) k k, v6, v7, v8, v9, v10, v11, v12, v13, v14, v15, .int .i64 ((k : Nat) : Int), .int .i64 ((j : Nat) : Int), v18, v19, v20, v21, v22, v23, v24, v25, v26, v27, v28, v29], []⟩
def muR (k : Nat) (a : Act) (_ : World) : Nat := k - (intOf (a.tmps.getD 17 undef)).toNat

set_option maxRecDepth 100000 in
set_option maxHeartbeats 2000000 in
theorem row_c (k i : Nat) (hk : k ≤ 128) (hi : i < 128) : ∃ q, ∀ (w : World), Bs C B w →
    CallsC Tryd.prog main (Ro Wg C n B Cl) (Dg Wg C n B Cl) 35 #[.int .i64 ((k : Nat) : Int), .int .i64 ((i : Nat) : Int)] q w fun v w' => ∃ N, v = .slice (some ⟨N, 0, none⟩) k k ∧ CG Wg C n B Cl w N ((List.range k).map (rowV k i)) w' := by
  obtain ⟨hmk, hme⟩ := make_c k hk
  by_cases hik : i < k
  · obtain ⟨qu, hu⟩ := unitRow_c (main := main) (Wg := Wg) (C := C) (n := n) (B := B) (Cl := Cl) k i hk hik
    have hiI : (i : Int) < (k : Int) := by omega
    co_apply Exists.intro
    intro w hb
    co_apply callsC_of_wpC Tryd.func35 (by rfl) rfl
    simp only [Tryd.ntmps35, List.size_toArray, List.length_cons, List.length_nil, Nat.reduceAdd, Nat.reduceSub, Array.replicate_succ, Array.replicate_zero, List.push_toArray, List.append_toArray, List.nil_append, List.cons_append]
    have hF : CF Wg C n B Cl w w := ⟨hb, .refl w⟩
    co_apply wpC_seq termsG
    co_reg termsG
    co_op CF.rely hF (co_quiet termsG)
    co_apply opsC_nil termsG
    co_then
    co_apply wpC_seq termsG (n₂ := 0)
    co_apply wpC_seq termsG
    co_reg termsG
    co_op CF.rely hF (co_quiet termsG)
    co_op CF.rely hF (co_quiet termsG)
    co_op CF.rely hF (co_quiet termsG)
    co_apply opsC_nil termsG
    co_then
    co_apply wpC_cond termsG (t := true)
    focus (simp [Act.eval])
    simp only [if_true]
    co_go termsG CF.rely hF (co_quiet termsG)
    co_apply opsC_call termsG rfl (by rfl) rfl
    · walk_nrm
      exact hu _ hF.bs
    rintro v w' ⟨N, rfl, hg⟩
    replace hF : CG Wg C n B Cl w N ((List.range k).map (rowV k i)) w' := ⟨hg.bs, hF.ex.trans hg.ex, Nat.le_trans hF.ex.size hg.lo, hg.mn, hg.hx⟩
    clear hg
    walk_nrm
    co_go termsG CG.rely hF (co_quiet termsG)
    exact ⟨rfl, _, resultsC_tmp (by rfl) _, N, rfl, hF⟩
  · obtain ⟨qi, hv⟩ := inv_c (main := main) (termsG (Wg := Wg) (C := C) (n := n) (B := B) (Cl := Cl))
    have hiI : ¬ ((i : Int) < (k : Int)) := by omega
    co_apply Exists.intro
    intro w hb
    co_apply callsC_of_wpC Tryd.func35 (by rfl) rfl
    simp only [Tryd.ntmps35, List.size_toArray, List.length_cons, List.length_nil, Nat.reduceAdd, Nat.reduceSub, Array.replicate_succ, Array.replicate_zero, List.push_toArray, List.append_toArray, List.nil_append, List.cons_append]
    have hF : CF Wg C n B Cl w w := ⟨hb, .refl w⟩
    co_apply wpC_seq termsG
    co_reg termsG
    co_op CF.rely hF (co_quiet termsG)
    co_apply opsC_nil termsG
    co_then
    co_apply wpC_seq termsG
    co_apply wpC_seq termsG
    co_reg termsG
    co_op CF.rely hF (co_quiet termsG)
    co_op CF.rely hF (co_quiet termsG)
    co_op CF.rely hF (co_quiet termsG)
    co_apply opsC_nil termsG
    co_then
    co_apply wpC_cond termsG (t := false)
    focus (simp [Act.eval])
    simp only [Bool.false_eq_true, if_false]
    co_apply wpC_skip termsG
    co_then
    co_apply wpC_seq termsG
    co_reg termsG
    co_op CF.rely hF (co_quiet termsG)
    co_opw CF.rely hF (skip) (rw [listed_nil (by simp [go_sem, *])]; exact dg_alloc hF.bs.hC _ rfl)
    replace hF := hF.alloc k
    rw [← rowL_zero k i] at hF
    generalize hN : Array.size (World.heap _) = N at hF ⊢
    clear hN
    have hNC : N ≠ C := by have := hF.lo; have := hb.hC; omega
    co_op CG.rely hF (co_quiet termsG)
    co_apply opsC_nil termsG
    co_then
    co_apply wpC_seq termsG
    co_apply wpC_seq termsG
    co_reg termsG
    co_op CG.rely hF (co_quiet termsG)
    co_op CG.rely hF (co_quiet termsG)
    co_op CG.rely hF (co_quiet termsG)
    co_apply opsC_nil termsG
    co_then
    co_apply wpC_block termsG
    co_apply wpC_loop termsG (RI Wg C n B Cl w k i N) (muR k) _ k
    · exact ⟨0, _, _, _, _, _, _, _, _, _, _, _, _, _, _, _, _, _, _, _, _, _, _, _, _, _, Nat.zero_le _, hF, rfl⟩
    · simp [muR]
    rintro a w' ⟨j, v2, v3, v4, v6, v7, v8, v9, v10, v11, v12, v13, v14, v15, v18, v19, v20, v21, v22, v23, v24, v25, v26, v27, v28, v29, hj, hF, rfl⟩
    co_apply wpC_seq termsG
    co_reg termsG
    co_op CG.rely hF (co_quiet termsG)
    co_apply opsC_nil termsG
    co_then
    co_apply wpC_seq termsG
    co_split termsG (decide ((j : Int) < (k : Int)))
    · intro hjl
      have hjl' : j < k := by have := of_decide_eq_true hjl; omega
      have hjI : (j : Int) < (k : Int) := by omega
      clear hjl
      have hx128 : i ^^^ j < 128 := xor_lt128 hi (by omega)
      have hxr : bits .xor .i64 ((i : Nat) : Int) ((j : Nat) : Int) = ((i ^^^ j : Nat) : Int) := i64_xor_nat _ _ (by omega) (by omega)
      have hcv : IntKind.u8.wrap (((i ^^^ j : Nat) : Int)) = ((i ^^^ j : Nat) : Int) := by rw [IntKind.wrap_u8]; omega
      have hrv : rowV k i j = inv (i ^^^ j) := by unfold rowV; rw [if_neg hik, Nat.mod_eq_of_lt (by omega)]
      co_ctl termsG
      co_then
      co_ctl termsG
      co_ctl termsG
      co_ctl termsG
      co_reg termsG
      co_op CG.rely hF (co_quiet termsG)
      co_op CG.rely hF (co_quiet termsG)
      co_apply opsC_nil termsG
      co_then
      co_reg termsG
      co_op CG.rely hF (co_quiet termsG)
      co_op CG.rely hF (co_quiet termsG)
      co_op CG.rely hF (co_quiet termsG)
      co_op CG.rely hF (co_quiet termsG)
      co_op CG.rely hF (co_quiet termsG)
      have hce : ∀ (w : World) (es : Array Event), (convert 3 5 (.int .i64 ((i ^^^ j : Nat) : Int))).events Tryd.prog w es = es := fun w es => by simp [convert, Conv.intToInt, go_sem, Tryd.runUnderlying3, Tryd.runUnderlying5]
      co_opw CG.rely hF (skip) (co_still termsG)
      clear hce
      co_apply opsC_call termsG rfl (by rfl) rfl
      · walk_nrm
        exact hv _ _ (show i ^^^ j < 256 by omega)
      rintro v w' ⟨rfl, hs⟩
      replace hF : CG Wg C n B Cl w N (rowL k i j) w' := hs.elim (fun e => e ▸ hF) (fun r => hF.rely r)
      clear hs
      walk_nrm
      co_opw CG.rely hF (skip) (co_still termsG)
      have hcl : ∀ {w : World} (h : w.heap[N]? = some (.cells (bytesA (rowL k i j)) 5)), w.cell? ⟨N, j, none⟩ = some (.int .u8 0) ∧ w.frozen? ⟨N, j, none⟩ = false := fun h => ⟨by rw [cell_of _ h, bytesA_get]; simp [rowL, hjl'], thaw_of _ h j⟩
      co_opw CG.rely hF (have hc := (hcl hF.hx).1; have hz := (hcl hF.hx).2) (refine dg_set hF.mn hNC (hF.bs.lt hF.mn) ?_; co_evs (exact ⟨_, _, rfl, rfl⟩))
      replace hF := hF.set hb j (inv (i ^^^ j))
      rw [show (rowL k i j).set j (inv (i ^^^ j)) = rowL k i (j + 1) from by rw [← hrv, rowL_set k i j hjl']] at hF
      clear hc hz
      co_apply opsC_nil termsG
      co_then
      co_reg termsG
      co_op CG.rely hF (co_quiet termsG)
      co_op CG.rely hF (co_quiet termsG)
      co_apply opsC_nil termsG
      co_then
      have hw1 : IntKind.i64.wrap ((j : Int) + 1) = ((j + 1 : Nat) : Int) := by rw [IntKind.wrap_i64]; omega
      simp only [hw1]
      refine ⟨⟨j + 1, _, _, _, _, _, _, _, _, _, _, _, _, _, _, _, _, _, _, _, _, _, _, _, _, _, by omega, hF, rfl⟩, ?_⟩
      simp [muR, intOf]
      omega
    · intro hjl
      obtain rfl : j = k := by have := of_decide_eq_false hjl; omega
      clear hjl
      rw [rowL_end] at hF
      co_go termsG CG.rely hF (co_quiet termsG)
      exact ⟨rfl, _, resultsC_tmp (by rfl) _, N, rfl, hF⟩
end
end Go.Proofs.YtkpcmfgeanlcnabDoor
