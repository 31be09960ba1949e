/-
  In company: the table of products.
-/
import Derived.Test.YtkpcmfgeanlcnabDoorCoB
namespace Go.Proofs.YtkpcmfgeanlcnabDoor
open Go.Conc Go.RowKit Go.Gh
open Go.ConcR (Payload)

section
variable [Payload] [OldG] {main : Bool} {Wg C n B : Nat} {Cl : Nat → Prop}

structure P0 (Wg C n B : Nat) (Cl : Nat → Prop) (w0 w : World) : Prop where
  bs : Bs C B w
  ex : Ex Wg C n B Cl (fun _ => False) w0 w
omit [OldG] in
theorem P0.rely {w0 w w₁ : World} (h : P0 Wg C n B Cl w0 w) (r : Ro Wg C n B Cl w w₁) : P0 Wg C n B Cl w0 w₁ := ⟨h.bs.rely r, h.ex.rely r⟩
structure P1 (Wg C n B : Nat) (Cl : Nat → Prop) (w0 : World) (N2 : Nat) (w : World) : Prop where
  bs : Bs C B w
  ex : Ex Wg C n B Cl (fun _ => False) w0 w
  lo2 : w0.heap.size ≤ N2
  m2 : Mine w N2
  h2 : w.heap[N2]? = some (.cells Tryd.zeroCells115 115)
omit [OldG] in
theorem P1.rely {w0 w w₁ : World} {N2 : Nat} (h : P1 Wg C n B Cl w0 N2 w) (r : Ro Wg C n B Cl w w₁) : P1 Wg C n B Cl w0 N2 w₁ := ⟨h.bs.rely r, h.ex.rely r, h.lo2, (r.mineAt _).2 h.m2, (r.mine _ h.m2).trans h.h2⟩
omit [Payload] [OldG] in
theorem heap_new (w : World) (o : Obj) : (w.alloc o).heap[w.heap.size]? = some o := by show (w.heap.push o)[w.heap.size]? = some o; simp
omit [OldG] in
theorem P0.alloc {w0 w : World} (h : P0 Wg C n B Cl w0 w) : P1 Wg C n B Cl w0 w.heap.size (w.alloc (.cells Tryd.zeroCells115 115)) :=
  ⟨h.bs.alloc _, ex_alloc h.ex h.bs _, h.ex.size, mine_fresh (w := w) (w' := w.alloc _) rfl h.bs.tg (Nat.le_refl _) (by rw [sz_alloc]; omega), heap_new w _⟩
omit [Payload] [OldG] in
theorem ptab_01 (f : Nat) : ptab f 0 = ptab f 1 := by
  have := ptab_set f 0
  rw [← this]
  apply Array.ext_getElem?
  intro i
  rw [Array.getElem?_setIfInBounds]
  split
  · rename_i h; subst h; simp [ptab, zero_mul]
  · rfl
omit [OldG] in
theorem P1.alloc {w0 w : World} {N2 : Nat} (f : Nat) (h : P1 Wg C n B Cl w0 N2 w) : PF Wg C n B Cl w0 N2 w.heap.size f 1 (w.alloc (.cells Tryd.zeroCells115 115)) := by
  have hlt := h.bs.lt h.m2
  refine ⟨h.bs.alloc _, ex_alloc h.ex h.bs _, h.lo2, h.ex.size, by omega, mine_grow (w := w) (w' := w.alloc _) rfl (by rw [sz_alloc]; omega) h.m2, mine_fresh (w := w) (w' := w.alloc _) rfl h.bs.tg (Nat.le_refl _) (by rw [sz_alloc]; omega),
    (Below.heap_alloc _ _ _ hlt).trans h.h2, ?_⟩
  rw [heap_new, ptab_zero f, ptab_01]
/-- What is held at the end. -/
structure PE (Wg C n B : Nat) (Cl : Nat → Prop) (w0 : World) (N2 f : Nat) (w : World) : Prop where
  bs : Bs C B w
  ex : Ex Wg C n B Cl (fun _ => False) w0 w
  m2 : Mine w N2
  h2 : w.heap[N2]? = some (.cells (ptab f 256) 115)
omit [OldG] in
theorem PE.rely {w0 w w₁ : World} {N2 f : Nat} (h : PE Wg C n B Cl w0 N2 f w) (r : Ro Wg C n B Cl w w₁) : PE Wg C n B Cl w0 N2 f w₁ := ⟨h.bs.rely r, h.ex.rely r, (r.mineAt _).2 h.m2, (r.mine _ h.m2).trans h.h2⟩
omit [Payload] [OldG] in
theorem ptab_size (f m : Nat) : (ptab f m).size = 256 := by simp [ptab]
omit [Payload] [OldG] in
theorem ptab_one (f m : Nat) : ∀ v ∈ ptab f m, v.oneCell' = true := by
  intro v hv
  simp only [ptab, Array.mem_ofFn] at hv
  obtain ⟨i, rfl⟩ := hv
  rfl
omit [OldG] in
theorem PF.ne0 {w0 w : World} (h0 : Bs C B w0) {N2 N3 f m : Nat} (h : PF Wg C n B Cl w0 N2 N3 f m w) : N2 ≠ C ∧ N3 ≠ C := by have := h0.hC; have := h.lo2; have := h.lo3; omega

omit [OldG] in
theorem PF.cell {w0 w : World} {N2 N3 f m : Nat} (h : PF Wg C n B Cl w0 N2 N3 f m w) {x : Nat} (hx : x < 256) (hm : x < m) : w.cell? ⟨N3, x, none⟩ = some (.int .u8 ((mul x f : Nat) : Int)) := by
  rw [cell_of _ h.h3, ptab_get _ _ _ hx, if_pos hm]
omit [OldG] in
theorem PF.cell0 {w0 w : World} {N2 N3 f m : Nat} (h : PF Wg C n B Cl w0 N2 N3 f m w) (hx : m < 256) : w.cell? ⟨N3, m, none⟩ = some (.int .u8 0) := by
  rw [cell_of _ h.h3, ptab_get _ _ _ hx, if_neg (by omega)]; rfl
omit [OldG] in
theorem PF.thaw {w0 w : World} {N2 N3 f m : Nat} (h : PF Wg C n B Cl w0 N2 N3 f m w) (x : Nat) : w.frozen? ⟨N3, x, none⟩ = false := thaw_of _ h.h3 x

set_option maxRecDepth 100000 in
set_option maxHeartbeats 1000000 in
theorem products_c : ∃ k, ∀ (f : Nat) (w : World), f < 256 → Bs C B w → CallsG Tryd.prog main (Ro Wg C n B Cl) (Dg Wg C n B Cl) 69 #[.int .u8 (f : Int)] k w fun v w' => v = .agg (ptab f 256) ∧ Bs C B w' ∧ Ex Wg C n B Cl (fun _ => False) w w' := by
  obtain ⟨kx, hx⟩ := timesX_c (main := main) (termsG (Wg := Wg) (C := C) (n := n) (B := B) (Cl := Cl))
  co_apply Exists.intro
  intro f w hf hb
  co_apply callsG_of_wpC termsG Tryd.func69 (by rfl) rfl (Q := fun a' w' => a'.defers = [] ∧ ∃ N2, a'.tmps.getD 2 undef = .pointer (some ⟨N2, 0, none⟩) ∧ PE Wg C n B Cl w N2 f w')
  · rintro a' w' ⟨hd, N2, ht, hE⟩
    refine ⟨hd, fun w₁ r => ?_⟩
    replace hE := hE.rely r
    obtain ⟨h1, h2⟩ := results_cell_run (fn := Tryd.f69) rfl ht (run_load256 hE.h2 (ptab_size f 256))
    refine ⟨_, h1, ?_, rfl, hE.bs, hE.ex⟩
    rw [h2]
    exact dg_read (.inl hE.m2) (hE.bs.lt hE.m2) (fun e he => ev_load256 hE.h2 (ptab_size f 256) e (mem_seen he))
  have h0 := hb
  simp only [Tryd.ntmps69, List.size_toArray, List.length_cons, List.length_nil, Nat.reduceAdd, Nat.reduceSub, Array.replicate_succ, Array.replicate_zero, List.push_toArray, List.append_toArray, List.nil_append, List.cons_append]
  -- the two variables
  have hF : P0 Wg C n B Cl w w := ⟨hb, .refl w⟩
  co_apply wpC_seq termsG
  co_reg termsG
  co_opw P0.rely hF (skip) (rw [listed_nil (by simp [go_sem])]; exact dg_alloc hF.bs.hC _ rfl)
  replace hF := hF.alloc
  generalize hN2 : Array.size (World.heap _) = N2 at hF ⊢
  clear hN2
  co_apply opsC_nil termsG
  co_then
  co_apply wpC_seq termsG
  co_reg termsG
  co_opw P1.rely hF (skip) (rw [listed_nil (by simp [go_sem])]; exact dg_alloc hF.bs.hC _ rfl)
  replace hF := hF.alloc f
  generalize hN3 : Array.size (World.heap _) = N3 at hF ⊢
  clear hN3
  co_apply opsC_nil termsG
  co_then
  co_apply wpC_seq termsG
  co_apply wpC_seq termsG
  co_reg termsG
  co_op PF.rely hF (co_quiet termsG)
  co_apply opsC_nil termsG
  co_then
  co_apply wpC_block termsG
  co_apply wpC_loop termsG (PO Wg C n B Cl w N2 N3 f) muO _ 255
  · exact ⟨0, 1, mul 1 f, _, _, _, _, _, _, _, _, _, _, _, _, _, _, _, _, _, _, _, _, _, _, _, by omega, rfl, fun _ => rfl, hF, by rw [show mul 1 f = f from by rw [mul_comm (by omega) hf, mul_one hf]]; rfl⟩
  · simp [muO]
  · rintro a w' ⟨k, b, fa, v1, v5, v6, v7, v8, v9, v10, v11, v12, v13, v14, v15, v16, v17, v18, v19, v20, v21, v22, v23, v24, v25, v26, hk, hbk, hfa, hF, rfl⟩
    have hk8 : b ≤ 256 := by
      have : ∀ k : Fin 9, 2 ^ k.val ≤ 256 := by decide
      rw [show b = 2 ^ k from hbk]
      exact this ⟨k, by omega⟩
    have hb1 : 1 ≤ b := by rw [show b = 2 ^ k from hbk]; exact Nat.one_le_two_pow
    co_go termsG PF.rely hF (co_quiet termsG)
    co_split termsG (decide (((b : Nat) : Int) < 256))
    · intro hlt
      have hlt' : b < 256 := by have := of_decide_eq_true hlt; omega
      clear hlt
      have hk7 : k < 8 := by
        rcases Nat.lt_or_ge k 8 with h | h
        · exact h
        · obtain rfl : k = 8 := by omega
          have : b = 256 := hbk
          omega
      obtain rfl : fa = mul b f := hfa hk7
      have hmb : mul b f < 256 := mul_lt (by omega)
      co_go termsG PF.rely hF (co_quiet termsG)
      co_apply wpC_loop termsG (PI Wg C n B Cl w N2 N3 f b) muI _ 256
      · exact ⟨0, _, _, _, _, _, _, _, _, _, _, _, _, _, _, _, _, _, _, _, _, _, Nat.zero_le _, hF, rfl⟩
      · simp [muI]
      · rintro a w' ⟨j, u1, u5, u6, u7, u8, u9, u12, u13, u14, u15, u16, u17, u18, u19, u20, u21, u22, u23, u24, u25, u26, hj, hF, rfl⟩
        co_go termsG PF.rely hF (co_quiet termsG)
        co_split termsG (decide (((j : Nat) : Int) < ((b : Nat) : Int)))
        · intro hjl
          have hjl' : j < b := by have := of_decide_eq_true hjl; omega
          clear hjl
          have hj256 : (j : Int) < 256 := by omega
          have hs256 : b + j < 256 := by
            have : ∀ k : Fin 8, 2 ^ k.val + 2 ^ k.val ≤ 256 := by decide
            have := this ⟨k, hk7⟩
            simp only [← (show b = 2 ^ k from hbk)] at this
            omega
          have hs1 : (b : Int) + (j : Int) < 256 := by omega
          have hs0 : 0 ≤ (b : Int) + (j : Int) := by omega
          have htn : ((b : Int) + (j : Int)).toNat = b + j := by omega
          have hwr : IntKind.i64.wrap ((b : Int) + (j : Int)) = ((b + j : Nat) : Int) := by rw [IntKind.wrap_i64]; omega
          have hsp := pow_add ⟨k, hk7⟩ j f (by rw [← (show b = 2 ^ k from hbk)]; exact hjl')
          simp only [← (show b = 2 ^ k from hbk)] at hsp
          have hxr : bits .xor .u8 ((mul j f : Nat) : Int) ((mul b f : Nat) : Int) = ((mul (b + j) f : Nat) : Int) := by rw [u8_xor_nat _ _ (mul_lt (by omega)) hmb, hsp]
          have hix : ∀ (w : World) (es : Array Event), (Instr.indexAt 115 (.pointer (some ⟨N3, 0, none⟩)) (.int .i64 (j : Int))).events Tryd.prog w es = es := fun w es => events_indexAt_array _ _ _ _ _ _ Tryd.underlying115 ⟨by omega, by omega⟩
          have hiy : ∀ (w : World) (es : Array Event), (Instr.indexAt 115 (.pointer (some ⟨N3, 0, none⟩)) (.int .i64 ((b : Int) + (j : Int)))).events Tryd.prog w es = es := fun w es => events_indexAt_array _ _ _ _ _ _ Tryd.underlying115 ⟨by omega, by omega⟩
          co_ctl termsG
          co_then
          co_ctl termsG
          co_ctl termsG
          co_ctl termsG
          co_reg termsG
          co_op PF.rely hF (co_quiet termsG)
          co_op PF.rely hF (co_quiet termsG)
          co_apply opsC_nil termsG
          co_then
          co_reg termsG
          co_op PF.rely hF (co_quiet termsG)
          co_op PF.rely hF (co_quiet termsG)
          co_op PF.rely hF (co_quiet termsG)
          co_op PF.rely hF (co_quiet termsG)
          co_opw PF.rely hF (skip) (co_still termsG)
          co_opw PF.rely hF (have hc := hF.cell (x := j) (by omega) (by omega)) (refine dg_read (.inl hF.m3) (hF.bs.lt hF.m3) ?_; co_evs (exact ⟨_, rfl, rfl⟩))
          clear hc
          co_op PF.rely hF (co_quiet termsG)
          co_op PF.rely hF (co_quiet termsG)
          co_opw PF.rely hF (skip) (co_still termsG)
          co_opw PF.rely hF (have hc := hF.cell0 hs256; have hz := hF.thaw (b + j)) (refine dg_set hF.m3 (hF.ne0 h0).2 (hF.bs.lt hF.m3) ?_; co_evs (exact ⟨_, _, rfl, rfl⟩))
          replace hF := hF.set h0
          rw [hsp] at hF
          clear hc hz
          co_apply opsC_nil termsG
          co_then
          co_reg termsG
          co_op PF.rely hF (co_quiet termsG)
          co_op PF.rely hF (co_quiet termsG)
          co_apply opsC_nil termsG
          co_then
          have hw1 : IntKind.i64.wrap ((j : Int) + 1) = ((j + 1 : Nat) : Int) := by rw [IntKind.wrap_i64]; omega
          simp only [hw1]
          refine ⟨⟨j + 1, _, _, _, _, _, _, _, _, _, _, _, _, _, _, _, _, _, _, _, _, _, by omega, hF, rfl⟩, ?_⟩
          simp [muI]
          omega
        · intro hjl
          obtain rfl : j = b := by have := of_decide_eq_false hjl; omega
          clear hjl
          co_go termsG PF.rely hF (co_quiet termsG)
          co_apply opsC_call termsG rfl (by rfl) rfl
          · walk_nrm
            exact hx _ _ hmb
          rintro v w' ⟨rfl, hs⟩
          replace hF : PF Wg C n B Cl w N2 N3 f (j + j) w' := hs.elim (fun e => e ▸ hF) (fun r => hF.rely r)
          clear hs
          walk_nrm
          co_op PF.rely hF (co_quiet termsG)
          co_apply opsC_nil termsG
          co_then
          have hk2 : k = 7 ∨ k < 7 := by omega
          have hjj : IsPow (k + 1) (j + j) := by
            have e : j = 2 ^ k := hbk
            show j + j = 2 ^ (k + 1)
            rw [Nat.pow_succ]; omega
          have hwr : IntKind.i64.wrap ((j : Int) * 2) = ((j + j : Nat) : Int) := by rw [IntKind.wrap_i64]; omega
          have htx : k + 1 < 8 → tx (mul j f) = mul (j + j) f := by
            intro hk3
            have := tx_pow ⟨k, by omega⟩ ⟨f, hf⟩
            simp only [← (show j = 2 ^ k from hbk), ← (show j + j = 2 ^ (k + 1) from hjj)] at this
            exact this
          generalize tx (mul j f) = fa at htx ⊢
          co_go termsG PF.rely hF (co_quiet termsG)
          refine ⟨⟨k + 1, j + j, fa, _, _, _, _, _, _, _, _, _, _, _, _, _, _, _, _, _, _, _, _, _, _, _, by omega, hjj, htx, hF, rfl⟩, ?_⟩
          simp [muO]
          omega
    · intro hlt
      obtain rfl : k = 8 := by
        have := of_decide_eq_false hlt
        rcases Nat.lt_or_ge k 8 with h | h
        · have h2 : ∀ k : Fin 8, 2 ^ k.val < 256 := by decide
          have := h2 ⟨k, h⟩
          simp only [← (show b = 2 ^ k from hbk)] at this
          omega
        · omega
      obtain rfl : b = 256 := hbk
      co_go termsG PF.rely hF (co_quiet termsG)
      co_apply opsC_cons rfl (by rfl)
      intro w₁ r
      replace hF := hF.rely r
      clear r
      have hz : Tryd.zeroCells115.size = 256 := by rw [ptab_zero f]; exact ptab_size f 0
      obtain ⟨T, hT, hTs, hT1⟩ : ∃ T, ptab f 256 = T ∧ T.size = 256 ∧ ∀ v ∈ T, v.oneCell' = true := ⟨_, rfl, ptab_size f _, ptab_one f _⟩
      have h3 := hF.h3
      rw [hT] at h3
      rw [run_op_load rfl rfl (run_load256 h3 hTs)]
      simp only [uponK_value]
      refine ⟨?_, ?_⟩
      · unfold listed
        rw [ev_op_load rfl rfl]
        exact dg_read (.inl hF.m3) (hF.bs.lt hF.m3) (fun e he => ev_load256 h3 hTs e (mem_seen he))
      clear h3
      walk_nrm
      co_apply opsC_cons rfl (by rfl)
      intro w₁ r
      replace hF := hF.rely r
      clear r
      have hrun := run_store256 (c' := T) hF.h2 hz hTs hT1
      rw [run_op_store (v := .agg T) rfl rfl rfl hrun]
      simp only [uponK_skip]
      refine ⟨?_, ?_⟩
      · unfold listed
        rw [ev_op_store (v := .agg T) rfl rfl rfl]
        exact dg_row hF.m2 (hF.ne0 h0).1 (hF.bs.lt hF.m2) (fun e he => ev_store256 (c' := T) hF.h2 hz hTs hT1 e (mem_seen he))
      clear hrun
      have hE : PE Wg C n B Cl w N2 f (World.setRow w₁ N2 T) := ⟨hF.bs.row _ _, ex_row hF.ex h0 hF.lo2 _, mine_grow (w := w₁) (w' := World.setRow w₁ N2 _) rfl (by rw [sz_row]; omega) hF.m2, by rw [hT]; exact heap_row _ hF.h2⟩
      walk_nrm
      co_apply opsC_nil termsG
      co_then
      co_apply wpC_ret termsG
      exact ⟨rfl, N2, rfl, hE⟩
end
end Go.Proofs.YtkpcmfgeanlcnabDoor

/-
  In company: a multiple of one row of bytes is added to another.
-/
namespace Go.Proofs.YtkpcmfgeanlcnabDoor
open Go.Conc Go.RowKit Go.Gh
open Go.ConcR (Payload)

def bytesA (xs : List Nat) : Array Value := (xs.map fun x => (Value.int .u8 ((x : Nat) : Int))).toArray
theorem bytesA_get (xs : List Nat) (i : Nat) : (bytesA xs)[i]? = (xs[i]?).map fun x => Value.int .u8 ((x : Nat) : Int) := by simp [bytesA]
theorem bytesA_set (xs : List Nat) (i x : Nat) : (bytesA xs).setIfInBounds i (.int .u8 ((x : Nat) : Int)) = bytesA (xs.set i x) := by simp [bytesA, List.map_set]
/-- To each byte the byte of another row at its place, times f. -/
def addT (f : Nat) : List Nat → List Nat → List Nat
  | x :: xs, y :: ys => (x ^^^ mul y f) :: addT f xs ys
  | xs, _ => xs
theorem addT_nil (f : Nat) (xs : List Nat) : addT f xs [] = xs := by cases xs <;> rfl
theorem addT_length (f : Nat) : ∀ xs ys : List Nat, (addT f xs ys).length = xs.length
  | [], _ => by simp [addT]
  | _ :: _, [] => by simp [addT]
  | x :: xs, y :: ys => by simp [addT, addT_length f xs ys]
theorem addT_zero : ∀ xs ys : List Nat, addT 0 xs ys = xs
  | [], _ => rfl
  | _ :: _, [] => rfl
  | x :: xs, y :: ys => by simp [addT, addT_zero xs ys, mul_zero]
theorem addT_get (f : Nat) : ∀ (xs ys : List Nat) (i : Nat), ys.length ≤ i → (addT f xs ys)[i]? = xs[i]?
  | [], _, _, _ => by simp [addT]
  | _ :: _, [], _, _ => by simp [addT]
  | x :: xs, y :: ys, 0, h => by simp at h
  | x :: xs, y :: ys, i + 1, h => by simp [addT, addT_get f xs ys i (by simpa using h)]
theorem addT_step (f : Nat) : ∀ (xs ys : List Nat) (m x y : Nat), xs[m]? = some x → ys[m]? = some y → (addT f xs (ys.take m)).set m (x ^^^ mul y f) = addT f xs (ys.take (m + 1))
  | [], _, _, _, _, h, _ => by simp at h
  | _ :: _, [], _, _, _, _, h => by simp at h
  | a :: xs, b :: ys, 0, x, y, h1, h2 => by
    simp at h1 h2
    subst h1; subst h2
    simp [addT, addT_nil]
  | a :: xs, b :: ys, m + 1, x, y, h1, h2 => by
    simp [addT]
    simpa using addT_step f xs ys m x y (by simpa using h1) (by simpa using h2)
theorem addT_lt (f : Nat) (hf : f < 256) : ∀ xs ys : List Nat, (∀ x ∈ xs, x < 256) → (∀ y ∈ ys, y < 256) → ∀ z ∈ addT f xs ys, z < 256
  | [], _, _, _ => by simp [addT]
  | _ :: _, [], h, _ => by simpa [addT] using h
  | x :: xs, y :: ys, h1, h2 => by
    intro z hz
    simp only [addT, List.mem_cons] at hz
    rcases hz with rfl | hz
    · exact xor_lt (h1 x (by simp)) (mul_lt (h2 y (by simp)))
    · exact addT_lt f hf xs ys (fun a ha => h1 a (by simp [ha])) (fun a ha => h2 a (by simp [ha])) z hz

theorem upon_k {o : Oper} {a : Act} {X : Act → World → Prop} {r : Result Next} (h : ∀ K : Act → World → Prop, (∀ a' w', X a' w' → K a' w') → uponK o a K r) : uponK o a X r := h X fun _ _ x => x

section
variable [Payload] [OldG] {main : Bool} {Wg C n B : Nat} {Cl : Nat → Prop}

/-- The row that is written (a block of its own), and the one that is read. -/
structure AF (Wg C n B : Nat) (Cl : Nat → Prop) (w0 : World) (bl : Nat) (cur : List Nat) (bo oo : Nat) (ys : List Nat) (w : World) : Prop where
  bs : Bs C B w
  ex : Ex Wg C n B Cl (· = bl) w0 w
  ml : Mine w bl
  neC : bl ≠ C
  hB : B ≤ bl
  rdo : Rdb Wg C B w bo
  lto : bo < w.heap.size
  neo : bo ≠ bl
  hx : w.heap[bl]? = some (.cells (bytesA cur) 5)
  hy : ∀ i y, ys[i]? = some y → w.cell? ⟨bo, oo + i, none⟩ = some (.int .u8 ((y : Nat) : Int))
section
variable {w0 w w₁ : World} {bl bo oo : Nat} {cur ys : List Nat}
theorem AF.call (h : AF Wg C n B Cl w0 bl cur bo oo ys w) (hb : Bs C B w₁) (r : Ex Wg C n B Cl (fun _ => False) w w₁) : AF Wg C n B Cl w0 bl cur bo oo ys w₁ :=
  ⟨hb, h.ex.trans (r.weaken fun _ => False.elim), r.own _ h.ml, h.neC, h.hB, r.rdb h.rdo, Nat.lt_of_lt_of_le h.lto r.size, h.neo, (r.mine _ h.ml id).trans h.hx, fun i y e => by
    rw [← h.hy i y e]; simp only [World.cell?, r.stands h.rdo id]⟩
theorem AF.rely (h : AF Wg C n B Cl w0 bl cur bo oo ys w) (r : Ro Wg C n B Cl w w₁) : AF Wg C n B Cl w0 bl cur bo oo ys w₁ := h.call (h.bs.rely r) r.ex
/-- One byte is written. -/
theorem AF.set (h : AF Wg C n B Cl w0 bl cur bo oo ys w) (i x : Nat) : AF Wg C n B Cl w0 bl (cur.set i x) bo oo ys (w.setCell ⟨bl, i, none⟩ (.int .u8 ((x : Nat) : Int))) :=
  ⟨h.bs.set _ _, h.ex.trans (Ex.set h.neC rfl (fun hh => by have := h.hB; dsimp only at hh; omega)), mine_grow (w := w) (w' := w.setCell _ _) rfl (by rw [sz_set]; omega) h.ml, h.neC, h.hB,
    h.rdo.imp (fun x => mine_grow (w := w) (w' := w.setCell _ _) rfl (by rw [sz_set]; omega) x) id, by rw [sz_set]; exact h.lto, h.neo, by rw [heap_set w h.hx, bytesA_set], fun i y e => by
    rw [World.cell?_setCell_other _ _ _ _ (by intro e; injection e with e1; exact h.neo e1.symm)]; exact h.hy i y e⟩
end
/-- .. with the table. -/
structure AG (Wg C n B : Nat) (Cl : Nat → Prop) (w0 : World) (bl : Nat) (cur : List Nat) (bo oo : Nat) (ys : List Nat) (N6 : Nat) (T : Array Value) (w : World) : Prop where
  af : AF Wg C n B Cl w0 bl cur bo oo ys w
  m6 : Mine w N6
  n6 : N6 ≠ bl
  h6 : w.heap[N6]? = some (.cells T 115)
section
variable {w0 w w₁ : World} {bl bo oo N6 : Nat} {T : Array Value} {cur ys : List Nat}
theorem AG.rely (h : AG Wg C n B Cl w0 bl cur bo oo ys N6 T w) (r : Ro Wg C n B Cl w w₁) : AG Wg C n B Cl w0 bl cur bo oo ys N6 T w₁ := ⟨h.af.rely r, (r.mineAt _).2 h.m6, h.n6, (r.mine _ h.m6).trans h.h6⟩
theorem AG.draw (h : AG Wg C n B Cl w0 bl cur bo oo ys N6 T w) (d : Nat) : AG Wg C n B Cl w0 bl cur bo oo ys N6 T { w with drawn := d } :=
  ⟨⟨⟨h.af.bs.tg, h.af.bs.hC, h.af.bs.hB, h.af.bs.ow⟩, ⟨h.af.ex.size, h.af.ex.tape, h.af.ex.os, h.af.ex.tag, h.af.ex.own, h.af.ex.mine, h.af.ex.low, h.af.ex.cell, h.af.ex.pay⟩, h.af.ml, h.af.neC, h.af.hB, h.af.rdo, h.af.lto, h.af.neo, h.af.hx, h.af.hy⟩, h.m6, h.n6, h.h6⟩
theorem AG.tab {f : Nat} (hT : ptab f 256 = T) (h : AG Wg C n B Cl w0 bl cur bo oo ys N6 T w) {x : Nat} (hx : x < 256) : w.cell? ⟨N6, x, none⟩ = some (.int .u8 ((mul x f : Nat) : Int)) := by
  rw [cell_of _ h.h6, ← hT, ptab_get _ _ _ hx, if_pos hx]
theorem AG.at (h : AG Wg C n B Cl w0 bl cur bo oo ys N6 T w) {i x : Nat} (hx : cur[i]? = some x) : w.cell? ⟨bl, i, none⟩ = some (.int .u8 ((x : Nat) : Int)) := by
  rw [cell_of _ h.af.hx, bytesA_get, hx]; rfl
theorem AG.set (h : AG Wg C n B Cl w0 bl cur bo oo ys N6 T w) (i x : Nat) : AG Wg C n B Cl w0 bl (cur.set i x) bo oo ys N6 T (w.setCell ⟨bl, i, none⟩ (.int .u8 ((x : Nat) : Int))) :=
  ⟨h.af.set i x, mine_grow (w := w) (w' := w.setCell _ _) rfl (by rw [sz_set]; omega) h.m6, h.n6, (Below.heap_setCell _ _ _ _ h.n6).trans h.h6⟩
theorem AF.alloc (h : AF Wg C n B Cl w0 bl cur bo oo ys w) (T : Array Value) : AG Wg C n B Cl w0 bl cur bo oo ys w.heap.size T (w.alloc (.cells T 115)) :=
  ⟨h.call (h.bs.alloc _) (Ex.alloc h.bs.hC h.bs.hB (fun _ x => h.bs.lt x) _), mine_fresh (w := w) (w' := w.alloc _) rfl h.bs.tg (Nat.le_refl _) (by rw [sz_alloc]; omega), by have := h.bs.lt h.ml; omega, heap_new w _⟩
theorem AG.row {T' : Array Value} (h : AG Wg C n B Cl w0 bl cur bo oo ys N6 T' w) (hneo : bo ≠ N6) (h0 : Bs C B w0) (hN : w0.heap.size ≤ N6) (T : Array Value) : AG Wg C n B Cl w0 bl cur bo oo ys N6 T (w.setRow N6 T) :=
  ⟨⟨h.af.bs.row _ _, ex_row h.af.ex h0 hN _, mine_grow (w := w) (w' := w.setRow _ _) rfl (by rw [sz_row]; omega) h.af.ml, h.af.neC, h.af.hB, h.af.rdo.imp (fun x => mine_grow (w := w) (w' := w.setRow _ _) rfl (by rw [sz_row]; omega) x) id,
    by rw [sz_row]; exact h.af.lto, h.af.neo, (heap_row_other w _ (Ne.symm h.n6)).trans h.af.hx, fun i y e => by rw [cell_row_other w _ (by exact hneo)]; exact h.af.hy i y e⟩,
    mine_grow (w := w) (w' := w.setRow _ _) rfl (by rw [sz_row]; omega) h.m6, h.n6, heap_row _ h.h6⟩
end

/-- The length (a name, so that the walk's reckoning leaves it alone). -/
def LenIs (ys : List Nat) (k : Nat) : Prop := ys.length = k
def AI (Wg C n B : Nat) (Cl : Nat → Prop) (w0 : World) (bl nl cl : Nat) (xs : List Nat) (bs : Option Addr) (bo oo co : Nat) (ys : List Nat) (N6 : Nat) (T : Array Value) (f k : Nat) (a : Act) (w : World) : Prop :=
  ∃ (m : Nat) (v3 v4 v5 v7 v8 v9 v10 v11 v12 v16 v17 v18 v19 v20 v21 v22 v23 v24 v25 v26 v27 v28 v29 : Value), m ≤ k ∧ AG Wg C n B Cl w0 bl (addT f xs (ys.take m)) bo oo ys N6 T w ∧ a = { tmps := #[.slice (some ⟨bl, 0, none⟩) nl cl, .int .u8 (f : Int), .slice bs k co, v3, v4, v5, .pointer (some ⟨N6, 0, none⟩), v7, v8, v9, v10, v11, v12, .slice bs k co, .int .i64 ((k : Nat) : Int), .int .i64 ((m : Nat) : Int), v16, v17, v18, v19, v20, v21, v22, v23, v24, v25, v26, v27, v28, v29], defers := [] }
def muA (k : Nat) (a : Act) (_ : World) : Nat := match a.tmps.getD 15 undef with | .int _ j => k - j.toNat | _ => 0

set_option maxRecDepth 100000 in
set_option maxHeartbeats 2000000 in
theorem addTimes_c (k : Nat) : ∃ q, ∀ (w : World) (bs : Option Addr) (bl nl cl bo oo co f : Nat) (xs ys : List Nat), (0 < k → bs = some ⟨bo, oo, none⟩) → f < 256 → (∀ x ∈ xs, x < 256) → (∀ y ∈ ys, y < 256) → LenIs xs nl → k ≤ nl → LenIs ys k → nl ≤ maxLen → AF Wg C n B Cl w bl xs bo oo ys w →
    CallsC Tryd.prog main (Ro Wg C n B Cl) (Dg Wg C n B Cl) 56 #[.slice (some ⟨bl, 0, none⟩) nl cl, .int .u8 (f : Int),   .slice bs k co] q w fun v w' => v = .tuple #[] ∧ AF Wg C n B Cl w bl (addT f xs ys) bo oo ys w' := by
  obtain ⟨kp, hp⟩ := products_c (main := main) (Wg := Wg) (C := C) (n := n) (B := B) (Cl := Cl)
  co_apply Exists.intro
  intro w bs bl nl cl bo oo co f xs ys hbs hf hxs hys hnl hle hk hmax hF
  have hbw := hF.bs
  co_apply callsC_of_wpC Tryd.func56 (by rfl) rfl
  simp only [Tryd.ntmps56, List.size_toArray, List.length_cons, List.length_nil, Nat.reduceAdd, Nat.reduceSub, Array.replicate_succ, Array.replicate_zero, List.push_toArray, List.append_toArray, List.nil_append, List.cons_append]
  co_apply wpC_seq termsG
  co_apply wpC_seq termsG
  co_reg termsG
  co_op AF.rely hF (co_quiet termsG)
  co_op AF.rely hF (co_quiet termsG)
  co_apply opsC_nil termsG
  co_then
  co_split termsG ((f : Int) == 0)
  · intro h0
    obtain rfl : f = 0 := by have : (f : Int) = 0 := by simpa using h0
                             omega
    co_apply wpC_ret termsG
    exact ⟨rfl, _, resultsC_none (by rfl) _, rfl, by rw [addT_zero]; exact hF⟩
  · intro h0
    clear h0
    co_ctl termsG
    co_then
    co_apply wpC_seq termsG
    co_reg termsG
    co_op AF.rely hF (co_quiet termsG)
    co_apply opsC_callG termsG rfl (by rfl) rfl
    · walk_nrm
      exact hp _ _ hf hF.bs
    rintro v w' ⟨rfl, hb', hex⟩
    replace hF := hF.call hb' hex
    clear hb' hex
    obtain ⟨T, hT, hTs, hT1⟩ : ∃ T, ptab f 256 = T ∧ T.size = 256 ∧ ∀ v ∈ T, v.oneCell' = true := ⟨_, rfl, ptab_size f _, ptab_one f _⟩
    simp only [hT]
    walk_nrm
    co_opw AF.rely hF (skip) (rw [listed_nil (by simp [go_sem])]; exact dg_alloc hF.bs.hC _ rfl)
    have hlo := hF.ex.size
    have hlt := hF.lto
    replace hF := hF.alloc Tryd.zeroCells115
    generalize hN6 : Array.size (World.heap _) = N6 at hF hlo hlt ⊢
    clear hN6
    co_apply opsC_cons rfl (by rfl)
    intro w₁ r
    replace hF := hF.rely r
    clear r
    have hz : Tryd.zeroCells115.size = 256 := by rw [ptab_zero f]; exact ptab_size f 0
    have hrun := run_store256 (c' := T) hF.h6 hz hTs hT1
    rw [run_op_store (v := .agg T) rfl rfl rfl hrun]
    simp only [uponK_skip]
    have hn6C : N6 ≠ C := by have := hbw.hC; omega
    refine ⟨?_, ?_⟩
    · unfold listed
      rw [ev_op_store (v := .agg T) rfl rfl rfl]
      exact dg_row hF.m6 hn6C (hF.af.bs.lt hF.m6) (fun e he => ev_store256 (c' := T) hF.h6 hz hTs hT1 e (mem_seen he))
    clear hrun
    replace hF := hF.row (by omega) hbw hlo T
    walk_nrm
    co_apply opsC_nil termsG
    co_then
    co_apply wpC_seq termsG
    co_reg termsG
    co_op AG.rely hF (co_quiet termsG)
    co_op AG.rely hF (co_quiet termsG)
    co_op AG.rely hF (co_quiet termsG)
    co_apply opsC_nil termsG
    co_then
    co_apply wpC_block termsG
    co_apply wpC_loop termsG (AI Wg C n B Cl w bl nl cl xs bs bo oo co ys N6 T f k) (muA k) _ k
    · exact ⟨0, _, _, _, _, _, _, _, _, _, _, _, _, _, _, _, _, _, _, _, _, _, _, _, Nat.zero_le _, by rw [List.take_zero, addT_nil]; exact hF, rfl⟩
    · simp [muA]
    rintro a w' ⟨m, v3, v4, v5, v7, v8, v9, v10, v11, v12, v16, v17, v18, v19, v20, v21, v22, v23, v24, v25, v26, v27, v28, v29, hm, hF, rfl⟩
    co_apply wpC_seq termsG
    co_reg termsG
    co_op AG.rely hF (co_quiet termsG)
    co_apply opsC_nil termsG
    co_then
    co_apply wpC_seq termsG
    co_split termsG (decide ((m : Int) < (k : Int)))
    · intro hml
      have hml' : m < k := by have := of_decide_eq_true hml; omega
      clear hml
      obtain rfl : bs = some ⟨bo, oo, none⟩ := hbs (by omega)
      obtain ⟨y, hy⟩ : ∃ y, ys[m]? = some y := ⟨ys[m]'(by rw [show ys.length = k from hk]; exact hml'), by simp⟩
      obtain ⟨x, hx⟩ : ∃ x, xs[m]? = some x := ⟨xs[m]'(by rw [show xs.length = nl from hnl]; omega), by simp⟩
      have hy256 : y < 256 := hys y (List.mem_of_getElem? hy)
      have hx256 : x < 256 := hxs x (List.mem_of_getElem? hx)
      have hcx : (addT f xs (ys.take m))[m]? = some x := by rw [addT_get f xs _ m (by simp; omega)]; exact hx
      have hmI : (m : Int) < (k : Int) := by omega
      have hmN : (m : Int) < (nl : Int) := by omega
      have hyI : (y : Int) < 256 := by omega
      have hmul : mul y f < 256 := mul_lt hy256
      co_ctl termsG
      co_then
      co_apply wpC_seq termsG
      co_apply wpC_block termsG
      co_apply wpC_seq termsG
      co_reg termsG
      co_op AG.rely hF (co_quiet termsG)
      co_opw AG.rely hF (skip) (co_still termsG)
      co_opw AG.rely hF (have hc := hF.af.hy m y hy) (refine dg_read hF.af.rdo hF.af.lto ?_; co_evs (exact ⟨_, rfl, rfl⟩))
      clear hc
      co_op AG.rely hF (co_quiet termsG)
      co_op AG.rely hF (co_quiet termsG)
      co_apply opsC_nil termsG
      co_then
      co_apply wpC_region_any (nf := 0) (S := AG Wg C n B Cl w bl (addT f xs (ys.take m)) bo oo ys N6 T) (lst := 9) termsG drawG (by first | kernel_rfl | rfl)
      intro w₁ r
      replace hF := (hF.rely r).draw (w₁.drawn + 1)
      clear r
      simp only [List.size_toArray, List.length_cons, List.length_nil, Nat.reduceAdd, Nat.zero_add]
      have hix : ∀ (w : World) (es : Array Event), (Instr.indexAt 115 (.pointer (some ⟨N6, 0, none⟩)) (.int .u8 (y : Int))).events Tryd.prog w es = es := fun w es => events_indexAt_array _ _ _ _ _ _ Tryd.underlying115 ⟨by omega, by omega⟩
      co_applyP anyX_take termsG (fun _ _ h r => AG.rely h r) (fun _ _ _ h r => wpC_rely termsG h r) (i := 0) rfl (by kernel_rfl) (by kernel_rfl) (by kernel_rfl) (by kernel_rfl) (by kernel_rfl) (.inl ⟨by rfl, fun _ hw => ⟨run_eq_of ?run0, ?guar0⟩⟩) hF ?rest0
      case run0 =>
        intro K hK
        skip
        go_simp
        exact hK
      case guar0 =>
        skip
        co_quiet termsG
      try walk_nrm
      co_applyP anyX_take termsG (fun _ _ h r => AG.rely h r) (fun _ _ _ h r => wpC_rely termsG h r) (i := 1) rfl (by kernel_rfl) (by kernel_rfl) (by kernel_rfl) (by kernel_rfl) (by kernel_rfl) (.inl ⟨by rfl, fun _ hw => ⟨run_eq_of ?run1, ?guar1⟩⟩) hF ?rest1
      case run1 =>
        intro K hK
        skip
        go_simp
        exact hK
      case guar1 =>
        skip
        co_quiet termsG
      try walk_nrm
      co_applyP anyX_take termsG (fun _ _ h r => AG.rely h r) (fun _ _ _ h r => wpC_rely termsG h r) (i := 2) rfl (by kernel_rfl) (by kernel_rfl) (by kernel_rfl) (by kernel_rfl) (by kernel_rfl) (.inl ⟨by rfl, fun _ hw => ⟨run_eq_of ?run2, ?guar2⟩⟩) hF ?rest2
      case run2 =>
        intro K hK
        skip
        go_simp
        exact hK
      case guar2 =>
        skip
        co_still termsG
      try walk_nrm
      co_applyP anyX_take termsG (fun _ _ h r => AG.rely h r) (fun _ _ _ h r => wpC_rely termsG h r) (i := 3) rfl (by kernel_rfl) (by kernel_rfl) (by kernel_rfl) (by kernel_rfl) (by kernel_rfl) (.inl ⟨by rfl, fun _ hw => ⟨run_eq_of ?run3, ?guar3⟩⟩) hF ?rest3
      case run3 =>
        intro K hK
        have hc := hw.at hcx
        go_simp
        exact hK
      case guar3 =>
        have hc := hw.at hcx
        refine dg_read (.inl hw.af.ml) (hw.af.bs.lt hw.af.ml) ?_; co_evs (exact ⟨_, rfl, rfl⟩)
      try walk_nrm
      co_applyP anyX_take termsG (fun _ _ h r => AG.rely h r) (fun _ _ _ h r => wpC_rely termsG h r) (i := 4) rfl (by kernel_rfl) (by kernel_rfl) (by kernel_rfl) (by kernel_rfl) (by kernel_rfl) (.inl ⟨by rfl, fun _ hw => ⟨run_eq_of ?run4, ?guar4⟩⟩) hF ?rest4
      case run4 =>
        intro K hK
        skip
        go_simp
        exact hK
      case guar4 =>
        skip
        co_quiet termsG
      try walk_nrm
      co_applyP anyX_take termsG (fun _ _ h r => AG.rely h r) (fun _ _ _ h r => wpC_rely termsG h r) (i := 5) rfl (by kernel_rfl) (by kernel_rfl) (by kernel_rfl) (by kernel_rfl) (by kernel_rfl) (.inl ⟨by rfl, fun _ hw => ⟨run_eq_of ?run5, ?guar5⟩⟩) hF ?rest5
      case run5 =>
        intro K hK
        skip
        go_simp
        exact hK
      case guar5 =>
        skip
        co_still termsG
      try walk_nrm
      co_applyP anyX_take termsG (fun _ _ h r => AG.rely h r) (fun _ _ _ h r => wpC_rely termsG h r) (i := 6) rfl (by kernel_rfl) (by kernel_rfl) (by kernel_rfl) (by kernel_rfl) (by kernel_rfl) (.inl ⟨by rfl, fun _ hw => ⟨run_eq_of ?run6, ?guar6⟩⟩) hF ?rest6
      case run6 =>
        intro K hK
        have hc := hw.tab hT hy256
        go_simp
        exact hK
      case guar6 =>
        have hc := hw.tab hT hy256
        refine dg_read (.inl hw.m6) (hw.af.bs.lt hw.m6) ?_; co_evs (exact ⟨_, rfl, rfl⟩)
      try walk_nrm
      co_applyP anyX_take termsG (fun _ _ h r => AG.rely h r) (fun _ _ _ h r => wpC_rely termsG h r) (i := 7) rfl (by kernel_rfl) (by kernel_rfl) (by kernel_rfl) (by kernel_rfl) (by kernel_rfl) (.inl ⟨by rfl, fun _ hw => ⟨run_eq_of ?run7, ?guar7⟩⟩) hF ?rest7
      case run7 =>
        intro K hK
        skip
        go_simp
        exact hK
      case guar7 =>
        skip
        co_quiet termsG
      try walk_nrm
      co_applyP anyX_take termsG (fun _ _ h r => AG.rely h r) (fun _ _ _ h r => wpC_rely termsG h r) (i := 8) rfl (by kernel_rfl) (by kernel_rfl) (by kernel_rfl) (by kernel_rfl) (by kernel_rfl) (.inl ⟨by rfl, fun _ hw => ⟨run_eq_of ?run8, ?guar8⟩⟩) hF ?rest8
      case run8 =>
        intro K hK
        skip
        go_simp
        exact hK
      case guar8 =>
        skip
        co_still termsG
      try walk_nrm
      co_applyP anyX_one (i := 9) (by kernel_rfl)
      refine ⟨_, rfl, .inl ⟨by rfl, ?_⟩⟩
      intro w₂ r
      replace hF := hF.rely r
      clear r
      refine upon_k ?_
      intro K hK
      have hc := hF.at hcx
      have hz := thaw_of _ hF.af.hx m
      go_simp
      try (unfold stored; go_simp)
      refine hK _ _ ⟨?_, fun h => absurd rfl h, ?_⟩
      · refine dg_set hF.af.ml hF.af.neC (hF.af.bs.lt hF.af.ml) ?_
        co_evs (exact ⟨_, _, rfl, rfl⟩)
      clear hK K hc hz
      replace hF := hF.set m (x ^^^ mul y f)
      rw [addT_step f xs ys m x y hx hy, ← u8_xor_nat _ _ hx256 hmul] at hF
      refine anyX_done (by kernel_rfl) ?_ _
      co_then
      co_reg termsG
      co_op AG.rely hF (co_quiet termsG)
      co_op AG.rely hF (co_quiet termsG)
      co_apply opsC_nil termsG
      co_then
      have hw1 : IntKind.i64.wrap ((m : Int) + 1) = ((m + 1 : Nat) : Int) := by
        have : nl ≤ 9223372036854775807 := by simpa [maxLen] using hmax
        rw [IntKind.wrap_i64]; omega
      simp only [hw1]
      refine ⟨⟨m + 1, _, _, _, _, _, _, _, _, _, _, _, _, _, _, _, _, _, _, _, _, _, _, _, by omega, hF, rfl⟩, ?_⟩
      simp [muA]
      omega
    · intro hml
      have hmk : m = k := by have := of_decide_eq_false hml; omega
      have hall : ys.take m = ys := List.take_of_length_le (by rw [show ys.length = k from hk]; omega)
      co_ctl termsG
      co_then
      exact ⟨rfl, _, resultsC_none (by rfl) _, rfl, by rw [hall] at hF; exact hF.af⟩
end
end Go.Proofs.YtkpcmfgeanlcnabDoor
