/-
  In company: the table of products.
-/
import Derived.Test.YtkpcmfgeanlcnaaCoB
namespace Go.Proofs.Ytkpcmfgeanlcnaa
open Go.Conc Go.RowKit Go.Gh
open Go.ConcR (Payload)

section
variable [Payload] {main : Bool} {Wg C n B : Nat} {Cl : Nat → Prop}

structure P0 (Wg C n B : Nat) (Cl : Nat → Prop) (w0 w : World) : Prop where
  bs : Bs C B w
  ex : Ex Wg C n B Cl (fun _ => False) w0 w
theorem P0.rely {w0 w w₁ : World} (h : P0 Wg C n B Cl w0 w) (r : Ro Wg C n B Cl w w₁) : P0 Wg C n B Cl w0 w₁ := ⟨h.bs.rely r, h.ex.rely r⟩
structure P1 (Wg C n B : Nat) (Cl : Nat → Prop) (w0 : World) (N2 : Nat) (w : World) : Prop where
  bs : Bs C B w
  ex : Ex Wg C n B Cl (fun _ => False) w0 w
  lo2 : w0.heap.size ≤ N2
  m2 : Mine w N2
  h2 : w.heap[N2]? = some (.cells Try.zeroCells93 93)
theorem P1.rely {w0 w w₁ : World} {N2 : Nat} (h : P1 Wg C n B Cl w0 N2 w) (r : Ro Wg C n B Cl w w₁) : P1 Wg C n B Cl w0 N2 w₁ := ⟨h.bs.rely r, h.ex.rely r, h.lo2, (r.mineAt _).2 h.m2, (r.mine _ h.m2).trans h.h2⟩
omit [Payload] in
theorem heap_new (w : World) (o : Obj) : (w.alloc o).heap[w.heap.size]? = some o := by show (w.heap.push o)[w.heap.size]? = some o; simp
theorem P0.alloc {w0 w : World} (h : P0 Wg C n B Cl w0 w) : P1 Wg C n B Cl w0 w.heap.size (w.alloc (.cells Try.zeroCells93 93)) :=
  ⟨h.bs.alloc _, ex_alloc h.ex h.bs _, h.ex.size, mine_fresh (w := w) (w' := w.alloc _) rfl h.bs.tg (Nat.le_refl _) (by rw [sz_alloc]; omega), heap_new w _⟩
omit [Payload] in
theorem ptab_01 (f : Nat) : ptab f 0 = ptab f 1 := by
  have := ptab_set f 0
  rw [← this]
  apply Array.ext_getElem?
  intro i
  rw [Array.getElem?_setIfInBounds]
  split
  · rename_i h; subst h; simp [ptab, zero_mul]
  · rfl
theorem P1.alloc {w0 w : World} {N2 : Nat} (f : Nat) (h : P1 Wg C n B Cl w0 N2 w) : PF Wg C n B Cl w0 N2 w.heap.size f 1 (w.alloc (.cells Try.zeroCells93 93)) := by
  have hlt := h.bs.lt h.m2
  refine ⟨h.bs.alloc _, ex_alloc h.ex h.bs _, h.lo2, h.ex.size, by omega, mine_grow (w := w) (w' := w.alloc _) rfl (by rw [sz_alloc]; omega) h.m2, mine_fresh (w := w) (w' := w.alloc _) rfl h.bs.tg (Nat.le_refl _) (by rw [sz_alloc]; omega),
    (Below.heap_alloc _ _ _ hlt).trans h.h2, ?_⟩
  rw [heap_new, ptab_zero f, ptab_01]
/-- What is held at the end. -/
structure PE (Wg C n B : Nat) (Cl : Nat → Prop) (w0 : World) (N2 f : Nat) (w : World) : Prop where
  bs : Bs C B w
  ex : Ex Wg C n B Cl (fun _ => False) w0 w
  m2 : Mine w N2
  h2 : w.heap[N2]? = some (.cells (ptab f 256) 93)
theorem PE.rely {w0 w w₁ : World} {N2 f : Nat} (h : PE Wg C n B Cl w0 N2 f w) (r : Ro Wg C n B Cl w w₁) : PE Wg C n B Cl w0 N2 f w₁ := ⟨h.bs.rely r, h.ex.rely r, (r.mineAt _).2 h.m2, (r.mine _ h.m2).trans h.h2⟩
omit [Payload] in
theorem ptab_size (f m : Nat) : (ptab f m).size = 256 := by simp [ptab]
omit [Payload] in
theorem ptab_one (f m : Nat) : ∀ v ∈ ptab f m, v.oneCell' = true := by
  intro v hv
  simp only [ptab, Array.mem_ofFn] at hv
  obtain ⟨i, rfl⟩ := hv
  rfl
theorem PF.ne0 {w0 w : World} (h0 : Bs C B w0) {N2 N3 f m : Nat} (h : PF Wg C n B Cl w0 N2 N3 f m w) : N2 ≠ C ∧ N3 ≠ C := by have := h0.hC; have := h.lo2; have := h.lo3; omega

theorem PF.cell {w0 w : World} {N2 N3 f m : Nat} (h : PF Wg C n B Cl w0 N2 N3 f m w) {x : Nat} (hx : x < 256) (hm : x < m) : w.cell? ⟨N3, x, none⟩ = some (.int .u8 ((mul x f : Nat) : Int)) := by
  rw [cell_of _ h.h3, ptab_get _ _ _ hx, if_pos hm]
theorem PF.cell0 {w0 w : World} {N2 N3 f m : Nat} (h : PF Wg C n B Cl w0 N2 N3 f m w) (hx : m < 256) : w.cell? ⟨N3, m, none⟩ = some (.int .u8 0) := by
  rw [cell_of _ h.h3, ptab_get _ _ _ hx, if_neg (by omega)]; rfl
theorem PF.thaw {w0 w : World} {N2 N3 f m : Nat} (h : PF Wg C n B Cl w0 N2 N3 f m w) (x : Nat) : w.frozen? ⟨N3, x, none⟩ = false := thaw_of _ h.h3 x

set_option maxRecDepth 100000 in
set_option maxHeartbeats 1000000 in
theorem products_c : ∃ k, ∀ (f : Nat) (w : World), f < 256 → Bs C B w → CallsG Try.prog main (Ro Wg C n B Cl) (Dg Wg C n B Cl) 65 #[.int .u8 (f : Int)] k w fun v w' => v = .agg (ptab f 256) ∧ Bs C B w' ∧ Ex Wg C n B Cl (fun _ => False) w w' := by
  obtain ⟨kx, hx⟩ := timesX_c (main := main) (termsG (Wg := Wg) (C := C) (n := n) (B := B) (Cl := Cl))
  co_apply Exists.intro
  intro f w hf hb
  co_apply callsG_of_wpC termsG Try.func65 (by rfl) rfl (Q := fun a' w' => a'.defers = [] ∧ ∃ N2, a'.tmps.getD 2 undef = .pointer (some ⟨N2, 0, none⟩) ∧ PE Wg C n B Cl w N2 f w')
  · rintro a' w' ⟨hd, N2, ht, hE⟩
    refine ⟨hd, fun w₁ r => ?_⟩
    replace hE := hE.rely r
    obtain ⟨h1, h2⟩ := results_cell_run (fn := Try.f65) rfl ht (run_load256 hE.h2 (ptab_size f 256))
    refine ⟨_, h1, ?_, rfl, hE.bs, hE.ex⟩
    rw [h2]
    exact dg_read (.inl hE.m2) (hE.bs.lt hE.m2) (fun e he => ev_load256 hE.h2 (ptab_size f 256) e (mem_seen he))
  have h0 := hb
  simp only [Try.ntmps65, List.size_toArray, List.length_cons, List.length_nil, Nat.reduceAdd, Nat.reduceSub, Array.replicate_succ, Array.replicate_zero, List.push_toArray, List.append_toArray, List.nil_append, List.cons_append]
  -- the two variables
  have hF : P0 Wg C n B Cl w w := ⟨hb, .refl w⟩
  co_apply wpC_seq termsG
  co_reg termsG
  co_opw P0.rely hF (skip) (rw [listed_nil (by simp [go_sem])]; exact dg_alloc hF.bs.hC _ rfl)
  replace hF := hF.alloc
  generalize hN2 : Array.size (World.heap _) = N2 at hF ⊢
  clear hN2
  co_apply opsC_nil termsG
  co_then
  co_apply wpC_seq termsG
  co_reg termsG
  co_opw P1.rely hF (skip) (rw [listed_nil (by simp [go_sem])]; exact dg_alloc hF.bs.hC _ rfl)
  replace hF := hF.alloc f
  generalize hN3 : Array.size (World.heap _) = N3 at hF ⊢
  clear hN3
  co_apply opsC_nil termsG
  co_then
  co_apply wpC_seq termsG
  co_apply wpC_seq termsG
  co_reg termsG
  co_op PF.rely hF (co_quiet termsG)
  co_apply opsC_nil termsG
  co_then
  co_apply wpC_block termsG
  co_apply wpC_loop termsG (PO Wg C n B Cl w N2 N3 f) muO _ 255
  · exact ⟨0, 1, mul 1 f, _, _, _, _, _, _, _, _, _, _, _, _, _, _, _, _, _, _, _, _, _, _, _, by omega, rfl, fun _ => rfl, hF, by rw [show mul 1 f = f from by rw [mul_comm (by omega) hf, mul_one hf]]; rfl⟩
  · simp [muO]
  · rintro a w' ⟨k, b, fa, v1, v5, v6, v7, v8, v9, v10, v11, v12, v13, v14, v15, v16, v17, v18, v19, v20, v21, v22, v23, v24, v25, v26, hk, hbk, hfa, hF, rfl⟩
    have hk8 : b ≤ 256 := by
      have : ∀ k : Fin 9, 2 ^ k.val ≤ 256 := by decide
      rw [show b = 2 ^ k from hbk]
      exact this ⟨k, by omega⟩
    have hb1 : 1 ≤ b := by rw [show b = 2 ^ k from hbk]; exact Nat.one_le_two_pow
    co_go termsG PF.rely hF (co_quiet termsG)
    co_split termsG (decide (((b : Nat) : Int) < 256))
    · intro hlt
      have hlt' : b < 256 := by have := of_decide_eq_true hlt; omega
      clear hlt
      have hk7 : k < 8 := by
        rcases Nat.lt_or_ge k 8 with h | h
        · exact h
        · obtain rfl : k = 8 := by omega
          have : b = 256 := hbk
          omega
      obtain rfl : fa = mul b f := hfa hk7
      have hmb : mul b f < 256 := mul_lt (by omega)
      co_go termsG PF.rely hF (co_quiet termsG)
      co_apply wpC_loop termsG (PI Wg C n B Cl w N2 N3 f b) muI _ 256
      · exact ⟨0, _, _, _, _, _, _, _, _, _, _, _, _, _, _, _, _, _, _, _, _, _, Nat.zero_le _, hF, rfl⟩
      · simp [muI]
      · rintro a w' ⟨j, u1, u5, u6, u7, u8, u9, u12, u13, u14, u15, u16, u17, u18, u19, u20, u21, u22, u23, u24, u25, u26, hj, hF, rfl⟩
        co_go termsG PF.rely hF (co_quiet termsG)
        co_split termsG (decide (((j : Nat) : Int) < ((b : Nat) : Int)))
        · intro hjl
          have hjl' : j < b := by have := of_decide_eq_true hjl; omega
          clear hjl
          have hj256 : (j : Int) < 256 := by omega
          have hs256 : b + j < 256 := by
            have : ∀ k : Fin 8, 2 ^ k.val + 2 ^ k.val ≤ 256 := by decide
            have := this ⟨k, hk7⟩
            simp only [← (show b = 2 ^ k from hbk)] at this
            omega
          have hs1 : (b : Int) + (j : Int) < 256 := by omega
          have hs0 : 0 ≤ (b : Int) + (j : Int) := by omega
          have htn : ((b : Int) + (j : Int)).toNat = b + j := by omega
          have hwr : IntKind.i64.wrap ((b : Int) + (j : Int)) = ((b + j : Nat) : Int) := by rw [IntKind.wrap_i64]; omega
          have hsp := pow_add ⟨k, hk7⟩ j f (by rw [← (show b = 2 ^ k from hbk)]; exact hjl')
          simp only [← (show b = 2 ^ k from hbk)] at hsp
          have hxr : bits .xor .u8 ((mul j f : Nat) : Int) ((mul b f : Nat) : Int) = ((mul (b + j) f : Nat) : Int) := by rw [u8_xor_nat _ _ (mul_lt (by omega)) hmb, hsp]
          have hix : ∀ (w : World) (es : Array Event), (Instr.indexAt 93 (.pointer (some ⟨N3, 0, none⟩)) (.int .i64 (j : Int))).events Try.prog w es = es := fun w es => events_indexAt_array _ _ _ _ _ _ Try.underlying93 ⟨by omega, by omega⟩
          have hiy : ∀ (w : World) (es : Array Event), (Instr.indexAt 93 (.pointer (some ⟨N3, 0, none⟩)) (.int .i64 ((b : Int) + (j : Int)))).events Try.prog w es = es := fun w es => events_indexAt_array _ _ _ _ _ _ Try.underlying93 ⟨by omega, by omega⟩
          co_ctl termsG
          co_then
          co_ctl termsG
          co_ctl termsG
          co_ctl termsG
          co_reg termsG
          co_op PF.rely hF (co_quiet termsG)
          co_op PF.rely hF (co_quiet termsG)
          co_apply opsC_nil termsG
          co_then
          co_reg termsG
          co_op PF.rely hF (co_quiet termsG)
          co_op PF.rely hF (co_quiet termsG)
          co_op PF.rely hF (co_quiet termsG)
          co_op PF.rely hF (co_quiet termsG)
          co_opw PF.rely hF (skip) (co_still termsG)
          co_opw PF.rely hF (have hc := hF.cell (x := j) (by omega) (by omega)) (refine dg_read (.inl hF.m3) (hF.bs.lt hF.m3) ?_; co_evs (exact ⟨_, rfl, rfl⟩))
          clear hc
          co_op PF.rely hF (co_quiet termsG)
          co_op PF.rely hF (co_quiet termsG)
          co_opw PF.rely hF (skip) (co_still termsG)
          co_opw PF.rely hF (have hc := hF.cell0 hs256; have hz := hF.thaw (b + j)) (refine dg_set hF.m3 (hF.ne0 h0).2 (hF.bs.lt hF.m3) ?_; co_evs (exact ⟨_, _, rfl, rfl⟩))
          replace hF := hF.set h0
          rw [hsp] at hF
          clear hc hz
          co_apply opsC_nil termsG
          co_then
          co_reg termsG
          co_op PF.rely hF (co_quiet termsG)
          co_op PF.rely hF (co_quiet termsG)
          co_apply opsC_nil termsG
          co_then
          have hw1 : IntKind.i64.wrap ((j : Int) + 1) = ((j + 1 : Nat) : Int) := by rw [IntKind.wrap_i64]; omega
          simp only [hw1]
          refine ⟨⟨j + 1, _, _, _, _, _, _, _, _, _, _, _, _, _, _, _, _, _, _, _, _, _, by omega, hF, rfl⟩, ?_⟩
          simp [muI]
          omega
        · intro hjl
          obtain rfl : j = b := by have := of_decide_eq_false hjl; omega
          clear hjl
          co_go termsG PF.rely hF (co_quiet termsG)
          co_apply opsC_call termsG rfl (by rfl) rfl
          · walk_nrm
            exact hx _ _ hmb
          rintro v w' ⟨rfl, hs⟩
          replace hF : PF Wg C n B Cl w N2 N3 f (j + j) w' := hs.elim (fun e => e ▸ hF) (fun r => hF.rely r)
          clear hs
          walk_nrm
          co_op PF.rely hF (co_quiet termsG)
          co_apply opsC_nil termsG
          co_then
          have hk2 : k = 7 ∨ k < 7 := by omega
          have hjj : IsPow (k + 1) (j + j) := by
            have e : j = 2 ^ k := hbk
            show j + j = 2 ^ (k + 1)
            rw [Nat.pow_succ]; omega
          have hwr : IntKind.i64.wrap ((j : Int) * 2) = ((j + j : Nat) : Int) := by rw [IntKind.wrap_i64]; omega
          have htx : k + 1 < 8 → tx (mul j f) = mul (j + j) f := by
            intro hk3
            have := tx_pow ⟨k, by omega⟩ ⟨f, hf⟩
            simp only [← (show j = 2 ^ k from hbk), ← (show j + j = 2 ^ (k + 1) from hjj)] at this
            exact this
          generalize tx (mul j f) = fa at htx ⊢
          co_go termsG PF.rely hF (co_quiet termsG)
          refine ⟨⟨k + 1, j + j, fa, _, _, _, _, _, _, _, _, _, _, _, _, _, _, _, _, _, _, _, _, _, _, _, by omega, hjj, htx, hF, rfl⟩, ?_⟩
          simp [muO]
          omega
    · intro hlt
      obtain rfl : k = 8 := by
        have := of_decide_eq_false hlt
        rcases Nat.lt_or_ge k 8 with h | h
        · have h2 : ∀ k : Fin 8, 2 ^ k.val < 256 := by decide
          have := h2 ⟨k, h⟩
          simp only [← (show b = 2 ^ k from hbk)] at this
          omega
        · omega
      obtain rfl : b = 256 := hbk
      co_go termsG PF.rely hF (co_quiet termsG)
      co_apply opsC_cons rfl (by rfl)
      intro w₁ r
      replace hF := hF.rely r
      clear r
      have hz : Try.zeroCells93.size = 256 := by rw [ptab_zero f]; exact ptab_size f 0
      obtain ⟨T, hT, hTs, hT1⟩ : ∃ T, ptab f 256 = T ∧ T.size = 256 ∧ ∀ v ∈ T, v.oneCell' = true := ⟨_, rfl, ptab_size f _, ptab_one f _⟩
      have h3 := hF.h3
      rw [hT] at h3
      rw [run_op_load rfl rfl (run_load256 h3 hTs)]
      simp only [uponK_value]
      refine ⟨?_, ?_⟩
      · unfold listed
        rw [ev_op_load rfl rfl]
        exact dg_read (.inl hF.m3) (hF.bs.lt hF.m3) (fun e he => ev_load256 h3 hTs e (mem_seen he))
      clear h3
      walk_nrm
      co_apply opsC_cons rfl (by rfl)
      intro w₁ r
      replace hF := hF.rely r
      clear r
      have hrun := run_store256 (c' := T) hF.h2 hz hTs hT1
      rw [run_op_store (v := .agg T) rfl rfl rfl hrun]
      simp only [uponK_skip]
      refine ⟨?_, ?_⟩
      · unfold listed
        rw [ev_op_store (v := .agg T) rfl rfl rfl]
        exact dg_row hF.m2 (hF.ne0 h0).1 (hF.bs.lt hF.m2) (fun e he => ev_store256 (c' := T) hF.h2 hz hTs hT1 e (mem_seen he))
      clear hrun
      have hE : PE Wg C n B Cl w N2 f (World.setRow w₁ N2 T) := ⟨hF.bs.row _ _, ex_row hF.ex h0 hF.lo2 _, mine_grow (w := w₁) (w' := World.setRow w₁ N2 _) rfl (by rw [sz_row]; omega) hF.m2, by rw [hT]; exact heap_row _ hF.h2⟩
      walk_nrm
      co_apply opsC_nil termsG
      co_then
      co_apply wpC_ret termsG
      exact ⟨rfl, N2, rfl, hE⟩
end
end Go.Proofs.Ytkpcmfgeanlcnaa
