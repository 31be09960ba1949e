/-
  What each byte makes with a factor; a list of bytes times a factor; a multiple of a list added to another: run alone.
-/
import Derived.Test.YtkpcmfgeanlcnaaCoC
import Derived.Test.YtkpcmfgeanlcnaaLinesW
import Derived.Laws.Rows
import Derived.KernelRfl
namespace Go.Proofs.Ytkpcmfgeanlcnaa
open Go.RowKit Go.Deep

theorem wp_op_load {P : Program} {o : Oper} {a : Act} {w : World} {K : Act → World → Prop} {Q : Exit → Act → World → Prop} {t : TypeId} {x : Operand} {N : Nat} {v : Value} (ho : o.op = .load t x) (hx : a.eval x = .pointer (some ⟨N, 0, none⟩)) (hl : (loadVar t ⟨N, 0, none⟩).run P w = .ok v w) (h : K (a.put o.dst v) w) : o.wp P a w K Q := by
  unfold Oper.wp
  rw [run_op_load ho hx hl]
  exact h
theorem wp_op_store {P : Program} {o : Oper} {a : Act} {w w' : World} {K : Act → World → Prop} {Q : Exit → Act → World → Prop} {t : TypeId} {x y : Operand} {N : Nat} {v : Value} (ho : o.op = .store t x y) (hx : a.eval x = .pointer (some ⟨N, 0, none⟩)) (hy : a.eval y = v) (hl : (storeVar t ⟨N, 0, none⟩ v).run P w = .ok () w') (h : K (a.put o.dst undef) w') : o.wp P a w K Q := by
  unfold Oper.wp
  rw [run_op_store ho hx hy hl]
  exact h

theorem run_cells256 {w : World} {N : Nat} {c c' : Array Value} (h : w.heap[N]? = some (.cells c 93)) (hc : c.size = 256) (hc' : c'.size = 256) (h1 : ∀ v ∈ c', v.oneCell' = true) :
    (storeCells ⟨N, 0, none⟩ c'.toList).run Try.prog w = .ok () (w.setRow N c') := by
  have := run_storeCells_from (P := Try.prog) N _ c'.toList 0 c w h (by simp; omega) (fun v hv => h1 v (by simpa using hv))
  rw [this]
  congr 2

/-- Two tables: the result's variable, and the one that is filled. -/
structure PT (w : World) (f m : Nat) (w' : World) : Prop where
  h2 : w'.heap[w.heap.size]? = some (.cells Try.zeroCells93 93)
  h3 : w'.heap[w.heap.size + 1]? = some (.cells (ptab f m) 93)
  size : w'.heap.size = w.heap.size + 2
  below : Below w.heap.size w w'
theorem PT.start (w : World) (f : Nat) : PT w f 1 ((w.alloc (.cells Try.zeroCells93 93)).alloc (.cells Try.zeroCells93 93)) := by
  have e : ptab f 1 = Try.zeroCells93 := by
    rw [ptab_zero f, ← ptab_set f 0]
    apply Array.ext_getElem?
    intro i
    rw [Array.getElem?_setIfInBounds]
    by_cases h : 0 = i
    · subst h
      rw [if_pos rfl, if_pos (by simp [ptab]), ptab_get f 0 0 (by omega), zero_mul]
      rfl
    · rw [if_neg h]
  refine ⟨?_, ?_, by simp, ((Below.refl _ _).alloc (Nat.le_refl _) _).alloc (by simp) _⟩
  · show ((w.heap.push _).push _)[w.heap.size]? = _
    rw [Array.getElem?_push, if_neg (by rw [Array.size_push]; omega), Array.getElem?_push, if_pos rfl]
  · show ((w.heap.push _).push _)[w.heap.size + 1]? = _
    rw [Array.getElem?_push, if_pos (by simp), e]
theorem PT.set {w w' : World} {f m : Nat} (h : PT w f m w') : PT w f (m + 1) (w'.setCell ⟨w.heap.size + 1, m, none⟩ (.int .u8 ((mul m f : Nat) : Int))) :=
  ⟨(heap_setCell_other w' ⟨w.heap.size + 1, m, none⟩ w.heap.size _ (by show w.heap.size ≠ w.heap.size + 1; omega)).trans h.h2, by rw [heap_set _ h.h3, ptab_set], by simpa using h.size, h.below.setCell (by show w.heap.size ≤ w.heap.size + 1; omega) _⟩

set_option maxHeartbeats 2000000 in
set_option maxRecDepth 100000 in
theorem products_any (f : Nat) (hf : f < 256) (w : World) :
    Calls Try.prog 65 #[.int .u8 (f : Int)] w fun e w' => e = .returned (.agg (ptab f 256)) ∧ Below w.heap.size w w' := by
  have h0 := PT.start w f
  generalize hz : Try.zeroCells93 = Z at h0
  go_enter Try.func65, Try.ntmps65
  go_wp2
  generalize (w.alloc (Obj.cells Z 93)).alloc (Obj.cells Z 93) = w0 at h0 ⊢
  subst hz
  go_loopw [0, 4] (fun vf vb wr => ∃ k b fa : Nat, k ≤ 8 ∧ IsPow k b ∧ (k < 8 → fa = mul b f) ∧ fa < 256 ∧ vf = .int .u8 (fa : Int) ∧ vb = .int .i64 (b : Int) ∧ PT w f b wr) (fun _ b _ => 512 - (intOf b).toNat)
  case atStart => exact ⟨0, 1, f, by omega, rfl, fun _ => by rw [mul_comm (by omega) hf, mul_one hf], hf, rfl, rfl, h0⟩
  case round =>
    clear h0
    obtain ⟨k, b, fa, hk, hbk, hfa, hfl, rfl, rfl, hT⟩ := hrel
    have hk8 : b ≤ 256 := by
      have : ∀ k : Fin 9, 2 ^ k.val ≤ 256 := by decide
      rw [show b = 2 ^ k from hbk]
      exact this ⟨k, by omega⟩
    have hb1 : 1 ≤ b := by rw [show b = 2 ^ k from hbk]; exact Nat.one_le_two_pow
    by_cases hlt : b < 256
    · have hk7 : k < 8 := by
        rcases Nat.lt_or_ge k 8 with h | h
        · exact h
        · obtain rfl : k = 8 := by omega
          have : b = 256 := hbk
          omega
      obtain rfl := hfa hk7
      clear hfa
      have hlt' : (b : Int) < 256 := by omega
      go_wp2
      go_loopw [11] (fun vj wr => ∃ j : Nat, j ≤ b ∧ vj = .int .i64 (j : Int) ∧ PT w f (b + j) wr) (fun j _ => b - (intOf j).toNat)
      case atStart => exact ⟨0, by omega, rfl, hT⟩
      case round =>
        clear hT
        obtain ⟨j, hj, rfl, hT⟩ := hrel
        by_cases hjb : j < b
        · have hjb' : (j : Int) < (b : Int) := by omega
          have hbj : b + j < 256 := by
            have : ∀ k : Fin 8, 2 ^ k.val * 2 ≤ 256 := by decide
            have := this ⟨k, hk7⟩
            have e : b = 2 ^ k := hbk
            simp only at this
            omega
          have ev : mul (b + j) f = mul j f ^^^ mul b f := by
            have e : b = 2 ^ k := hbk
            rw [e]
            exact pow_add ⟨k, hk7⟩ j f (by rw [← e]; exact hjb)
          have c1 : wr.cell? ⟨w.heap.size + 1, j, none⟩ = some (.int .u8 ((mul j f : Nat) : Int)) := by rw [cell_of _ hT.h3, ptab_get _ _ _ (by omega), if_pos (by omega)]
          have c2 : wr.cell? ⟨w.heap.size + 1, b + j, none⟩ = some (.int .u8 0) := by rw [cell_of _ hT.h3, ptab_get _ _ _ hbj, if_neg (by omega)]; rfl
          have f2 : wr.frozen? ⟨w.heap.size + 1, b + j, none⟩ = false := thaw_of _ hT.h3 _
          have hm1 : mul j f < 256 := mul_lt (by omega)
          have hx : bits .xor .u8 ((mul j f : Nat) : Int) ((mul b f : Nat) : Int) = ((mul (b + j) f : Nat) : Int) := by rw [ev]; exact u8_xor_nat _ _ hm1 hfl
          have hT2 := hT.set
          generalize mul (b + j) f = q at hT2 hx
          generalize mul j f = p at c1 hx hm1
          clear ev
          go_wp2
          go_roundw
          case rel => exact ⟨j + 1, by omega, by go_num, hT2⟩
          case measure => simp [intOf]; omega
        · obtain rfl : j = b := by omega
          have hnl : ¬ ((j : Int) < (j : Int)) := by omega
          have hkb : k + 1 ≤ 8 := by omega
          have htx : k + 1 < 8 → tx (mul j f) = mul (j + j) f := fun h => by
            have e : j = 2 ^ k := hbk
            have := tx_pow ⟨k, by omega⟩ ⟨f, hf⟩
            rw [e, show 2 ^ k + 2 ^ k = 2 ^ (k + 1) by omega]
            exact this
          have hp2 : IsPow (k + 1) (j + j) := by
            have e : j = 2 ^ k := hbk
            show j + j = 2 ^ (k + 1)
            omega
          have htl := tx_lt hfl
          have hct := timesX_any (mul j f) hfl
          generalize mul j f = fa at *
          go_wp2_with (first | (go_at_call 32; (with_reducible refine (hct _).mono ?_); rintro e w' ⟨rfl, hw'⟩; obtain rfl := hw'.symm))
          go_roundw
          case rel => exact ⟨k + 1, j + j, tx fa, hkb, hp2, htx, htl, rfl, by go_num, hT⟩
          case measure => simp [intOf]; omega
    · have e : b = 256 := by omega
      subst e
      have hl := run_load256 hT.h3 (ptab_size f 256)
      have hs := run_cells256 hT.h2 (by rw [ptab_zero f]; exact ptab_size f 0) (ptab_size f 256) (ptab_one f 256)
      have hrow := heap_row (ptab f 256) hT.h2
      have hb2 : Below w.heap.size w (wr.setRow w.heap.size (ptab f 256)) := ⟨hT.below.os, hT.below.tape, hT.below.output, by rw [sz_row]; exact hT.below.size, fun k hk => (heap_row_other wr _ (by omega)).trans (hT.below.block k hk)⟩
      have hsz := ptab_size f 256
      generalize hTT : ptab f 256 = T at *
      go_wp2
      refine wp_op_load rfl rfl hl ?_
      apply_assumption
      go_wp2
      refine bodyPost_ret (results_cell_row (p := 2) rfl _ _ w.heap.size 93 _ (0, 0) _ (by rfl) hrow Try.underlying93 rfl (by rw [hsz]; exact a256)) rfl ?_
      exact ⟨by rw [hTT], hb2⟩
end Go.Proofs.Ytkpcmfgeanlcnaa
