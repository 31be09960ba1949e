/-
  In company: the field's doubling and the table of products.
-/
import Derived.Test.YtkpcmfgeanlcnaaProg
import Derived.Test.YtkpcmfgeanlcnaaField
import Derived.Test.YtkpcmfgeanlcnaaCoG
import Derived.Test.YtkpcmfgeanlcnaaMul
import Derived.Conc.CompanyMem
import Derived.Laws.MakeOwn
import Derived.OwnWalk
import Derived.Conc.AppendWalk
import Derived.RowKit
import Derived.KernelRfl
namespace Go.Proofs.Ytkpcmfgeanlcnaa
open Go.Conc Go.RowKit Go.Gh
open Go.ConcR (Payload)

section
variable {main : Bool} {R : World → World → Prop} {D : World → World → Array Event → Prop}
set_option maxRecDepth 100000 in
theorem timesX_c (T : Terms R D) : ∃ n, ∀ (a : Nat) (w : World), a < 256 → CallsC Try.prog main R D 32 #[.int .u8 (a : Int)] n w fun v w' => v = .int .u8 (tx a : Nat) ∧ Since R w w' := by
  co_apply Exists.intro
  intro a w ha
  co_apply callsC_of_wpC Try.func32 (by rfl) rfl
  have hF : Since R w w := .refl w
  simp only [Try.ntmps32, List.size_toArray, List.length_cons, List.length_nil, Nat.reduceAdd, Nat.reduceSub, Array.replicate_succ, Array.replicate_zero, List.push_toArray, List.append_toArray, List.nil_append, List.cons_append]
  co_go T (Since.rely T) hF (co_quiet T)
  co_split T (decide ((128 : Int) ≤ (a : Int)))
  · intro hx
    have hx' : 128 ≤ a := by have := of_decide_eq_true hx; omega
    co_go T (Since.rely T) hF (co_quiet T)
    refine ⟨rfl, _, resultsC_tmp (by rfl) _, ?_, hF⟩
    have e : IntKind.u8.wrap ((a : Int) * 2) = (a : Int) * 2 % 256 := by rw [IntKind.wrap_u8]
    simp only [Array.getD_eq_getD_getElem?, List.getElem?_toArray, List.getElem?_cons_succ, List.getElem?_cons_zero, Option.getD_some]
    rw [e, tx_hi hx']
  · intro hx
    have hx' : ¬ 128 ≤ a := by have := of_decide_eq_false hx; omega
    co_go T (Since.rely T) hF (co_quiet T)
    refine ⟨rfl, _, resultsC_tmp (by rfl) _, ?_, hF⟩
    have e : IntKind.u8.wrap ((a : Int) * 2) = (a : Int) * 2 := by rw [IntKind.wrap_u8]; omega
    simp only [Array.getD_eq_getD_getElem?, List.getElem?_toArray, List.getElem?_cons_succ, List.getElem?_cons_zero, Option.getD_some]
    rw [e, tx_lo hx']
end

/-- The table as far as it is made. -/
def ptab (f m : Nat) : Array Value := Array.ofFn (fun x : Fin 256 => .int .u8 ((if x.val < m then mul x.val f else 0 : Nat) : Int))
theorem ptab_zero (f : Nat) : Try.zeroCells93 = ptab f 0 := by
  have e : Try.zeroCells93 = Array.replicate 256 (.int .u8 0) := by kernel_rfl
  rw [e]
  apply Array.ext_getElem?
  intro i
  by_cases h : i < 256 <;> simp [ptab, h]
theorem ptab_get (f m x : Nat) (hx : x < 256) : (ptab f m)[x]? = some (.int .u8 ((if x < m then mul x f else 0 : Nat) : Int)) := by
  simp [ptab, hx]
theorem ptab_set (f m : Nat) : (ptab f m).setIfInBounds m (.int .u8 ((mul m f : Nat) : Int)) = ptab f (m + 1) := by
  apply Array.ext_getElem?
  intro i
  rw [Array.getElem?_setIfInBounds]
  simp only [ptab, Array.size_ofFn, Array.getElem?_ofFn]
  by_cases h : m = i
  · subst h; simp
  · rw [if_neg h]
    by_cases hi : i < 256
    · simp only [hi, dite_true]
      congr 3
      by_cases h1 : i < m
      · rw [if_pos h1, if_pos (by omega)]
      · rw [if_neg h1, if_neg (by omega)]
    · simp [hi]
theorem tx_pow : ∀ (k : Fin 7) (f : Fin 256), tx (mul (2 ^ k.val) f.val) = mul (2 ^ (k.val + 1)) f.val := by decide +kernel
theorem pow_add (k : Fin 8) (j f : Nat) (hj : j < 2 ^ k.val) : mul (2 ^ k.val + j) f = mul j f ^^^ mul (2 ^ k.val) f := by
  have hk : 2 ^ k.val ≤ 128 := by
    have : ∀ k : Fin 8, 2 ^ k.val ≤ 128 := by decide
    exact this k
  have e : 2 ^ k.val + j = j ^^^ 2 ^ k.val := by
    have := Nat.two_pow_add_eq_or_of_lt hj 1
    simp only [Nat.mul_one] at this
    rw [this, Nat.xor_comm]
    apply Nat.eq_of_testBit_eq
    intro i
    simp only [Nat.testBit_or, Nat.testBit_xor, Nat.testBit_two_pow]
    by_cases h1 : k.val = i
    · subst h1; simp [Nat.testBit_lt_two_pow hj]
    · simp [h1]
  rw [e, mul_xor_left f (by omega) (by omega)]

theorem cell_of (w : World) {N : Nat} {c : Array Value} {t : TypeId} (h : w.heap[N]? = some (.cells c t)) (i : Nat) : w.cell? ⟨N, i, none⟩ = c[i]? := by simp [World.cell?, h]
theorem thaw_of (w : World) {N : Nat} {c : Array Value} {t : TypeId} (h : w.heap[N]? = some (.cells c t)) (i : Nat) : w.frozen? ⟨N, i, none⟩ = false := by simp [World.frozen?, h]
theorem heap_set (w : World) {N : Nat} {c : Array Value} {t : TypeId} (h : w.heap[N]? = some (.cells c t)) (i : Nat) (v : Value) : (w.setCell ⟨N, i, none⟩ v).heap[N]? = some (.cells (c.setIfInBounds i v) t) := by
  simp [World.setCell, Array.getElem?_modify, h]
section
variable [Payload] {main : Bool} {Wg C n B : Nat} {Cl : Nat → Prop}

/-- What is always known of the world. -/
structure Bs (C B : Nat) (w : World) : Prop where
  tg : tagOf w ≤ w.heap.size
  hC : C < w.heap.size
  hB : B ≤ w.heap.size
  ow : ∀ b ∈ ownOf w, b < w.heap.size
omit [Payload] in
theorem Bs.lt {w : World} (h : Bs C B w) {b : Nat} (hb : Mine w b) : b < w.heap.size := mine_lt h.ow hb
theorem Bs.rely {w w₁ : World} (h : Bs C B w) (r : Ro Wg C n B Cl w w₁) : Bs C B w₁ :=
  ⟨Nat.le_of_eq r.tag, Nat.lt_of_lt_of_le h.hC r.size, Nat.le_trans h.hB r.size, fun b hb => Nat.lt_of_lt_of_le (h.lt ((r.own b).1 hb)) r.size⟩
omit [Payload] in
theorem Bs.alloc {w : World} (h : Bs C B w) (o : Obj) : Bs C B (w.alloc o) :=
  ⟨by rw [tag_same (w := w) (w' := w.alloc o) rfl, sz_alloc]; have := h.tg; omega, by rw [sz_alloc]; have := h.hC; omega, by rw [sz_alloc]; have := h.hB; omega, fun b hb => by rw [sz_alloc]; have := h.ow b hb; omega⟩
omit [Payload] in
theorem Bs.set {w : World} (h : Bs C B w) (a : Addr) (v : Value) : Bs C B (w.setCell a v) :=
  ⟨by rw [tag_same (w := w) (w' := w.setCell a v) rfl, sz_set]; exact h.tg, by rw [sz_set]; exact h.hC, by rw [sz_set]; exact h.hB, fun b hb => by rw [sz_set]; exact h.ow b hb⟩

structure PF (Wg C n B : Nat) (Cl : Nat → Prop) (w0 : World) (N2 N3 f m : Nat) (w : World) : Prop where
  bs : Bs C B w
  ex : Ex Wg C n B Cl (fun _ => False) w0 w
  lo2 : w0.heap.size ≤ N2
  lo3 : w0.heap.size ≤ N3
  ne : N2 ≠ N3
  m2 : Mine w N2
  m3 : Mine w N3
  h2 : w.heap[N2]? = some (.cells Try.zeroCells93 93)
  h3 : w.heap[N3]? = some (.cells (ptab f m) 93)
theorem PF.rely {w0 w w₁ : World} {N2 N3 f m : Nat} (h : PF Wg C n B Cl w0 N2 N3 f m w) (r : Ro Wg C n B Cl w w₁) : PF Wg C n B Cl w0 N2 N3 f m w₁ :=
  ⟨h.bs.rely r, h.ex.rely r, h.lo2, h.lo3, h.ne, (r.mineAt _).2 h.m2, (r.mineAt _).2 h.m3, (r.mine _ h.m2).trans h.h2, (r.mine _ h.m3).trans h.h3⟩
/-- A write into a block that was not there at the beginning. -/
theorem ex_fresh {w0 w : World} {S : Nat → Prop} (h : Ex Wg C n B Cl S w0 w) (hb : Bs C B w0) {a : Addr} (ha : w0.heap.size ≤ a.block) (v : Value) : Ex Wg C n B Cl S w0 (w.setCell a v) := by
  have hC := hb.hC
  have hB := hb.hB
  refine ⟨by rw [sz_set]; exact h.size, h.tape, h.os, fun ht => by rw [tag_same (w := w) (w' := w.setCell a v) rfl, sz_set]; exact h.tag ht, fun b x => mine_grow (w := w) (w' := w.setCell a v) rfl (by rw [sz_set]; omega) (h.own b x),
    fun b x y => (Below.heap_setCell _ _ _ _ (fun e => by have := hb.lt x; omega)).trans (h.mine b x y), fun b h1 h2 h3 => (Below.heap_setCell _ _ _ _ (fun e => by omega)).trans (h.low b h1 h2 h3),
    fun i x => (World.cell?_setCell_other _ _ _ _ (fun e => by rw [e] at ha; dsimp only at ha; omega)).trans (h.cell i x), fun p => ?_⟩
  obtain ⟨cs, h1, h2⟩ := h.pay p
  exact ⟨cs, (Below.heap_setCell _ _ _ _ (by omega)).trans h1, h2⟩
theorem ex_alloc {w0 w : World} {S : Nat → Prop} (h : Ex Wg C n B Cl S w0 w) (hb : Bs C B w) (o : Obj) : Ex Wg C n B Cl S w0 (w.alloc o) := h.trans (Ex.alloc hb.hC hb.hB (fun _ x => hb.lt x) o)
theorem PF.set {w0 w : World} (h0 : Bs C B w0) {N2 N3 f m : Nat} (h : PF Wg C n B Cl w0 N2 N3 f m w) : PF Wg C n B Cl w0 N2 N3 f (m + 1) (w.setCell ⟨N3, m, none⟩ (.int .u8 ((mul m f : Nat) : Int))) :=
  ⟨h.bs.set _ _, ex_fresh h.ex h0 h.lo3 _, h.lo2, h.lo3, h.ne, mine_grow (w := w) (w' := w.setCell _ _) rfl (by rw [sz_set]; omega) h.m2, mine_grow (w := w) (w' := w.setCell _ _) rfl (by rw [sz_set]; omega) h.m3,
    (Below.heap_setCell _ _ _ _ h.ne).trans h.h2, by rw [heap_set w h.h3, ptab_set]⟩

/-- b is the k-th power of 2 (a name, so that the walk's reckoning leaves it alone). -/
def IsPow (k b : Nat) : Prop := b = 2 ^ k
def PO (Wg C n B : Nat) (Cl : Nat → Prop) (w0 : World) (N2 N3 f : Nat) (a : Act) (w : World) : Prop :=
  ∃ (k b fa : Nat) (v1 v5 v6 v7 v8 v9 v10 v11 v12 v13 v14 v15 v16 v17 v18 v19 v20 v21 v22 v23 v24 v25 v26 : Value), k ≤ 8 ∧ IsPow k b ∧ (k < 8 → fa = mul b f) ∧ PF Wg C n B Cl w0 N2 N3 f b w ∧ a = { tmps := #[.int .u8 ((fa : Nat) : Int), v1, .pointer (some ⟨N2, 0, none⟩), .pointer (some ⟨N3, 0, none⟩), .int .i64 ((b : Nat) : Int), v5, v6, v7, v8, v9, v10, v11, v12, v13, v14, v15, v16, v17, v18, v19, v20, v21, v22, v23, v24, v25, v26], defers := [] }
def PI (Wg C n B : Nat) (Cl : Nat → Prop) (w0 : World) (N2 N3 f b : Nat) (a : Act) (w : World) : Prop :=
  ∃ (j : Nat) (v1 v5 v6 v7 v8 v9 v12 v13 v14 v15 v16 v17 v18 v19 v20 v21 v22 v23 v24 v25 v26 : Value), j ≤ b ∧ PF Wg C n B Cl w0 N2 N3 f (b + j) w ∧ a = { tmps := #[.int .u8 ((mul b f : Nat) : Int), v1, .pointer (some ⟨N2, 0, none⟩), .pointer (some ⟨N3, 0, none⟩), .int .i64 ((b : Nat) : Int), v5, v6, v7, v8, v9, .int .i64 ((b : Nat) : Int), .int .i64 ((j : Nat) : Int), v12, v13, v14, v15, v16, v17, v18, v19, v20, v21, v22, v23, v24, v25, v26], defers := [] }
def muO (a : Act) (_ : World) : Nat := match a.tmps.getD 4 undef with | .int _ j => 256 - j.toNat | _ => 0
def muI (a : Act) (_ : World) : Nat := match a.tmps.getD 11 undef with | .int _ j => 256 - j.toNat | _ => 0
end
end Go.Proofs.Ytkpcmfgeanlcnaa
