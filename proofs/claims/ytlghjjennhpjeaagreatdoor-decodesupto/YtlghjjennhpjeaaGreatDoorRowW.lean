/-
  In company: the field's doubling and the table of products.
-/
import Derived.Test.YtlghjjennhpjeaaGreatDoorProg
import Derived.Test.YtlghjjennhpjeaaGreatDoorMul
import Derived.Conc.CompanyMem
import Derived.Laws.MakeOwn
import Derived.OwnWalk
import Derived.Conc.AppendWalk
import Derived.RowKit
import Derived.KernelRfl
import Derived.Laws.Rows
import Derived.Laws.Tables
import Derived.Deep.OwnRows
namespace Go.Proofs.YtlghjjennhpjeaaGreatDoor
open Go.Conc Go.RowKit Go.Gh
open Go.ConcR (Payload)

section
variable {main : Bool} {R : World → World → Prop} {D : World → World → Array Event → Prop}
set_option maxRecDepth 100000 in
theorem timesX_c (T : Terms R D) : ∃ n, ∀ (a : Nat) (w : World), a < 256 → CallsC Tryz.prog main R D 137 #[.int .u8 (a : Int)] n w fun v w' => v = .int .u8 (tx a : Nat) ∧ Since R w w' := by
  co_apply Exists.intro
  intro a w ha
  co_apply callsC_of_wpC Tryz.func137 (by rfl) rfl
  have hF : Since R w w := .refl w
  simp only [Tryz.ntmps137, List.size_toArray, List.length_cons, List.length_nil, Nat.reduceAdd, Nat.reduceSub, Array.replicate_succ, Array.replicate_zero, List.push_toArray, List.append_toArray, List.nil_append, List.cons_append]
  co_go T (Since.rely T) hF (co_quiet T)
  co_split T (decide ((128 : Int) ≤ (a : Int)))
  · intro hx
    have hx' : 128 ≤ a := by have := of_decide_eq_true hx; omega
    co_go T (Since.rely T) hF (co_quiet T)
    refine ⟨rfl, _, resultsC_tmp (by rfl) _, ?_, hF⟩
    have e : IntKind.u8.wrap ((a : Int) * 2) = (a : Int) * 2 % 256 := by rw [IntKind.wrap_u8]
    simp only [Array.getD_eq_getD_getElem?, List.getElem?_toArray, List.getElem?_cons_succ, List.getElem?_cons_zero, Option.getD_some]
    rw [e, tx_hi hx']
  · intro hx
    have hx' : ¬ 128 ≤ a := by have := of_decide_eq_false hx; omega
    co_go T (Since.rely T) hF (co_quiet T)
    refine ⟨rfl, _, resultsC_tmp (by rfl) _, ?_, hF⟩
    have e : IntKind.u8.wrap ((a : Int) * 2) = (a : Int) * 2 := by rw [IntKind.wrap_u8]; omega
    simp only [Array.getD_eq_getD_getElem?, List.getElem?_toArray, List.getElem?_cons_succ, List.getElem?_cons_zero, Option.getD_some]
    rw [e, tx_lo hx']
end

/-- The table as far as it is made. -/
def ptab (f m : Nat) : Array Value := Array.ofFn (fun x : Fin 256 => .int .u8 ((if x.val < m then mul x.val f else 0 : Nat) : Int))
theorem ptab_zero (f : Nat) : Tryz.zeroCells197 = ptab f 0 := by
  have e : Tryz.zeroCells197 = Array.replicate 256 (.int .u8 0) := by kernel_rfl
  rw [e]
  apply Array.ext_getElem?
  intro i
  by_cases h : i < 256 <;> simp [ptab, h]
theorem ptab_get (f m x : Nat) (hx : x < 256) : (ptab f m)[x]? = some (.int .u8 ((if x < m then mul x f else 0 : Nat) : Int)) := by
  simp [ptab, hx]
theorem ptab_set (f m : Nat) : (ptab f m).setIfInBounds m (.int .u8 ((mul m f : Nat) : Int)) = ptab f (m + 1) := by
  apply Array.ext_getElem?
  intro i
  rw [Array.getElem?_setIfInBounds]
  simp only [ptab, Array.size_ofFn, Array.getElem?_ofFn]
  by_cases h : m = i
  · subst h; simp
  · rw [if_neg h]
    by_cases hi : i < 256
    · simp only [hi, dite_true]
      congr 3
      by_cases h1 : i < m
      · rw [if_pos h1, if_pos (by omega)]
      · rw [if_neg h1, if_neg (by omega)]
    · simp [hi]
theorem tx_pow : ∀ (k : Fin 7) (f : Fin 256), tx (mul (2 ^ k.val) f.val) = mul (2 ^ (k.val + 1)) f.val := by decide +kernel
theorem pow_add (k : Fin 8) (j f : Nat) (hj : j < 2 ^ k.val) : mul (2 ^ k.val + j) f = mul j f ^^^ mul (2 ^ k.val) f := by
  have hk : 2 ^ k.val ≤ 128 := by
    have : ∀ k : Fin 8, 2 ^ k.val ≤ 128 := by decide
    exact this k
  have e : 2 ^ k.val + j = j ^^^ 2 ^ k.val := by
    have := Nat.two_pow_add_eq_or_of_lt hj 1
    simp only [Nat.mul_one] at this
    rw [this, Nat.xor_comm]
    apply Nat.eq_of_testBit_eq
    intro i
    simp only [Nat.testBit_or, Nat.testBit_xor, Nat.testBit_two_pow]
    by_cases h1 : k.val = i
    · subst h1; simp [Nat.testBit_lt_two_pow hj]
    · simp [h1]
  rw [e, mul_xor_left f (by omega) (by omega)]

theorem cell_of (w : World) {N : Nat} {c : Array Value} {t : TypeId} (h : w.heap[N]? = some (.cells c t)) (i : Nat) : w.cell? ⟨N, i, none⟩ = c[i]? := by simp [World.cell?, h]
theorem thaw_of (w : World) {N : Nat} {c : Array Value} {t : TypeId} (h : w.heap[N]? = some (.cells c t)) (i : Nat) : w.frozen? ⟨N, i, none⟩ = false := by simp [World.frozen?, h]
theorem heap_set (w : World) {N : Nat} {c : Array Value} {t : TypeId} (h : w.heap[N]? = some (.cells c t)) (i : Nat) (v : Value) : (w.setCell ⟨N, i, none⟩ v).heap[N]? = some (.cells (c.setIfInBounds i v) t) := by
  simp [World.setCell, Array.getElem?_modify, h]
section
variable [Payload] [OldG] {main : Bool} {Wg C n B : Nat} {Cl : Nat → Prop}

/-- What is always known of the world. -/
structure Bs (C B : Nat) (w : World) : Prop where
  tg : tagOf w ≤ w.heap.size
  hC : C < w.heap.size
  hB : B ≤ w.heap.size
  ow : ∀ b ∈ ownOf w, b < w.heap.size
omit [Payload] [OldG] in
theorem Bs.lt {w : World} (h : Bs C B w) {b : Nat} (hb : Mine w b) : b < w.heap.size := mine_lt h.ow hb
omit [OldG] in
theorem Bs.rely {w w₁ : World} (h : Bs C B w) (r : Ro Wg C n B Cl w w₁) : Bs C B w₁ :=
  ⟨Nat.le_of_eq r.tag, Nat.lt_of_lt_of_le h.hC r.size, Nat.le_trans h.hB r.size, fun b hb => Nat.lt_of_lt_of_le (h.lt ((r.own b).1 hb)) r.size⟩
omit [Payload] [OldG] in
theorem Bs.alloc {w : World} (h : Bs C B w) (o : Obj) : Bs C B (w.alloc o) :=
  ⟨by rw [tag_same (w := w) (w' := w.alloc o) rfl, sz_alloc]; have := h.tg; omega, by rw [sz_alloc]; have := h.hC; omega, by rw [sz_alloc]; have := h.hB; omega, fun b hb => by rw [sz_alloc]; have := h.ow b hb; omega⟩
omit [Payload] [OldG] in
theorem Bs.set {w : World} (h : Bs C B w) (a : Addr) (v : Value) : Bs C B (w.setCell a v) :=
  ⟨by rw [tag_same (w := w) (w' := w.setCell a v) rfl, sz_set]; exact h.tg, by rw [sz_set]; exact h.hC, by rw [sz_set]; exact h.hB, fun b hb => by rw [sz_set]; exact h.ow b hb⟩

structure PF (Wg C n B : Nat) (Cl : Nat → Prop) (w0 : World) (N2 N3 f m : Nat) (w : World) : Prop where
  bs : Bs C B w
  ex : Ex Wg C n B Cl (fun _ => False) w0 w
  lo2 : w0.heap.size ≤ N2
  lo3 : w0.heap.size ≤ N3
  ne : N2 ≠ N3
  m2 : Mine w N2
  m3 : Mine w N3
  h2 : w.heap[N2]? = some (.cells Tryz.zeroCells197 197)
  h3 : w.heap[N3]? = some (.cells (ptab f m) 197)
omit [OldG] in
theorem PF.rely {w0 w w₁ : World} {N2 N3 f m : Nat} (h : PF Wg C n B Cl w0 N2 N3 f m w) (r : Ro Wg C n B Cl w w₁) : PF Wg C n B Cl w0 N2 N3 f m w₁ :=
  ⟨h.bs.rely r, h.ex.rely r, h.lo2, h.lo3, h.ne, (r.mineAt _).2 h.m2, (r.mineAt _).2 h.m3, (r.mine _ h.m2).trans h.h2, (r.mine _ h.m3).trans h.h3⟩
omit [OldG] in
/-- A write into a block that was not there at the beginning. -/
theorem ex_fresh {w0 w : World} {S : Nat → Prop} (h : Ex Wg C n B Cl S w0 w) (hb : Bs C B w0) {a : Addr} (ha : w0.heap.size ≤ a.block) (v : Value) : Ex Wg C n B Cl S w0 (w.setCell a v) := by
  have hC := hb.hC
  have hB := hb.hB
  refine ⟨by rw [sz_set]; exact h.size, h.tape, h.os, fun ht => by rw [tag_same (w := w) (w' := w.setCell a v) rfl, sz_set]; exact h.tag ht, fun b x => mine_grow (w := w) (w' := w.setCell a v) rfl (by rw [sz_set]; omega) (h.own b x),
    fun b x y => (Below.heap_setCell _ _ _ _ (fun e => by have := hb.lt x; omega)).trans (h.mine b x y), fun b h1 h2 h3 => (Below.heap_setCell _ _ _ _ (fun e => by omega)).trans (h.low b h1 h2 h3),
    fun i x => (World.cell?_setCell_other _ _ _ _ (fun e => by rw [e] at ha; dsimp only at ha; omega)).trans (h.cell i x), fun p => ?_⟩
  obtain ⟨cs, h1, h2⟩ := h.pay p
  exact ⟨cs, (Below.heap_setCell _ _ _ _ (by omega)).trans h1, h2⟩
omit [OldG] in
theorem ex_alloc {w0 w : World} {S : Nat → Prop} (h : Ex Wg C n B Cl S w0 w) (hb : Bs C B w) (o : Obj) : Ex Wg C n B Cl S w0 (w.alloc o) := h.trans (Ex.alloc hb.hC hb.hB (fun _ x => hb.lt x) o)
omit [OldG] in
theorem PF.set {w0 w : World} (h0 : Bs C B w0) {N2 N3 f m : Nat} (h : PF Wg C n B Cl w0 N2 N3 f m w) : PF Wg C n B Cl w0 N2 N3 f (m + 1) (w.setCell ⟨N3, m, none⟩ (.int .u8 ((mul m f : Nat) : Int))) :=
  ⟨h.bs.set _ _, ex_fresh h.ex h0 h.lo3 _, h.lo2, h.lo3, h.ne, mine_grow (w := w) (w' := w.setCell _ _) rfl (by rw [sz_set]; omega) h.m2, mine_grow (w := w) (w' := w.setCell _ _) rfl (by rw [sz_set]; omega) h.m3,
    (Below.heap_setCell _ _ _ _ h.ne).trans h.h2, by rw [heap_set w h.h3, ptab_set]⟩

/-- b is the k-th power of 2 (a name, so that the walk's reckoning leaves it alone). -/
def IsPow (k b : Nat) : Prop := b = 2 ^ k
def PO (Wg C n B : Nat) (Cl : Nat → Prop) (w0 : World) (N2 N3 f : Nat) (a : Act) (w : World) : Prop :=
  ∃ (k b fa : Nat) (v1 v5 v6 v7 v8 v9 v10 v11 v12 v13 v14 v15 v16 v17 v18 v19 v20 v21 v22 v23 v24 v25 v26 : Value), k ≤ 8 ∧ IsPow k b ∧ (k < 8 → fa = mul b f) ∧ PF Wg C n B Cl w0 N2 N3 f b w ∧ a = { tmps := #[.int .u8 ((fa : Nat) : Int), v1, .pointer (some ⟨N2, 0, none⟩), .pointer (some ⟨N3, 0, none⟩), .int .i64 ((b : Nat) : Int), v5, v6, v7, v8, v9, v10, v11, v12, v13, v14, v15, v16, v17, v18, v19, v20, v21, v22, v23, v24, v25, v26], defers := [] }
def PI (Wg C n B : Nat) (Cl : Nat → Prop) (w0 : World) (N2 N3 f b : Nat) (a : Act) (w : World) : Prop :=
  ∃ (j : Nat) (v1 v5 v6 v7 v8 v9 v12 v13 v14 v15 v16 v17 v18 v19 v20 v21 v22 v23 v24 v25 v26 : Value), j ≤ b ∧ PF Wg C n B Cl w0 N2 N3 f (b + j) w ∧ a = { tmps := #[.int .u8 ((mul b f : Nat) : Int), v1, .pointer (some ⟨N2, 0, none⟩), .pointer (some ⟨N3, 0, none⟩), .int .i64 ((b : Nat) : Int), v5, v6, v7, v8, v9, .int .i64 ((b : Nat) : Int), .int .i64 ((j : Nat) : Int), v12, v13, v14, v15, v16, v17, v18, v19, v20, v21, v22, v23, v24, v25, v26], defers := [] }
def muO (a : Act) (_ : World) : Nat := match a.tmps.getD 4 undef with | .int _ j => 256 - j.toNat | _ => 0
def muI (a : Act) (_ : World) : Nat := match a.tmps.getD 11 undef with | .int _ j => 256 - j.toNat | _ => 0
end
end Go.Proofs.YtlghjjennhpjeaaGreatDoor

/-
  In company: whole arrays are read and written; the table of products is made.
-/
namespace Go.Proofs.YtlghjjennhpjeaaGreatDoor
open Go.Conc Go.RowKit Go.Gh
open Go.ConcR (Payload)

section
variable {P : Program}
theorem ev_loadCells (a : Addr) : ∀ (n i : Nat) (acc : Array Value) (w : World) (es : Array Event), (∀ j, j < n → ∃ v, w.cell? (a.add (i + j)) = some v) →
    ∀ e ∈ (loadCellsFrom a i n acc).events P w es, e ∈ es ∨ ∃ b : Addr, e = ⟨.cell b, false, false⟩ ∧ b.block = a.block
  | 0, _, _, _, _, _ => fun e h => .inl (by simpa [loadCellsFrom] using h)
  | n + 1, i, acc, w, es, hc => fun e h => by
    obtain ⟨u, hu⟩ := hc 0 (by omega)
    simp only [Nat.add_zero] at hu
    have hr : (load (a.add i)).run P w = .ok u w := by simp [hu]
    have he : (load (a.add i)).events P w es = es.push ⟨.cell (a.add i), false, false⟩ := by
      rw [events_load, hu]; rfl
    simp only [loadCellsFrom, Sem.events_bind, hr, he] at h
    rcases ev_loadCells a n (i + 1) (acc.push u) w _ (fun j hj => by have := hc (j + 1) (by omega); rwa [show i + (j + 1) = i + 1 + j by omega] at this) e h with h | h
    · rcases Array.mem_push.1 h with h | rfl
      · exact .inl h
      · exact .inr ⟨_, rfl, by unfold Addr.add; split <;> rfl⟩
    · exact .inr h
theorem add_plain (N o i : Nat) : (⟨N, o, none⟩ : Addr).add i = ⟨N, o + i, none⟩ := by simp [Addr.add]
theorem ev_storeCells (N : Nat) (t : TypeId) : ∀ (vs : List Value) (i : Nat) (cur : Array Value) (w : World) (es : Array Event), w.heap[N]? = some (.cells cur t) → i + vs.length ≤ cur.size → (∀ v ∈ vs, v.oneCell' = true) →
    ∀ e ∈ (storeCells ⟨N, 0, none⟩ vs i).events P w es, e ∈ es ∨ ∃ b : Addr, e = ⟨.cell b, true, false⟩ ∧ b.block = N
  | [], _, _, _, _, _, _, _ => fun e h => .inl (by simpa [storeCells] using h)
  | v :: rest, i, cur, w, es, hg, hl, h1 => fun e h => by
    have hi : i < cur.size := by simp at hl; omega
    have hc : w.cell? ⟨N, i, none⟩ = some cur[i] := by rw [cell_of w hg]; simp [hi]
    have hz := thaw_of w hg i
    have hv := h1 v (by simp)
    have ha : (⟨N, 0, none⟩ : Addr).add i = ⟨N, i, none⟩ := by rw [add_plain, Nat.zero_add]
    have hr : (store ⟨N, i, none⟩ v).run P w = .ok () (w.setCell ⟨N, i, none⟩ v) := by
      cases v <;> first | (simp [Value.oneCell'] at hv; done) | simp [store, Sem.run, hc, hz]
    have he : (store ⟨N, i, none⟩ v).events P w es = es.push ⟨.cell ⟨N, i, none⟩, true, false⟩ := by
      rw [events_store P w es _ _ _ hv, hc]
      simp [hz]
      rfl
    simp only [storeCells, Sem.events_bind, ha, hr, he] at h
    rcases ev_storeCells N t rest (i + 1) (cur.setIfInBounds i v) (w.setCell ⟨N, i, none⟩ v) _ (heap_set w hg i v) (by simp at hl ⊢; omega) (fun u hu => h1 u (by simp [hu])) e h with h | h
    · rcases Array.mem_push.1 h with h | rfl
      · exact .inl h
      · exact .inr ⟨_, rfl, rfl⟩
    · exact .inr h

variable {ρ : Operand → Value} {o : Oper} {t : TypeId} {x y : Operand} {N : Nat} {w w' : World} {v : Value}
theorem run_op_load (ho : o.op = .load t x) (hx : ρ x = .pointer (some ⟨N, 0, none⟩)) (hl : (loadVar t ⟨N, 0, none⟩).run P w = .ok v w) : (execOp ρ o).run P w = .ok (.value v) w := by
  simp [execOp, ho, hx, Instr.loadAt, Instr.sureAddr, hl]
theorem ev_op_load (ho : o.op = .load t x) (hx : ρ x = .pointer (some ⟨N, 0, none⟩)) : (execOp ρ o).events P w #[] = (loadVar t ⟨N, 0, none⟩).events P w #[] := by
  simp [execOp, ho, hx, Instr.loadAt, Instr.sureAddr]
theorem run_op_store (ho : o.op = .store t x y) (hx : ρ x = .pointer (some ⟨N, 0, none⟩)) (hy : ρ y = v) (hl : (storeVar t ⟨N, 0, none⟩ v).run P w = .ok () w') : (execOp ρ o).run P w = .ok .skip w' := by
  simp [execOp, ho, hx, hy, Instr.storeAt, Instr.sureAddr, hl]
theorem ev_op_store (ho : o.op = .store t x y) (hx : ρ x = .pointer (some ⟨N, 0, none⟩)) (hy : ρ y = v) : (execOp ρ o).events P w #[] = (storeVar t ⟨N, 0, none⟩ v).events P w #[] := by
  simp [execOp, ho, hx, hy, Instr.storeAt, Instr.sureAddr]
theorem results_cell_run {fn : Func} {s : Tmp} {tmps : Array Value} (hr : fn.results = #[.cell s t]) (hs : tmps.getD s undef = .pointer (some ⟨N, 0, none⟩)) (hl : (loadVar t ⟨N, 0, none⟩).run P w = .ok v w) :
    (results fn tmps).run P w = .ok v w ∧ (results fn tmps).events P w #[] = (loadVar t ⟨N, 0, none⟩).events P w #[] := by
  simp only [Array.getD_eq_getD_getElem?] at hs
  constructor <;> simp [results, hr, hs, asAddr, hl]
end

section
theorem a256 : (Tryz.prog.info? 197).map (·.size) = some 256 := by kernel_rfl
theorem ag256 (w : World) (es : Array Event) : (isAgg 197).run Tryz.prog w = .ok true w ∧ (isAgg 197).events Tryz.prog w es = es := by
  constructor <;> simp [isAgg]
theorem sz256 (w : World) (es : Array Event) : (sizeOf 197).run Tryz.prog w = .ok 256 w ∧ (sizeOf 197).events Tryz.prog w es = es := by
  have h := a256
  cases hi : Tryz.prog.info? 197 with
  | none => rw [hi] at h; cases h
  | some i =>
    rw [hi] at h
    simp only [Option.map_some, Option.some.injEq] at h
    constructor <;> simp [sizeOf, typeInfo, hi, h]
theorem ev_load256 {w : World} {N : Nat} {c : Array Value} (h : w.heap[N]? = some (.cells c 197)) (hc : c.size = 256) : ∀ e ∈ (loadVar 197 ⟨N, 0, none⟩).events Tryz.prog w #[], ∃ b : Addr, e = ⟨.cell b, false, false⟩ ∧ b.block = N := by
  intro e he
  simp only [loadVar, Sem.events_bind, (ag256 w _).2, Result.evThen, loadCells] at he
  have hev : e ∈ (loadCellsFrom ⟨N, 0, none⟩ 0 256 #[]).events Tryz.prog w #[] := by
    generalize (loadCellsFrom ⟨N, 0, none⟩ 0 256 #[]).run Tryz.prog w = r at he
    cases r <;> simpa using he
  rcases ev_loadCells ⟨N, 0, none⟩ 256 0 #[] w #[] (fun j hj => ⟨c[j]'(by omega), by rw [add_plain, cell_of w h]; simp [hc, hj]⟩) e hev with h | h
  · simp at h
  · exact h
theorem ev_store256 {w : World} {N : Nat} {c c' : Array Value} (h : w.heap[N]? = some (.cells c 197)) (hc : c.size = 256) (hc' : c'.size = 256) (h1 : ∀ v ∈ c', v.oneCell' = true) :
    ∀ e ∈ (storeVar 197 ⟨N, 0, none⟩ (.agg c')).events Tryz.prog w #[], ∃ b : Addr, e = ⟨.cell b, true, false⟩ ∧ b.block = N := by
  intro e he
  have hv : (Value.agg c').cells = c' := rfl
  simp only [storeVar, Sem.events_bind, (sz256 w _).2, Result.evThen, hv, hc', ne_eq] at he
  have hev : e ∈ (storeCells ⟨N, 0, none⟩ c'.toList 0).events Tryz.prog w #[] := by simpa using he
  rcases ev_storeCells N 197 c'.toList 0 c w #[] h (by simp; omega) (fun v hv => h1 v (by simpa using hv)) e hev with h | h
  · simp at h
  · exact h
theorem run_load256 {w : World} {N : Nat} {c : Array Value} (h : w.heap[N]? = some (.cells c 197)) (hc : c.size = 256) : (loadVar 197 ⟨N, 0, none⟩).run Tryz.prog w = .ok (.agg c) w :=
  run_loadVar_row w N _ _ c (0, 0) _ h Tryz.underlying197 rfl (by rw [hc]; exact a256)
theorem run_store256 {w : World} {N : Nat} {c c' : Array Value} (h : w.heap[N]? = some (.cells c 197)) (hc : c.size = 256) (hc' : c'.size = 256) (h1 : ∀ v ∈ c', v.oneCell' = true) :
    (storeVar 197 ⟨N, 0, none⟩ (.agg c')).run Tryz.prog w = .ok () (w.setRow N c') :=
  run_storeVar_row w N _ _ c c' h (by rw [hc']; exact a256) (by omega) (Array.all_eq_true_iff_forall_mem.2 h1)
theorem heap_row {w : World} {N : Nat} {c : Array Value} {t : TypeId} (c' : Array Value) (h : w.heap[N]? = some (.cells c t)) : (w.setRow N c').heap[N]? = some (.cells c' t) := by
  simp [World.setRow, Array.getElem?_modify, h]
theorem heap_row_other (w : World) {N b : Nat} (c' : Array Value) (h : b ≠ N) : (w.setRow N c').heap[b]? = w.heap[b]? := by
  simp [World.setRow, Array.getElem?_modify, Ne.symm h]
theorem sz_row (w : World) (N : Nat) (c' : Array Value) : (w.setRow N c').heap.size = w.heap.size := by simp [World.setRow]
end

section
variable [Payload] [OldG] {main : Bool} {Wg C n B : Nat} {Cl : Nat → Prop}
omit [Payload] [OldG] in
theorem Bs.row {w : World} (h : Bs C B w) (N : Nat) (c' : Array Value) : Bs C B (w.setRow N c') :=
  ⟨by rw [tag_same (w := w) (w' := w.setRow N c') rfl, sz_row]; exact h.tg, by rw [sz_row]; exact h.hC, by rw [sz_row]; exact h.hB, fun b hb => by rw [sz_row]; exact h.ow b hb⟩
omit [Payload] [OldG] in
theorem cell_row_other (w : World) {N : Nat} (c' : Array Value) {a : Addr} (h : a.block ≠ N) : (w.setRow N c').cell? a = w.cell? a := by
  simp [World.cell?, heap_row_other w c' h]
omit [OldG] in
/-- A whole row is written into a block that was not there at the beginning. -/
theorem ex_row {w0 w : World} {S : Nat → Prop} (h : Ex Wg C n B Cl S w0 w) (hb : Bs C B w0) {N : Nat} (ha : w0.heap.size ≤ N) (c' : Array Value) : Ex Wg C n B Cl S w0 (w.setRow N c') := by
  have hC := hb.hC
  have hB := hb.hB
  refine ⟨by rw [sz_row]; exact h.size, h.tape, h.os, fun ht => by rw [tag_same (w := w) (w' := w.setRow N c') rfl, sz_row]; exact h.tag ht, fun b x => mine_grow (w := w) (w' := w.setRow N c') rfl (by rw [sz_row]; omega) (h.own b x),
    fun b x y => (heap_row_other w c' (by have := hb.lt x; omega)).trans (h.mine b x y), fun b h1 h2 h3 => (heap_row_other w c' (by omega)).trans (h.low b h1 h2 h3),
    fun i x => (cell_row_other w c' (by dsimp only; omega)).trans (h.cell i x), fun p => ?_⟩
  obtain ⟨cs, h1, h2⟩ := h.pay p
  exact ⟨cs, (heap_row_other w c' (by omega)).trans h1, h2⟩
theorem dg_row {w : World} {N : Nat} {c' : Array Value} (hm : Mine w N) (hne : N ≠ C) (hb : N < w.heap.size) {es : Array Event} (he : ∀ e ∈ es, ∃ b : Addr, e = ⟨.cell b, true, false⟩ ∧ b.block = N) : Dg Wg C n B Cl w (w.setRow N c') es := by
  refine ⟨by rw [sz_row]; omega, rfl, rfl, fun b _ hb' _ => heap_row_other w c' (fun e => hb' (e ▸ hm)), fun i _ => cell_row_other w c' (Ne.symm hne), fun ⟨cs, h1, h2⟩ => ⟨cs, (heap_row_other w c' (Ne.symm hne)).trans h1, h2⟩, fun e he' => ?_⟩
  obtain ⟨b, rfl, hbb⟩ := he e he'
  exact ⟨b, true, rfl, by rw [sz_row]; omega, .inl (by rw [hbb]; exact hm)⟩
end
end Go.Proofs.YtlghjjennhpjeaaGreatDoor

/-
  In company: the table of products.
-/
namespace Go.Proofs.YtlghjjennhpjeaaGreatDoor
open Go.Conc Go.RowKit Go.Gh
open Go.ConcR (Payload)

section
variable [Payload] [OldG] {main : Bool} {Wg C n B : Nat} {Cl : Nat → Prop}

structure P0 (Wg C n B : Nat) (Cl : Nat → Prop) (w0 w : World) : Prop where
  bs : Bs C B w
  ex : Ex Wg C n B Cl (fun _ => False) w0 w
omit [OldG] in
theorem P0.rely {w0 w w₁ : World} (h : P0 Wg C n B Cl w0 w) (r : Ro Wg C n B Cl w w₁) : P0 Wg C n B Cl w0 w₁ := ⟨h.bs.rely r, h.ex.rely r⟩
structure P1 (Wg C n B : Nat) (Cl : Nat → Prop) (w0 : World) (N2 : Nat) (w : World) : Prop where
  bs : Bs C B w
  ex : Ex Wg C n B Cl (fun _ => False) w0 w
  lo2 : w0.heap.size ≤ N2
  m2 : Mine w N2
  h2 : w.heap[N2]? = some (.cells Tryz.zeroCells197 197)
omit [OldG] in
theorem P1.rely {w0 w w₁ : World} {N2 : Nat} (h : P1 Wg C n B Cl w0 N2 w) (r : Ro Wg C n B Cl w w₁) : P1 Wg C n B Cl w0 N2 w₁ := ⟨h.bs.rely r, h.ex.rely r, h.lo2, (r.mineAt _).2 h.m2, (r.mine _ h.m2).trans h.h2⟩
omit [Payload] [OldG] in
theorem heap_new (w : World) (o : Obj) : (w.alloc o).heap[w.heap.size]? = some o := by show (w.heap.push o)[w.heap.size]? = some o; simp
omit [OldG] in
theorem P0.alloc {w0 w : World} (h : P0 Wg C n B Cl w0 w) : P1 Wg C n B Cl w0 w.heap.size (w.alloc (.cells Tryz.zeroCells197 197)) :=
  ⟨h.bs.alloc _, ex_alloc h.ex h.bs _, h.ex.size, mine_fresh (w := w) (w' := w.alloc _) rfl h.bs.tg (Nat.le_refl _) (by rw [sz_alloc]; omega), heap_new w _⟩
omit [Payload] [OldG] in
theorem ptab_01 (f : Nat) : ptab f 0 = ptab f 1 := by
  have := ptab_set f 0
  rw [← this]
  apply Array.ext_getElem?
  intro i
  rw [Array.getElem?_setIfInBounds]
  split
  · rename_i h; subst h; simp [ptab, zero_mul]
  · rfl
omit [OldG] in
theorem P1.alloc {w0 w : World} {N2 : Nat} (f : Nat) (h : P1 Wg C n B Cl w0 N2 w) : PF Wg C n B Cl w0 N2 w.heap.size f 1 (w.alloc (.cells Tryz.zeroCells197 197)) := by
  have hlt := h.bs.lt h.m2
  refine ⟨h.bs.alloc _, ex_alloc h.ex h.bs _, h.lo2, h.ex.size, by omega, mine_grow (w := w) (w' := w.alloc _) rfl (by rw [sz_alloc]; omega) h.m2, mine_fresh (w := w) (w' := w.alloc _) rfl h.bs.tg (Nat.le_refl _) (by rw [sz_alloc]; omega),
    (Below.heap_alloc _ _ _ hlt).trans h.h2, ?_⟩
  rw [heap_new, ptab_zero f, ptab_01]
/-- What is held at the end. -/
structure PE (Wg C n B : Nat) (Cl : Nat → Prop) (w0 : World) (N2 f : Nat) (w : World) : Prop where
  bs : Bs C B w
  ex : Ex Wg C n B Cl (fun _ => False) w0 w
  m2 : Mine w N2
  h2 : w.heap[N2]? = some (.cells (ptab f 256) 197)
omit [OldG] in
theorem PE.rely {w0 w w₁ : World} {N2 f : Nat} (h : PE Wg C n B Cl w0 N2 f w) (r : Ro Wg C n B Cl w w₁) : PE Wg C n B Cl w0 N2 f w₁ := ⟨h.bs.rely r, h.ex.rely r, (r.mineAt _).2 h.m2, (r.mine _ h.m2).trans h.h2⟩
omit [Payload] [OldG] in
theorem ptab_size (f m : Nat) : (ptab f m).size = 256 := by simp [ptab]
omit [Payload] [OldG] in
theorem ptab_one (f m : Nat) : ∀ v ∈ ptab f m, v.oneCell' = true := by
  intro v hv
  simp only [ptab, Array.mem_ofFn] at hv
  obtain ⟨i, rfl⟩ := hv
  rfl
omit [OldG] in
theorem PF.ne0 {w0 w : World} (h0 : Bs C B w0) {N2 N3 f m : Nat} (h : PF Wg C n B Cl w0 N2 N3 f m w) : N2 ≠ C ∧ N3 ≠ C := by have := h0.hC; have := h.lo2; have := h.lo3; omega

omit [OldG] in
theorem PF.cell {w0 w : World} {N2 N3 f m : Nat} (h : PF Wg C n B Cl w0 N2 N3 f m w) {x : Nat} (hx : x < 256) (hm : x < m) : w.cell? ⟨N3, x, none⟩ = some (.int .u8 ((mul x f : Nat) : Int)) := by
  rw [cell_of _ h.h3, ptab_get _ _ _ hx, if_pos hm]
omit [OldG] in
theorem PF.cell0 {w0 w : World} {N2 N3 f m : Nat} (h : PF Wg C n B Cl w0 N2 N3 f m w) (hx : m < 256) : w.cell? ⟨N3, m, none⟩ = some (.int .u8 0) := by
  rw [cell_of _ h.h3, ptab_get _ _ _ hx, if_neg (by omega)]; rfl
omit [OldG] in
theorem PF.thaw {w0 w : World} {N2 N3 f m : Nat} (h : PF Wg C n B Cl w0 N2 N3 f m w) (x : Nat) : w.frozen? ⟨N3, x, none⟩ = false := thaw_of _ h.h3 x

set_option maxRecDepth 100000 in
set_option maxHeartbeats 1000000 in
theorem products_c : ∃ k, ∀ (f : Nat) (w : World), f < 256 → Bs C B w → CallsG Tryz.prog main (Ro Wg C n B Cl) (Dg Wg C n B Cl) 124 #[.int .u8 (f : Int)] k w fun v w' => v = .agg (ptab f 256) ∧ Bs C B w' ∧ Ex Wg C n B Cl (fun _ => False) w w' := by
  obtain ⟨kx, hx⟩ := timesX_c (main := main) (termsG (Wg := Wg) (C := C) (n := n) (B := B) (Cl := Cl))
  co_apply Exists.intro
  intro f w hf hb
  co_apply callsG_of_wpC termsG Tryz.func124 (by rfl) rfl (Q := fun a' w' => a'.defers = [] ∧ ∃ N2, a'.tmps.getD 2 undef = .pointer (some ⟨N2, 0, none⟩) ∧ PE Wg C n B Cl w N2 f w')
  · rintro a' w' ⟨hd, N2, ht, hE⟩
    refine ⟨hd, fun w₁ r => ?_⟩
    replace hE := hE.rely r
    obtain ⟨h1, h2⟩ := results_cell_run (fn := Tryz.f124) rfl ht (run_load256 hE.h2 (ptab_size f 256))
    refine ⟨_, h1, ?_, rfl, hE.bs, hE.ex⟩
    rw [h2]
    exact dg_read (.inl hE.m2) (hE.bs.lt hE.m2) (fun e he => ev_load256 hE.h2 (ptab_size f 256) e (mem_seen he))
  have h0 := hb
  simp only [Tryz.ntmps124, List.size_toArray, List.length_cons, List.length_nil, Nat.reduceAdd, Nat.reduceSub, Array.replicate_succ, Array.replicate_zero, List.push_toArray, List.append_toArray, List.nil_append, List.cons_append]
  -- the two variables
  have hF : P0 Wg C n B Cl w w := ⟨hb, .refl w⟩
  co_apply wpC_seq termsG
  co_reg termsG
  co_opw P0.rely hF (skip) (rw [listed_nil (by simp [go_sem])]; exact dg_alloc hF.bs.hC _ rfl)
  replace hF := hF.alloc
  generalize hN2 : Array.size (World.heap _) = N2 at hF ⊢
  clear hN2
  co_apply opsC_nil termsG
  co_then
  co_apply wpC_seq termsG
  co_reg termsG
  co_opw P1.rely hF (skip) (rw [listed_nil (by simp [go_sem])]; exact dg_alloc hF.bs.hC _ rfl)
  replace hF := hF.alloc f
  generalize hN3 : Array.size (World.heap _) = N3 at hF ⊢
  clear hN3
  co_apply opsC_nil termsG
  co_then
  co_apply wpC_seq termsG
  co_apply wpC_seq termsG
  co_reg termsG
  co_op PF.rely hF (co_quiet termsG)
  co_apply opsC_nil termsG
  co_then
  co_apply wpC_block termsG
  co_apply wpC_loop termsG (PO Wg C n B Cl w N2 N3 f) muO _ 255
  · exact ⟨0, 1, mul 1 f, _, _, _, _, _, _, _, _, _, _, _, _, _, _, _, _, _, _, _, _, _, _, _, by omega, rfl, fun _ => rfl, hF, by rw [show mul 1 f = f from by rw [mul_comm (by omega) hf, mul_one hf]]; rfl⟩
  · simp [muO]
  · rintro a w' ⟨k, b, fa, v1, v5, v6, v7, v8, v9, v10, v11, v12, v13, v14, v15, v16, v17, v18, v19, v20, v21, v22, v23, v24, v25, v26, hk, hbk, hfa, hF, rfl⟩
    have hk8 : b ≤ 256 := by
      have : ∀ k : Fin 9, 2 ^ k.val ≤ 256 := by decide
      rw [show b = 2 ^ k from hbk]
      exact this ⟨k, by omega⟩
    have hb1 : 1 ≤ b := by rw [show b = 2 ^ k from hbk]; exact Nat.one_le_two_pow
    co_go termsG PF.rely hF (co_quiet termsG)
    co_split termsG (decide (((b : Nat) : Int) < 256))
    · intro hlt
      have hlt' : b < 256 := by have := of_decide_eq_true hlt; omega
      clear hlt
      have hk7 : k < 8 := by
        rcases Nat.lt_or_ge k 8 with h | h
        · exact h
        · obtain rfl : k = 8 := by omega
          have : b = 256 := hbk
          omega
      obtain rfl : fa = mul b f := hfa hk7
      have hmb : mul b f < 256 := mul_lt (by omega)
      co_go termsG PF.rely hF (co_quiet termsG)
      co_apply wpC_loop termsG (PI Wg C n B Cl w N2 N3 f b) muI _ 256
      · exact ⟨0, _, _, _, _, _, _, _, _, _, _, _, _, _, _, _, _, _, _, _, _, _, Nat.zero_le _, hF, rfl⟩
      · simp [muI]
      · rintro a w' ⟨j, u1, u5, u6, u7, u8, u9, u12, u13, u14, u15, u16, u17, u18, u19, u20, u21, u22, u23, u24, u25, u26, hj, hF, rfl⟩
        co_go termsG PF.rely hF (co_quiet termsG)
        co_split termsG (decide (((j : Nat) : Int) < ((b : Nat) : Int)))
        · intro hjl
          have hjl' : j < b := by have := of_decide_eq_true hjl; omega
          clear hjl
          have hj256 : (j : Int) < 256 := by omega
          have hs256 : b + j < 256 := by
            have : ∀ k : Fin 8, 2 ^ k.val + 2 ^ k.val ≤ 256 := by decide
            have := this ⟨k, hk7⟩
            simp only [← (show b = 2 ^ k from hbk)] at this
            omega
          have hs1 : (b : Int) + (j : Int) < 256 := by omega
          have hs0 : 0 ≤ (b : Int) + (j : Int) := by omega
          have htn : ((b : Int) + (j : Int)).toNat = b + j := by omega
          have hwr : IntKind.i64.wrap ((b : Int) + (j : Int)) = ((b + j : Nat) : Int) := by rw [IntKind.wrap_i64]; omega
          have hsp := pow_add ⟨k, hk7⟩ j f (by rw [← (show b = 2 ^ k from hbk)]; exact hjl')
          simp only [← (show b = 2 ^ k from hbk)] at hsp
          have hxr : bits .xor .u8 ((mul j f : Nat) : Int) ((mul b f : Nat) : Int) = ((mul (b + j) f : Nat) : Int) := by rw [u8_xor_nat _ _ (mul_lt (by omega)) hmb, hsp]
          have hix : ∀ (w : World) (es : Array Event), (Instr.indexAt 197 (.pointer (some ⟨N3, 0, none⟩)) (.int .i64 (j : Int))).events Tryz.prog w es = es := fun w es => events_indexAt_array _ _ _ _ _ _ Tryz.underlying197 ⟨by omega, by omega⟩
          have hiy : ∀ (w : World) (es : Array Event), (Instr.indexAt 197 (.pointer (some ⟨N3, 0, none⟩)) (.int .i64 ((b : Int) + (j : Int)))).events Tryz.prog w es = es := fun w es => events_indexAt_array _ _ _ _ _ _ Tryz.underlying197 ⟨by omega, by omega⟩
          co_ctl termsG
          co_then
          co_ctl termsG
          co_ctl termsG
          co_ctl termsG
          co_reg termsG
          co_op PF.rely hF (co_quiet termsG)
          co_op PF.rely hF (co_quiet termsG)
          co_apply opsC_nil termsG
          co_then
          co_reg termsG
          co_op PF.rely hF (co_quiet termsG)
          co_op PF.rely hF (co_quiet termsG)
          co_op PF.rely hF (co_quiet termsG)
          co_op PF.rely hF (co_quiet termsG)
          co_opw PF.rely hF (skip) (co_still termsG)
          co_opw PF.rely hF (have hc := hF.cell (x := j) (by omega) (by omega)) (refine dg_read (.inl hF.m3) (hF.bs.lt hF.m3) ?_; co_evs (exact ⟨_, rfl, rfl⟩))
          clear hc
          co_op PF.rely hF (co_quiet termsG)
          co_op PF.rely hF (co_quiet termsG)
          co_opw PF.rely hF (skip) (co_still termsG)
          co_opw PF.rely hF (have hc := hF.cell0 hs256; have hz := hF.thaw (b + j)) (refine dg_set hF.m3 (hF.ne0 h0).2 (hF.bs.lt hF.m3) ?_; co_evs (exact ⟨_, _, rfl, rfl⟩))
          replace hF := hF.set h0
          rw [hsp] at hF
          clear hc hz
          co_apply opsC_nil termsG
          co_then
          co_reg termsG
          co_op PF.rely hF (co_quiet termsG)
          co_op PF.rely hF (co_quiet termsG)
          co_apply opsC_nil termsG
          co_then
          have hw1 : IntKind.i64.wrap ((j : Int) + 1) = ((j + 1 : Nat) : Int) := by rw [IntKind.wrap_i64]; omega
          simp only [hw1]
          refine ⟨⟨j + 1, _, _, _, _, _, _, _, _, _, _, _, _, _, _, _, _, _, _, _, _, _, by omega, hF, rfl⟩, ?_⟩
          simp [muI]
          omega
        · intro hjl
          obtain rfl : j = b := by have := of_decide_eq_false hjl; omega
          clear hjl
          co_go termsG PF.rely hF (co_quiet termsG)
          co_apply opsC_call termsG rfl (by rfl) rfl
          · walk_nrm
            exact hx _ _ hmb
          rintro v w' ⟨rfl, hs⟩
          replace hF : PF Wg C n B Cl w N2 N3 f (j + j) w' := hs.elim (fun e => e ▸ hF) (fun r => hF.rely r)
          clear hs
          walk_nrm
          co_op PF.rely hF (co_quiet termsG)
          co_apply opsC_nil termsG
          co_then
          have hk2 : k = 7 ∨ k < 7 := by omega
          have hjj : IsPow (k + 1) (j + j) := by
            have e : j = 2 ^ k := hbk
            show j + j = 2 ^ (k + 1)
            rw [Nat.pow_succ]; omega
          have hwr : IntKind.i64.wrap ((j : Int) * 2) = ((j + j : Nat) : Int) := by rw [IntKind.wrap_i64]; omega
          have htx : k + 1 < 8 → tx (mul j f) = mul (j + j) f := by
            intro hk3
            have := tx_pow ⟨k, by omega⟩ ⟨f, hf⟩
            simp only [← (show j = 2 ^ k from hbk), ← (show j + j = 2 ^ (k + 1) from hjj)] at this
            exact this
          generalize tx (mul j f) = fa at htx ⊢
          co_go termsG PF.rely hF (co_quiet termsG)
          refine ⟨⟨k + 1, j + j, fa, _, _, _, _, _, _, _, _, _, _, _, _, _, _, _, _, _, _, _, _, _, _, _, by omega, hjj, htx, hF, rfl⟩, ?_⟩
          simp [muO]
          omega
    · intro hlt
      obtain rfl : k = 8 := by
        have := of_decide_eq_false hlt
        rcases Nat.lt_or_ge k 8 with h | h
        · have h2 : ∀ k : Fin 8, 2 ^ k.val < 256 := by decide
          have := h2 ⟨k, h⟩
          simp only [← (show b = 2 ^ k from hbk)] at this
          omega
        · omega
      obtain rfl : b = 256 := hbk
      co_go termsG PF.rely hF (co_quiet termsG)
      co_apply opsC_cons rfl (by rfl)
      intro w₁ r
      replace hF := hF.rely r
      clear r
      have hz : Tryz.zeroCells197.size = 256 := by rw [ptab_zero f]; exact ptab_size f 0
      obtain ⟨T, hT, hTs, hT1⟩ : ∃ T, ptab f 256 = T ∧ T.size = 256 ∧ ∀ v ∈ T, v.oneCell' = true := ⟨_, rfl, ptab_size f _, ptab_one f _⟩
      have h3 := hF.h3
      rw [hT] at h3
      rw [run_op_load rfl rfl (run_load256 h3 hTs)]
      simp only [uponK_value]
      refine ⟨?_, ?_⟩
      · unfold listed
        rw [ev_op_load rfl rfl]
        exact dg_read (.inl hF.m3) (hF.bs.lt hF.m3) (fun e he => ev_load256 h3 hTs e (mem_seen he))
      clear h3
      walk_nrm
      co_apply opsC_cons rfl (by rfl)
      intro w₁ r
      replace hF := hF.rely r
      clear r
      have hrun := run_store256 (c' := T) hF.h2 hz hTs hT1
      rw [run_op_store (v := .agg T) rfl rfl rfl hrun]
      simp only [uponK_skip]
      refine ⟨?_, ?_⟩
      · unfold listed
        rw [ev_op_store (v := .agg T) rfl rfl rfl]
        exact dg_row hF.m2 (hF.ne0 h0).1 (hF.bs.lt hF.m2) (fun e he => ev_store256 (c' := T) hF.h2 hz hTs hT1 e (mem_seen he))
      clear hrun
      have hE : PE Wg C n B Cl w N2 f (World.setRow w₁ N2 T) := ⟨hF.bs.row _ _, ex_row hF.ex h0 hF.lo2 _, mine_grow (w := w₁) (w' := World.setRow w₁ N2 _) rfl (by rw [sz_row]; omega) hF.m2, by rw [hT]; exact heap_row _ hF.h2⟩
      walk_nrm
      co_apply opsC_nil termsG
      co_then
      co_apply wpC_ret termsG
      exact ⟨rfl, N2, rfl, hE⟩
end
end Go.Proofs.YtlghjjennhpjeaaGreatDoor

/-
  What the document's own multiplying and inverting of bytes answer.
-/
namespace Go.Proofs.YtlghjjennhpjeaaGreatDoor
open Go.RowKit

theorem ofInt_i64 (a : Nat) (ha : a < 9223372036854775808) : (BitVec.ofInt 64 (a : Int)).toNat = a := by
  rw [BitVec.ofInt_natCast, BitVec.toNat_ofNat]; exact Nat.mod_eq_of_lt (by omega)
theorem i64_xor_nat (a b : Nat) (ha : a < 9223372036854775808) (hb : b < 9223372036854775808) : bits .xor .i64 (a : Int) (b : Int) = ((a ^^^ b : Nat) : Int) := by
  have hx : a ^^^ b < 2 ^ 63 := Nat.xor_lt_two_pow (by omega) (by omega)
  show IntKind.i64.wrap ((BitVec.ofInt 64 (a : Int) ^^^ BitVec.ofInt 64 (b : Int)).toNat : Int) = _
  rw [BitVec.toNat_xor, ofInt_i64 a ha, ofInt_i64 b hb, IntKind.wrap_i64]
  omega
theorem i64_and_nat (a b : Nat) (ha : a < 9223372036854775808) (hb : b < 9223372036854775808) : bits .and .i64 (a : Int) (b : Int) = ((a &&& b : Nat) : Int) := by
  have hx : a &&& b < 2 ^ 63 := Nat.and_lt_two_pow _ (by omega)
  show IntKind.i64.wrap ((BitVec.ofInt 64 (a : Int) &&& BitVec.ofInt 64 (b : Int)).toNat : Int) = _
  rw [BitVec.toNat_and, ofInt_i64 a ha, ofInt_i64 b hb, IntKind.wrap_i64]
  omega
theorem pow_cast (k : Nat) : (2 : Int) ^ k = ((2 ^ k : Nat) : Int) := by simp
theorem shr_cast (x k : Nat) : (x : Int) / 2 ^ k = ((x / 2 ^ k : Nat) : Int) := by simp
theorem i64_bit (x k : Nat) (hx : x < 9223372036854775808) : bits .and .i64 ((x : Int) / 2 ^ k) 1 = ((x / 2 ^ k % 2 : Nat) : Int) := by
  have h : x / 2 ^ k ≤ x := Nat.div_le_self _ _
  rw [shr_cast, show (1 : Int) = ((1 : Nat) : Int) from rfl, i64_and_nat _ _ (by omega) (by omega), Nat.and_one_is_mod]
theorem pow_le_128 {k : Nat} (hk : k < 8) : 2 ^ k ≤ 128 := by
  have : 2 ^ k ≤ 2 ^ 7 := Nat.pow_le_pow_right (by omega) (by omega)
  simpa using this
theorem shl_wrap {x k : Nat} (hx : x < 65536) (hk : k < 8) : wrap64 ((x : Int) * 2 ^ k) = ((x * 2 ^ k : Nat) : Int) := by
  have h1 := pow_le_128 hk
  have h2 : x * 2 ^ k ≤ 65536 * 128 := Nat.mul_le_mul (by omega) h1
  have e : (x : Int) * 2 ^ k = ((x * 2 ^ k : Nat) : Int) := by simp
  rw [e]
  exact IntWalk.wrap64_in _ (by omega)
theorem shl_lt {x k : Nat} (hx : x < 512) (hk : k < 8) : x * 2 ^ k < 65536 := by
  have h1 := pow_le_128 hk
  have h2 : x * 2 ^ k ≤ 511 * 128 := Nat.mul_le_mul (by omega) h1
  omega
theorem xor_lt16 {a b : Nat} (ha : a < 65536) (hb : b < 65536) : a ^^^ b < 65536 := Nat.xor_lt_two_pow (n := 16) ha hb

theorem refP_yes {a b k p : Nat} (h : b / 2 ^ k % 2 = 1) (H : p = refP a b k) : p ^^^ (a * 2 ^ k) = refP a b (k + 1) := by
  rw [refP, if_pos h, H]
theorem refP_no {a b k p : Nat} (h : ¬ b / 2 ^ k % 2 = 1) (H : p = refP a b k) : p = refP a b (k + 1) := by
  rw [refP, if_neg h, H]
theorem refM_yes {n p m : Nat} (h : p / 2 ^ (8 + n) % 2 = 1) (H : refM (n + 1) p = m) : refM n (p ^^^ (285 * 2 ^ n)) = m := by
  rw [refM, if_pos h] at H; exact H
theorem refM_no {n p m : Nat} (h : ¬ p / 2 ^ (8 + n) % 2 = 1) (H : refM (n + 1) p = m) : refM n p = m := by
  rw [refM, if_neg h] at H; exact H

theorem bit_yes {x k : Nat} (hx : x < 9223372036854775808) (h : (bits .and .i64 ((x : Int) / 2 ^ k) 1 == 1) = true) : x / 2 ^ k % 2 = 1 := by
  rw [i64_bit x k hx] at h
  have h := of_decide_eq_true h
  omega
theorem bit_no {x k : Nat} (hx : x < 9223372036854775808) (h : (bits .and .i64 ((x : Int) / 2 ^ k) 1 == 1) = false) : ¬ x / 2 ^ k % 2 = 1 := by
  intro h1
  rw [i64_bit x k hx, h1] at h
  exact absurd h (by decide)
theorem xor_shl_i64 {p x k : Nat} (hp : p < 65536) (hx : x < 512) (hk : k < 8) : bits .xor .i64 (p : Int) (wrap64 ((x : Int) * 2 ^ k)) = ((p ^^^ (x * 2 ^ k) : Nat) : Int) := by
  have := shl_lt hx hk
  rw [shl_wrap (by omega) hk, i64_xor_nat _ _ (by omega) (by omega)]

theorem xor_shl_285 {p k : Nat} (hp : p < 65536) (hk : k < 8) : bits .xor .i64 (p : Int) (wrap64 (285 * 2 ^ k)) = ((p ^^^ (285 * 2 ^ k) : Nat) : Int) :=
  xor_shl_i64 (x := 285) hp (by omega) hk
theorem ref_end {q a b : Nat} (h : q = refM 7 (refP a b 8)) : (q : Int) % 256 = ((refMul a b : Nat) : Int) := by
  rw [refMul, ← h]; simp

set_option maxHeartbeats 1000000 in
set_option maxRecDepth 100000 in
theorem rmul_any (a b : Nat) (ha : a < 256) (hb : b < 256) (w : World) :
    Calls Tryz.prog 38 #[.int .u8 (a : Int), .int .u8 (b : Int)] w fun e w' => e = .returned (.int .u8 (refMul a b : Nat)) ∧ w' = w := by
  go_enter Tryz.func38, Tryz.ntmps38
  go_wp2
  go_loop [5, 6] (fun vp vi => ∃ k p : Nat, k ≤ 8 ∧ p < 65536 ∧ vp = .int .i64 (p : Int) ∧ vi = .int .i64 (k : Int) ∧ Hid (p = refP a b k)) (fun _ i => 8 - (intOf i).toNat)
  case atStart => exact ⟨0, 0, by omega, by omega, rfl, rfl, rfl⟩
  case round =>
    obtain ⟨k, p, hk, hp, rfl, rfl, H⟩ := hrel
    by_cases hlt : k < 8
    · go_wp2
      · have h1 : (bits .and .i64 ((b : Int) / 2 ^ k) 1 == 1) = true := by assumption
        have h2 := bit_yes (by omega) h1
        clear h1
        go_round
        case rel => exact ⟨k + 1, p ^^^ (a * 2 ^ k), by omega, xor_lt16 hp (shl_lt (by omega) hlt), i64_val (xor_shl_i64 hp (by omega) hlt), by go_num, refP_yes h2 H.out⟩
        case measure => simp [intOf]; omega
      · have h1 : (bits .and .i64 ((b : Int) / 2 ^ k) 1 == 1) = false := by assumption
        have h2 := bit_no (by omega) h1
        clear h1
        go_round
        case rel => exact ⟨k + 1, p, by omega, hp, rfl, by go_num, refP_no h2 H.out⟩
        case measure => simp [intOf]; omega
    · have e : k = 8 := by omega
      subst e
      have H2 : Hid (refM 7 p = refM 7 (refP a b 8)) := by show refM 7 p = _; rw [H.out]
      go_wp2
      go_loop [5, 7] (fun vp vi => ∃ j p : Nat, 7 ≤ j ∧ j ≤ 14 ∧ p < 65536 ∧ vp = .int .i64 (p : Int) ∧ vi = .int .i64 (j : Int) ∧ Hid (refM (j - 7) p = refM 7 (refP a b 8))) (fun _ i => (intOf i).toNat)
      case atStart => exact ⟨14, p, by omega, by omega, hp, rfl, rfl, H2.out⟩
      case round =>
        obtain ⟨j, q, hj1, hj2, hq, rfl, rfl, G⟩ := hrel
        by_cases hge : 8 ≤ j
        · obtain ⟨n, rfl⟩ : ∃ n, j = 8 + n := ⟨j - 8, by omega⟩
          have G2 : Hid (refM (n + 1) q = refM 7 (refP a b 8)) := by
            have := G.out
            rw [show 8 + n - 7 = n + 1 by omega] at this
            exact this
          clear G
          go_wp2
          · have h1 : (bits .and .i64 ((q : Int) / 2 ^ (8 + n)) 1 == 1) = true := by assumption
            have h2 := bit_yes (by omega) h1
            clear h1
            go_round
            case rel => exact ⟨8 + n - 1, q ^^^ (285 * 2 ^ n), by omega, by omega, xor_lt16 hq (shl_lt (by omega) (by omega)), i64_val (xor_shl_285 hq (by omega)), i64_val (by omega), by rw [show 8 + n - 1 - 7 = n by omega]; exact refM_yes h2 G2.out⟩
            case measure => simp [intOf]; omega
          · have h1 : (bits .and .i64 ((q : Int) / 2 ^ (8 + n)) 1 == 1) = false := by assumption
            have h2 := bit_no (by omega) h1
            clear h1
            go_round
            case rel => exact ⟨8 + n - 1, q, by omega, by omega, hq, rfl, i64_val (by omega), by rw [show 8 + n - 1 - 7 = n by omega]; exact refM_no h2 G2.out⟩
            case measure => simp [intOf]; omega
        · have e : j = 7 := by omega
          subst e
          have HG : Hid (q = refM 7 (refP a b 8)) := G.out
          clear G
          go_wp2
          go_ret
          exact ⟨ret_int (ref_end HG.out), rfl⟩

/-- The document's search, as plain numbers: from b on, n of them. -/
def refFind (a : Nat) : Nat → Nat → Nat
  | 0, _ => 0
  | n + 1, b => if refMul a b = 1 then b else refFind a n (b + 1)
theorem refFind_eq {a : Nat} (ha : a < 256) : ∀ n b, 1 ≤ b → b + n = 256 → (∀ c, 1 ≤ c → c < b → mul a c ≠ 1) → refFind a n b = inv a
  | 0, b, h1, h2, h => by
    rw [refFind]
    by_cases h0 : a = 0
    · subst h0; exact inv_zero.symm
    · have hi := inv_lt ha
      exact absurd (mul_inv ha h0) (h _ (by have := inv_ne_zero ha h0; omega) (by omega))
  | n + 1, b, h1, h2, h => by
    rw [refFind]
    have hb : b < 256 := by omega
    split
    · rename_i h3
      rw [refMul_eq ha hb] at h3
      exact inv_unique ha hb h3
    · rename_i h3
      rw [refMul_eq ha hb] at h3
      refine refFind_eq ha n (b + 1) (by omega) (by omega) (fun c c1 c2 => ?_)
      by_cases e : c = b
      · subst e; exact h3
      · exact h c c1 (by omega)
theorem refFind_inv {a : Nat} (ha : a < 256) : refFind a 255 1 = inv a := refFind_eq ha 255 1 (by omega) (by omega) (fun c h1 h2 => by omega)
theorem refFind_yes {a b n m : Nat} (h : refMul a b = 1) (H : refFind a (n + 1) b = m) : b = m := by
  rw [refFind, if_pos h] at H; exact H
theorem refFind_no {a b n m : Nat} (h : ¬ refMul a b = 1) (H : refFind a (n + 1) b = m) : refFind a n (b + 1) = m := by
  rw [refFind, if_neg h] at H; exact H

set_option maxHeartbeats 1000000 in
set_option maxRecDepth 100000 in
theorem rinv_any (a : Nat) (ha : a < 256) (w : World) :
    Calls Tryz.prog 63 #[.int .u8 (a : Int)] w fun e w' => e = .returned (.int .u8 (inv a : Nat)) ∧ w' = w := by
  go_enter Tryz.func63, Tryz.ntmps63
  go_wp2
  go_loop [3] (fun vi => ∃ b : Nat, 1 ≤ b ∧ b ≤ 256 ∧ vi = .int .i64 (b : Int) ∧ Hid (refFind a (256 - b) b = inv a)) (fun i => 256 - (intOf i).toNat)
  case atStart => exact ⟨1, by omega, by omega, rfl, refFind_inv ha⟩
  case round =>
    obtain ⟨b, hb1, hb2, rfl, H⟩ := hrel
    by_cases hlt : b < 256
    · have H2 : Hid (refFind a ((255 - b) + 1) b = inv a) := by
        have := H.out
        rw [show 256 - b = (255 - b) + 1 by omega] at this
        exact this
      clear H
      go_wp2_with (first | (go_at_call 38; refine (rmul_any _ _ (by assumption) (by assumption) _).mono ?_; rintro e w' ⟨rfl, rfl⟩))
      · have h1 : (((refMul a b : Nat) : Int) == 1) = true := by assumption
        have h2 : refMul a b = 1 := by have := of_decide_eq_true h1; omega
        go_ret
        exact ⟨ret_int (by rw [← refFind_yes h2 H2.out]), rfl⟩
      · have h1 : (((refMul a b : Nat) : Int) == 1) = false := by assumption
        have h2 : ¬ refMul a b = 1 := by have := of_decide_eq_false h1; omega
        go_round
        case rel => exact ⟨b + 1, by omega, by omega, by go_num, by rw [show 256 - (b + 1) = 255 - b by omega]; exact refFind_no h2 H2.out⟩
        case measure => simp [intOf]; omega
    · have e : b = 256 := by omega
      subst e
      have HG : Hid (0 = inv a) := H.out
      clear H
      go_wp2
      go_ret
      exact ⟨ret_int (by rw [← HG.out]; rfl), rfl⟩
theorem rmul_eq (a b : Nat) (ha : a < 256) (hb : b < 256) (w : World) :
    Calls Tryz.prog 38 #[.int .u8 (a : Int), .int .u8 (b : Int)] w fun e w' => e = .returned (.int .u8 (mul a b : Nat)) ∧ w' = w := by
  have h := rmul_any a b ha hb w
  rw [refMul_eq ha hb] at h
  exact h
theorem byte_of (a : Int) : ∃ x : Nat, x < 256 ∧ a % 256 = (x : Int) := ⟨(a % 256).toNat, by omega, by omega⟩
end Go.Proofs.YtlghjjennhpjeaaGreatDoor

/-
  What the calls that make one row answer: a new row in memory, nothing old turned.
-/
namespace Go.Proofs.YtlghjjennhpjeaaGreatDoor
open Go.RowKit Go.Deep

theorem Tryz.infoB : (Tryz.prog.info? 5).map (fun i => (i.zero, i.size, i.bytes)) = some (some (.int .u8 0), 1, 1) := by kernel_rfl
theorem Tryz.infoR : (Tryz.prog.info? 24).map (fun i => (i.zero, i.size, i.bytes)) = some (some (.slice none 0 0), 1, 24) := by kernel_rfl

/-- One byte of a row: the document's. -/
def rowV (k i j : Nat) : Nat := if i < k then (if j = i then 1 else 0) else inv ((i ^^^ j) % 256)

/-- A row of bytes is new in w', and all else is as it was in w. -/
structure NewRow (w w' : World) (n : Nat) (f : Nat → Nat) : Prop where
  row : w'.rowIs w.heap.size 5 n (fun j => .int .u8 (f j : Nat))
  size : w'.heap.size = w.heap.size + 1
  below : Below w.heap.size w w'

theorem make_bytes (n : Nat) (hn : n ≤ 128) (w : World) : (Instr.makeSlice 24 (.int .i64 (n : Int)) (.int .i64 (n : Int))).run Tryz.prog w = .ok (.slice (some ⟨w.heap.size, 0, none⟩) n n) (w.alloc (.cells (madeCells #[.int .u8 0] n) 5)) :=
  run_make_row' (P := Tryz.prog) 24 5 (.int .u8 0) 1 Tryz.underlying24 Tryz.infoB rfl .i64 .i64 n (by omega) (by omega) w

theorem newRow_made (w : World) (n : Nat) : NewRow w (w.alloc (.cells (madeCells #[.int .u8 0] n) 5)) n (fun _ => 0) :=
  ⟨World.rowIs_made w (.int .u8 0) n 5, by simp, (Below.refl _ _).alloc (Nat.le_refl _) _⟩
theorem NewRow.set {w w' : World} {n : Nat} {f : Nat → Nat} (h : NewRow w w' n f) (i v : Nat) {g : Nat → Nat} (hg : ∀ j, j < n → g j = if j = i then v else f j) :
    NewRow w (w'.setCell ⟨w.heap.size, i, none⟩ (.int .u8 (v : Int))) n g :=
  ⟨(h.row.set i _).congr (fun j hj => by rw [hg j hj]; split <;> rfl), by simp [h.size], h.below.setCell (Nat.le_refl _) _⟩
theorem NewRow.congr {w w' : World} {n : Nat} {f g : Nat → Nat} (h : NewRow w w' n f) (e : ∀ j, j < n → f j = g j) : NewRow w w' n g :=
  ⟨h.row.congr (fun j hj => by rw [e j hj]), h.size, h.below⟩

theorem make_new (n : Nat) (hn : n ≤ 128) (w : World) : ∃ w1, (Instr.makeSlice 24 (.int .i64 (n : Int)) (.int .i64 (n : Int))).run Tryz.prog w = .ok (.slice (some ⟨w.heap.size, 0, none⟩) n n) w1 ∧ NewRow w w1 n (fun _ => 0) :=
  ⟨_, make_bytes n hn w, newRow_made w n⟩

set_option maxHeartbeats 400000 in
set_option maxRecDepth 100000 in
theorem unitRow_any (k i : Nat) (hk : k ≤ 128) (hi : i < k) (w : World) :
    Calls Tryz.prog 93 #[.int .i64 (k : Int), .int .i64 (i : Int)] w fun e w' => e = .returned (.slice (some ⟨w.heap.size, 0, none⟩) k k) ∧ NewRow w w' k (rowV k i) := by
  obtain ⟨w1, hmk, h0⟩ := make_new k hk w
  have hc : w1.cell? ⟨w.heap.size, i, none⟩ = some (.int .u8 0) := h0.row.cell hi
  have hf : w1.frozen? ⟨w.heap.size, i, none⟩ = false := h0.row.frozen i
  have h1 := h0.set i 1 (g := rowV k i) (fun j hj => by unfold rowV; rw [if_pos hi])
  go_enter Tryz.func93, Tryz.ntmps93
  go_wp2
  go_ret
  exact ⟨rfl, h1⟩

theorem xor_lt128 {a b : Nat} (ha : a < 128) (hb : b < 128) : a ^^^ b < 128 := Nat.xor_lt_two_pow (n := 7) ha hb
theorem rowV_lt {k i j : Nat} : rowV k i j < 256 := by
  unfold rowV
  split
  · split <;> omega
  · exact inv_lt (Nat.mod_lt _ (by omega))

set_option maxHeartbeats 1000000 in
set_option maxRecDepth 100000 in
theorem row_any (k i : Nat) (hk : k ≤ 128) (hi : i < 128) (w : World) :
    Calls Tryz.prog 75 #[.int .i64 (k : Int), .int .i64 (i : Int)] w fun e w' => e = .returned (.slice (some ⟨w.heap.size, 0, none⟩) k k) ∧ NewRow w w' k (rowV k i) := by
  by_cases hik : i < k
  · go_enter Tryz.func75, Tryz.ntmps75
    go_wp2_with (first | (go_at_call 93; refine (unitRow_any _ _ hk hik _).mono ?_; rintro e w' ⟨rfl, h1⟩))
    go_ret
    exact ⟨rfl, by assumption⟩
  · obtain ⟨w1, hmk, h0⟩ := make_new k hk w
    go_enter Tryz.func75, Tryz.ntmps75
    go_wp2
    clear hmk
    go_loopw [6, 17] (fun _ vi wr => ∃ c : Nat, c ≤ k ∧ vi = .int .i64 (c : Int) ∧ NewRow w wr k (fun j => if j < c then rowV k i j else 0)) (fun _ i _ => k - (intOf i).toNat)
    case atStart => exact ⟨0, by omega, rfl, h0.congr (fun j _ => by rw [if_neg (by omega)])⟩
    case round =>
      obtain ⟨c, hc, rfl, hN⟩ := hrel
      clear h0
      by_cases hlt : c < k
      · have hx : bits .xor .i64 (i : Int) (c : Int) = ((i ^^^ c : Nat) : Int) := i64_xor_nat _ _ (by omega) (by omega)
        have hxl := xor_lt128 hi (show c < 128 by omega)
        obtain ⟨x, ex⟩ : ∃ x, i ^^^ c = x := ⟨_, rfl⟩
        rw [ex] at hx hxl
        have hcell : wr.cell? ⟨w.heap.size, c, none⟩ = some (.int .u8 0) := by
          have := hN.row.cell hlt
          rw [if_neg (by omega)] at this
          exact this
        have hfr : wr.frozen? ⟨w.heap.size, c, none⟩ = false := hN.row.frozen c
        have hN2 := hN.set c (inv x) (g := fun j => if j < c + 1 then rowV k i j else 0) (fun j hj => by
          by_cases e : j = c
          · subst e
            rw [if_pos (Nat.lt_succ_self j), if_pos rfl]
            unfold rowV
            rw [if_neg hik, ex, Nat.mod_eq_of_lt (by omega)]
          · rw [if_neg e]
            by_cases hj2 : j < c
            · rw [if_pos hj2, if_pos (by omega)]
            · rw [if_neg hj2, if_neg (by omega)])
        clear ex hN
        go_wp2_with (first | (go_at_call 94; refine (inv_any _ (by omega) _).mono ?_; rintro e w' ⟨rfl, rfl⟩))
        go_roundw
        case rel => exact ⟨c + 1, by omega, by go_num, hN2⟩
        case measure => simp [intOf]; omega
      · have e : c = k := by omega
        subst e
        go_wp2
        go_ret
        exact ⟨rfl, hN.congr (fun j hj => by rw [if_pos hj])⟩

theorem make_lists (n : Nat) (hn : n ≤ 128) (w : World) : (Instr.makeSlice 23 (.int .i64 (n : Int)) (.int .i64 (n : Int))).run Tryz.prog w = .ok (.slice (some ⟨w.heap.size, 0, none⟩) n n) (w.alloc (.cells (madeCells #[.slice none 0 0] n) 24)) :=
  run_make_row' (P := Tryz.prog) 23 24 (.slice none 0 0) 24 Tryz.underlying23 Tryz.infoR rfl .i64 .i64 n (by omega) (by omega) w

/-- The head of a list of rows of which c are made. -/
def headV (B k c i : Nat) : Value := if i < c then .slice (some ⟨B + 1 + i, 0, none⟩) k k else .slice none 0 0
/-- c of n rows of k bytes are made, one block behind the other. -/
structure NewRows (w w' : World) (n k c : Nat) (f : Nat → Nat → Nat) : Prop where
  head : w'.rowIs w.heap.size 24 n (headV w.heap.size k c)
  rows : ∀ i, i < c → w'.rowIs (w.heap.size + 1 + i) 5 k (fun j => .int .u8 (f i j : Nat))
  size : w'.heap.size = w.heap.size + 1 + c
  below : Below w.heap.size w w'

theorem newRows_start (w : World) (n k : Nat) (f : Nat → Nat → Nat) : NewRows w (w.alloc (.cells (madeCells #[.slice none 0 0] n) 24)) n k 0 f :=
  ⟨(World.rowIs_made w (.slice none 0 0) n 24).congr (fun i _ => by unfold headV; rw [if_neg (by omega)]), fun i h => by omega, by simp, (Below.refl _ _).alloc (Nat.le_refl _) _⟩
theorem makeLists_new (n k : Nat) (hn : n ≤ 128) (f : Nat → Nat → Nat) (w : World) : ∃ w1, (Instr.makeSlice 23 (.int .i64 (n : Int)) (.int .i64 (n : Int))).run Tryz.prog w = .ok (.slice (some ⟨w.heap.size, 0, none⟩) n n) w1 ∧ NewRows w w1 n k 0 f :=
  ⟨_, make_lists n hn w, newRows_start w n k f⟩
/-- One row more. -/
theorem NewRows.step {w wr w' : World} {n k c : Nat} {f : Nat → Nat → Nat} (h : NewRows w wr n k c f) (hn : NewRow wr w' k (f c)) :
    NewRows w (w'.setCell ⟨w.heap.size, c, none⟩ (.slice (some ⟨wr.heap.size, 0, none⟩) k k)) n k (c + 1) f := by
  have hz := h.size
  have hb : ∀ j, j < wr.heap.size → w'.heap[j]? = wr.heap[j]? := fun j hj => hn.below.block j hj
  refine ⟨?_, ?_, by rw [show (w'.setCell _ _).heap.size = w'.heap.size from by simp]; rw [hn.size, hz]; omega, (h.below.trans (hn.below.mono (by omega))).setCell (Nat.le_refl _) _⟩
  · refine ((h.head.of_block (hb _ (by omega))).set c _).congr (fun j _ => ?_)
    unfold headV
    by_cases e : j = c
    · subst e; rw [if_pos rfl, if_pos (by omega), hz]
    · rw [if_neg e]
      by_cases hj : j < c
      · rw [if_pos hj, if_pos (by omega)]
      · rw [if_neg hj, if_neg (by omega)]
  · intro i hi
    refine World.rowIs.setOther ?_ (by show w.heap.size + 1 + i ≠ w.heap.size; omega) _
    by_cases e : i = c
    · subst e
      have := hn.row
      rw [hz] at this
      exact this
    · exact (h.rows i (by omega)).of_block (hb _ (by omega))

end Go.Proofs.YtlghjjennhpjeaaGreatDoor
