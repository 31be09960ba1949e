/-
  In company: whole arrays are read and written; the table of products is made.
-/
import Derived.Test.YtkpcmfgeanlcnaaCoA
import Derived.Laws.Rows
import Derived.Laws.Tables
namespace Go.Proofs.Ytkpcmfgeanlcnaa
open Go.Conc Go.RowKit Go.Gh
open Go.ConcR (Payload)

section
variable {P : Program}
theorem ev_loadCells (a : Addr) : ∀ (n i : Nat) (acc : Array Value) (w : World) (es : Array Event), (∀ j, j < n → ∃ v, w.cell? (a.add (i + j)) = some v) →
    ∀ e ∈ (loadCellsFrom a i n acc).events P w es, e ∈ es ∨ ∃ b : Addr, e = ⟨.cell b, false, false⟩ ∧ b.block = a.block
  | 0, _, _, _, _, _ => fun e h => .inl (by simpa [loadCellsFrom] using h)
  | n + 1, i, acc, w, es, hc => fun e h => by
    obtain ⟨u, hu⟩ := hc 0 (by omega)
    simp only [Nat.add_zero] at hu
    have hr : (load (a.add i)).run P w = .ok u w := by simp [hu]
    have he : (load (a.add i)).events P w es = es.push ⟨.cell (a.add i), false, false⟩ := by
      rw [events_load, hu]; rfl
    simp only [loadCellsFrom, Sem.events_bind, hr, he] at h
    rcases ev_loadCells a n (i + 1) (acc.push u) w _ (fun j hj => by have := hc (j + 1) (by omega); rwa [show i + (j + 1) = i + 1 + j by omega] at this) e h with h | h
    · rcases Array.mem_push.1 h with h | rfl
      · exact .inl h
      · exact .inr ⟨_, rfl, by unfold Addr.add; split <;> rfl⟩
    · exact .inr h
theorem add_plain (N o i : Nat) : (⟨N, o, none⟩ : Addr).add i = ⟨N, o + i, none⟩ := by simp [Addr.add]
theorem ev_storeCells (N : Nat) (t : TypeId) : ∀ (vs : List Value) (i : Nat) (cur : Array Value) (w : World) (es : Array Event), w.heap[N]? = some (.cells cur t) → i + vs.length ≤ cur.size → (∀ v ∈ vs, v.oneCell' = true) →
    ∀ e ∈ (storeCells ⟨N, 0, none⟩ vs i).events P w es, e ∈ es ∨ ∃ b : Addr, e = ⟨.cell b, true, false⟩ ∧ b.block = N
  | [], _, _, _, _, _, _, _ => fun e h => .inl (by simpa [storeCells] using h)
  | v :: rest, i, cur, w, es, hg, hl, h1 => fun e h => by
    have hi : i < cur.size := by simp at hl; omega
    have hc : w.cell? ⟨N, i, none⟩ = some cur[i] := by rw [cell_of w hg]; simp [hi]
    have hz := thaw_of w hg i
    have hv := h1 v (by simp)
    have ha : (⟨N, 0, none⟩ : Addr).add i = ⟨N, i, none⟩ := by rw [add_plain, Nat.zero_add]
    have hr : (store ⟨N, i, none⟩ v).run P w = .ok () (w.setCell ⟨N, i, none⟩ v) := by
      cases v <;> first | (simp [Value.oneCell'] at hv; done) | simp [store, Sem.run, hc, hz]
    have he : (store ⟨N, i, none⟩ v).events P w es = es.push ⟨.cell ⟨N, i, none⟩, true, false⟩ := by
      rw [events_store P w es _ _ _ hv, hc]
      simp [hz]
      rfl
    simp only [storeCells, Sem.events_bind, ha, hr, he] at h
    rcases ev_storeCells N t rest (i + 1) (cur.setIfInBounds i v) (w.setCell ⟨N, i, none⟩ v) _ (heap_set w hg i v) (by simp at hl ⊢; omega) (fun u hu => h1 u (by simp [hu])) e h with h | h
    · rcases Array.mem_push.1 h with h | rfl
      · exact .inl h
      · exact .inr ⟨_, rfl, rfl⟩
    · exact .inr h

variable {ρ : Operand → Value} {o : Oper} {t : TypeId} {x y : Operand} {N : Nat} {w w' : World} {v : Value}
theorem run_op_load (ho : o.op = .load t x) (hx : ρ x = .pointer (some ⟨N, 0, none⟩)) (hl : (loadVar t ⟨N, 0, none⟩).run P w = .ok v w) : (execOp ρ o).run P w = .ok (.value v) w := by
  simp [execOp, ho, hx, Instr.loadAt, Instr.sureAddr, hl]
theorem ev_op_load (ho : o.op = .load t x) (hx : ρ x = .pointer (some ⟨N, 0, none⟩)) : (execOp ρ o).events P w #[] = (loadVar t ⟨N, 0, none⟩).events P w #[] := by
  simp [execOp, ho, hx, Instr.loadAt, Instr.sureAddr]
theorem run_op_store (ho : o.op = .store t x y) (hx : ρ x = .pointer (some ⟨N, 0, none⟩)) (hy : ρ y = v) (hl : (storeVar t ⟨N, 0, none⟩ v).run P w = .ok () w') : (execOp ρ o).run P w = .ok .skip w' := by
  simp [execOp, ho, hx, hy, Instr.storeAt, Instr.sureAddr, hl]
theorem ev_op_store (ho : o.op = .store t x y) (hx : ρ x = .pointer (some ⟨N, 0, none⟩)) (hy : ρ y = v) : (execOp ρ o).events P w #[] = (storeVar t ⟨N, 0, none⟩ v).events P w #[] := by
  simp [execOp, ho, hx, hy, Instr.storeAt, Instr.sureAddr]
theorem results_cell_run {fn : Func} {s : Tmp} {tmps : Array Value} (hr : fn.results = #[.cell s t]) (hs : tmps.getD s undef = .pointer (some ⟨N, 0, none⟩)) (hl : (loadVar t ⟨N, 0, none⟩).run P w = .ok v w) :
    (results fn tmps).run P w = .ok v w ∧ (results fn tmps).events P w #[] = (loadVar t ⟨N, 0, none⟩).events P w #[] := by
  simp only [Array.getD_eq_getD_getElem?] at hs
  constructor <;> simp [results, hr, hs, asAddr, hl]
end

section
theorem a256 : (Try.prog.info? 93).map (·.size) = some 256 := by kernel_rfl
theorem ag256 (w : World) (es : Array Event) : (isAgg 93).run Try.prog w = .ok true w ∧ (isAgg 93).events Try.prog w es = es := by
  constructor <;> simp [isAgg]
theorem sz256 (w : World) (es : Array Event) : (sizeOf 93).run Try.prog w = .ok 256 w ∧ (sizeOf 93).events Try.prog w es = es := by
  have h := a256
  cases hi : Try.prog.info? 93 with
  | none => rw [hi] at h; cases h
  | some i =>
    rw [hi] at h
    simp only [Option.map_some, Option.some.injEq] at h
    constructor <;> simp [sizeOf, typeInfo, hi, h]
theorem ev_load256 {w : World} {N : Nat} {c : Array Value} (h : w.heap[N]? = some (.cells c 93)) (hc : c.size = 256) : ∀ e ∈ (loadVar 93 ⟨N, 0, none⟩).events Try.prog w #[], ∃ b : Addr, e = ⟨.cell b, false, false⟩ ∧ b.block = N := by
  intro e he
  simp only [loadVar, Sem.events_bind, (ag256 w _).2, Result.evThen, loadCells] at he
  have hev : e ∈ (loadCellsFrom ⟨N, 0, none⟩ 0 256 #[]).events Try.prog w #[] := by
    generalize (loadCellsFrom ⟨N, 0, none⟩ 0 256 #[]).run Try.prog w = r at he
    cases r <;> simpa using he
  rcases ev_loadCells ⟨N, 0, none⟩ 256 0 #[] w #[] (fun j hj => ⟨c[j]'(by omega), by rw [add_plain, cell_of w h]; simp [hc, hj]⟩) e hev with h | h
  · simp at h
  · exact h
theorem ev_store256 {w : World} {N : Nat} {c c' : Array Value} (h : w.heap[N]? = some (.cells c 93)) (hc : c.size = 256) (hc' : c'.size = 256) (h1 : ∀ v ∈ c', v.oneCell' = true) :
    ∀ e ∈ (storeVar 93 ⟨N, 0, none⟩ (.agg c')).events Try.prog w #[], ∃ b : Addr, e = ⟨.cell b, true, false⟩ ∧ b.block = N := by
  intro e he
  have hv : (Value.agg c').cells = c' := rfl
  simp only [storeVar, Sem.events_bind, (sz256 w _).2, Result.evThen, hv, hc', ne_eq] at he
  have hev : e ∈ (storeCells ⟨N, 0, none⟩ c'.toList 0).events Try.prog w #[] := by simpa using he
  rcases ev_storeCells N 93 c'.toList 0 c w #[] h (by simp; omega) (fun v hv => h1 v (by simpa using hv)) e hev with h | h
  · simp at h
  · exact h
theorem run_load256 {w : World} {N : Nat} {c : Array Value} (h : w.heap[N]? = some (.cells c 93)) (hc : c.size = 256) : (loadVar 93 ⟨N, 0, none⟩).run Try.prog w = .ok (.agg c) w :=
  run_loadVar_row w N _ _ c (0, 0) _ h Try.underlying93 rfl (by rw [hc]; exact a256)
theorem run_store256 {w : World} {N : Nat} {c c' : Array Value} (h : w.heap[N]? = some (.cells c 93)) (hc : c.size = 256) (hc' : c'.size = 256) (h1 : ∀ v ∈ c', v.oneCell' = true) :
    (storeVar 93 ⟨N, 0, none⟩ (.agg c')).run Try.prog w = .ok () (w.setRow N c') :=
  run_storeVar_row w N _ _ c c' h (by rw [hc']; exact a256) (by omega) (Array.all_eq_true_iff_forall_mem.2 h1)
theorem heap_row {w : World} {N : Nat} {c : Array Value} {t : TypeId} (c' : Array Value) (h : w.heap[N]? = some (.cells c t)) : (w.setRow N c').heap[N]? = some (.cells c' t) := by
  simp [World.setRow, Array.getElem?_modify, h]
theorem heap_row_other (w : World) {N b : Nat} (c' : Array Value) (h : b ≠ N) : (w.setRow N c').heap[b]? = w.heap[b]? := by
  simp [World.setRow, Array.getElem?_modify, Ne.symm h]
theorem sz_row (w : World) (N : Nat) (c' : Array Value) : (w.setRow N c').heap.size = w.heap.size := by simp [World.setRow]
end

section
variable [Payload] {main : Bool} {Wg C n B : Nat} {Cl : Nat → Prop}
omit [Payload] in
theorem Bs.row {w : World} (h : Bs C B w) (N : Nat) (c' : Array Value) : Bs C B (w.setRow N c') :=
  ⟨by rw [tag_same (w := w) (w' := w.setRow N c') rfl, sz_row]; exact h.tg, by rw [sz_row]; exact h.hC, by rw [sz_row]; exact h.hB, fun b hb => by rw [sz_row]; exact h.ow b hb⟩
omit [Payload] in
theorem cell_row_other (w : World) {N : Nat} (c' : Array Value) {a : Addr} (h : a.block ≠ N) : (w.setRow N c').cell? a = w.cell? a := by
  simp [World.cell?, heap_row_other w c' h]
/-- A whole row is written into a block that was not there at the beginning. -/
theorem ex_row {w0 w : World} {S : Nat → Prop} (h : Ex Wg C n B Cl S w0 w) (hb : Bs C B w0) {N : Nat} (ha : w0.heap.size ≤ N) (c' : Array Value) : Ex Wg C n B Cl S w0 (w.setRow N c') := by
  have hC := hb.hC
  have hB := hb.hB
  refine ⟨by rw [sz_row]; exact h.size, h.tape, h.os, fun ht => by rw [tag_same (w := w) (w' := w.setRow N c') rfl, sz_row]; exact h.tag ht, fun b x => mine_grow (w := w) (w' := w.setRow N c') rfl (by rw [sz_row]; omega) (h.own b x),
    fun b x y => (heap_row_other w c' (by have := hb.lt x; omega)).trans (h.mine b x y), fun b h1 h2 h3 => (heap_row_other w c' (by omega)).trans (h.low b h1 h2 h3),
    fun i x => (cell_row_other w c' (by dsimp only; omega)).trans (h.cell i x), fun p => ?_⟩
  obtain ⟨cs, h1, h2⟩ := h.pay p
  exact ⟨cs, (heap_row_other w c' (by omega)).trans h1, h2⟩
theorem dg_row {w : World} {N : Nat} {c' : Array Value} (hm : Mine w N) (hne : N ≠ C) (hb : N < w.heap.size) {es : Array Event} (he : ∀ e ∈ es, ∃ b : Addr, e = ⟨.cell b, true, false⟩ ∧ b.block = N) : Dg Wg C n B Cl w (w.setRow N c') es := by
  refine ⟨by rw [sz_row]; omega, rfl, rfl, fun b _ hb' _ => heap_row_other w c' (fun e => hb' (e ▸ hm)), fun i _ => cell_row_other w c' (Ne.symm hne), fun ⟨cs, h1, h2⟩ => ⟨cs, (heap_row_other w c' (Ne.symm hne)).trans h1, h2⟩, fun e he' => ?_⟩
  obtain ⟨b, rfl, hbb⟩ := he e he'
  exact ⟨b, true, rfl, by rw [sz_row]; omega, .inl (by rw [hbb]; exact hm)⟩
end
end Go.Proofs.Ytkpcmfgeanlcnaa
