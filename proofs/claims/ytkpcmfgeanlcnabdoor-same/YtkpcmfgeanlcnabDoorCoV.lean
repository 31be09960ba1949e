/-
  In company: columns are added up, each multiplied by its weight.
-/
import Derived.Test.YtkpcmfgeanlcnabDoorCoD
import Derived.Test.YtkpcmfgeanlcnabDoorChecked
import Derived.Conc.WgGenN3
import Derived.Test.YtkpcmfgeanlcnabDoorGhL
import Derived.Conc.WgWords
namespace Go.Proofs.YtkpcmfgeanlcnabDoor
open Go.Conc Go.RowKit Go.Gh
open Go.ConcR (Payload)

/-- A column where it lies: the slice's base and capacity, where its bytes are, its bytes. -/
structure Col where
  bs : Option Addr
  bo : Nat
  oo : Nat
  co : Nat
  ys : List Nat

/-- Columns added up. -/
def comb : List (Nat × List Nat) → List Nat → List Nat
  | [], cur => cur
  | z :: zs, cur => comb zs (addT z.1 cur z.2)
theorem comb_length : ∀ (zs : List (Nat × List Nat)) (cur : List Nat), (comb zs cur).length = cur.length
  | [], _ => rfl
  | z :: zs, cur => by rw [comb, comb_length zs, addT_length]
theorem comb_snoc : ∀ (zs : List (Nat × List Nat)) (cur : List Nat) (z : Nat × List Nat), comb (zs ++ [z]) cur = addT z.1 (comb zs cur) z.2
  | [], _, _ => rfl
  | y :: zs, cur, z => by rw [List.cons_append, comb, comb_snoc zs, comb]
theorem comb_lt : ∀ (zs : List (Nat × List Nat)) (cur : List Nat), (∀ z ∈ zs, z.1 < 256 ∧ ∀ y ∈ z.2, y < 256) → (∀ x ∈ cur, x < 256) → ∀ x ∈ comb zs cur, x < 256
  | [], _, _, h => h
  | z :: zs, cur, h1, h2 => comb_lt zs _ (fun y hy => h1 y (by simp [hy])) (addT_lt z.1 (h1 z (by simp)).1 cur z.2 h2 (h1 z (by simp)).2)
theorem made_zero (L : Nat) : madeCells #[.int .u8 0] L = bytesA (List.replicate L 0) := by
  apply Array.ext_getElem?
  intro i
  rw [bytesA_get]
  by_cases h : i < L
  · simp [madeCells, h, Nat.mod_one]
  · simp [madeCells, h]

section
variable [Payload] [OldG] {main : Bool} {Wg C n B : Nat} {Cl : Nat → Prop}

/-- What the callee finds: the weights, the list of the columns, their bytes. -/
structure CIn (Wg C B : Nat) (bw ow bc oc L : Nat) (ws : List Nat) (cs : List Col) (w : World) : Prop where
  rw : Rdb Wg C B w bw
  lw : bw < w.heap.size
  rc : Rdb Wg C B w bc
  lc : bc < w.heap.size
  hw : ∀ j x, ws[j]? = some x → w.cell? ⟨bw, ow + j, none⟩ = some (.int .u8 ((x : Nat) : Int))
  hc : ∀ j c, cs[j]? = some c → w.cell? ⟨bc, oc + j, none⟩ = some (.slice c.bs L c.co)
  hcol : ∀ c ∈ cs, Rdb Wg C B w c.bo ∧ c.bo < w.heap.size ∧ (0 < L → c.bs = some ⟨c.bo, c.oo, none⟩) ∧ ∀ i y, c.ys[i]? = some y → w.cell? ⟨c.bo, c.oo + i, none⟩ = some (.int .u8 ((y : Nat) : Int))
theorem CIn.ex {w w₁ : World} {bw ow bc oc L : Nat} {ws : List Nat} {cs : List Col} (h : CIn Wg C B bw ow bc oc L ws cs w) (r : Ex Wg C n B Cl (fun _ => False) w w₁) : CIn Wg C B bw ow bc oc L ws cs w₁ := by
  have st : ∀ {b : Nat}, Rdb Wg C B w b → ∀ o, w₁.cell? ⟨b, o, none⟩ = w.cell? ⟨b, o, none⟩ := fun hb o => by simp only [World.cell?, r.stands hb id]
  exact ⟨r.rdb h.rw, Nat.lt_of_lt_of_le h.lw r.size, r.rdb h.rc, Nat.lt_of_lt_of_le h.lc r.size, fun j x e => (st h.rw _).trans (h.hw j x e), fun j c e => (st h.rc _).trans (h.hc j c e),
    fun c hc => let ⟨h1, h2, h3, h4⟩ := h.hcol c hc; ⟨r.rdb h1, Nat.lt_of_lt_of_le h2 r.size, h3, fun i y e => (st h1 _).trans (h4 i y e)⟩⟩

structure CF (Wg C n B : Nat) (Cl : Nat → Prop) (w0 w : World) : Prop where
  bs : Bs C B w
  ex : Ex Wg C n B Cl (fun _ => False) w0 w
omit [OldG] in
theorem CF.rely {w0 w w₁ : World} (h : CF Wg C n B Cl w0 w) (r : Ro Wg C n B Cl w w₁) : CF Wg C n B Cl w0 w₁ := ⟨h.bs.rely r, h.ex.rely r⟩
structure CG (Wg C n B : Nat) (Cl : Nat → Prop) (w0 : World) (N : Nat) (cur : List Nat) (w : World) : Prop where
  bs : Bs C B w
  ex : Ex Wg C n B Cl (fun _ => False) w0 w
  lo : w0.heap.size ≤ N
  mn : Mine w N
  hx : w.heap[N]? = some (.cells (bytesA cur) 5)
omit [OldG] in
theorem CG.rely {w0 w w₁ : World} {N : Nat} {cur : List Nat} (h : CG Wg C n B Cl w0 N cur w) (r : Ro Wg C n B Cl w w₁) : CG Wg C n B Cl w0 N cur w₁ := ⟨h.bs.rely r, h.ex.rely r, h.lo, (r.mineAt _).2 h.mn, (r.mine _ h.mn).trans h.hx⟩
omit [OldG] in
theorem CF.alloc {w0 w : World} (h : CF Wg C n B Cl w0 w) (L : Nat) : CG Wg C n B Cl w0 w.heap.size (List.replicate L 0) (w.alloc (.cells (madeCells #[.int .u8 0] L) 5)) :=
  ⟨h.bs.alloc _, ex_alloc h.ex h.bs _, h.ex.size, mine_fresh (w := w) (w' := w.alloc _) rfl h.bs.tg (Nat.le_refl _) (by rw [sz_alloc]; omega), by rw [heap_new, made_zero]⟩
omit [OldG] in
/-- What was written into the new block is nothing to the beginning. -/
theorem CG.back {w0 w w₁ : World} (h0 : Bs C B w0) {N : Nat} {cur : List Nat} (h : CG Wg C n B Cl w0 N cur w) (r : Ex Wg C n B Cl (· = N) w w₁) : Ex Wg C n B Cl (fun _ => False) w0 w₁ :=
  ⟨Nat.le_trans h.ex.size r.size, r.tape.trans h.ex.tape, r.os.trans h.ex.os, r.tag ∘ h.ex.tag, fun b x => r.own b (h.ex.own b x), fun b x y => (r.mine b (h.ex.own b x) (fun e => by have := h0.lt x; have := h.lo; omega)).trans (h.ex.mine b x y),
    fun b x y z => (r.low b x y z).trans (h.ex.low b x y z), fun i x => (r.cell i x).trans (h.ex.cell i x), r.pay ∘ h.ex.pay⟩

def zsOf (ws : List Nat) (cs : List Col) : List (Nat × List Nat) := ws.zip (cs.map (·.ys))
def CI (Wg C n B : Nat) (Cl : Nat → Prop) (w0 : World) (bw ow cw bc oc cc L k N : Nat) (ws : List Nat) (cs : List Col) (a : Act) (w : World) : Prop :=
  ∃ (j : Nat) (v2 v3 v4 v6 v7 v8 v9 v10 v11 v12 v16 v17 v18 v19 v20 v21 v22 v23 v24 v25 v26 v27 v28 : Value), j ≤ k ∧ CG Wg C n B Cl w0 N (comb ((zsOf ws cs).take j) (List.replicate L 0)) w ∧ a = { tmps := #[.slice (some ⟨bw, ow, none⟩) k cw, .slice (some ⟨bc, oc, none⟩) k cc, v2, v3, v4, .slice (some ⟨N, 0, none⟩) L L, v6, v7, v8, v9, v10, v11, v12, .slice (some ⟨bc, oc, none⟩) k cc, .int .i64 ((k : Nat) : Int), .int .i64 ((j : Nat) : Int), v16, v17, v18, v19, v20, v21, v22, v23, v24, v25, v26, v27, v28], defers := [] }
def muC (k : Nat) (a : Act) (_ : World) : Nat := match a.tmps.getD 15 undef with | .int _ j => k - j.toNat | _ => 0
omit [Payload] [OldG] in
theorem info_u8 : (Tryd.prog.info? 5).map (fun i => (i.zero, i.size, i.bytes)) = some (some (.int .u8 0), 1, 1) := by kernel_rfl

set_option maxRecDepth 100000 in
set_option maxHeartbeats 2000000 in
theorem combine_c (k L : Nat) (hk0 : 0 < k) (hk : k ≤ 128) (hL : L ≤ 140737488355328) : ∃ q, ∀ (w : World) (bw ow cw bc oc cc : Nat) (ws : List Nat) (cs : List Col), LenIs ws k → cs.length = k → (∀ x ∈ ws, x < 256) → (∀ c ∈ cs, LenIs c.ys L ∧ ∀ y ∈ c.ys, y < 256) → Bs C B w → CIn Wg C B bw ow bc oc L ws cs w →
    CallsC Tryd.prog main (Ro Wg C n B Cl) (Dg Wg C n B Cl) 34 #[.slice (some ⟨bw, ow, none⟩) k cw, .slice (some ⟨bc, oc, none⟩) k cc] q w fun v w' => ∃ N, v = .slice (some ⟨N, 0, none⟩) L L ∧ CG Wg C n B Cl w N (comb (zsOf ws cs) (List.replicate L 0)) w' := by
  obtain ⟨qa, ha⟩ := addTimes_c (main := main) (Wg := Wg) (C := C) (n := n) (B := B) (Cl := Cl) L
  obtain ⟨i0, hi, hz0, hz1, hz2⟩ := info_parts info_u8
  have hmk : ∀ w : World, (Instr.makeSlice 29 (.int .i64 (L : Int)) (.int .i64 (L : Int))).run Tryd.prog w = .ok (.slice (some ⟨w.heap.size, 0, none⟩) L L) (w.alloc (.cells (madeCells #[.int .u8 0] L) 5)) := fun w => by
    have := run_make (P := Tryd.prog) w 29 5 i0 (.int .u8 0) Tryd.underlying29 hi hz0 .i64 .i64 (L : Int) (L : Int) (by omega) (by omega) (by rw [hz2]; omega) (by omega)
    rw [hz1, show (Value.int .u8 0).cells = #[.int .u8 0] from rfl] at this
    simpa using this
  have hme : ∀ (w : World) (es : Array Event), (Instr.makeSlice 29 (.int .i64 (L : Int)) (.int .i64 (L : Int))).events Tryd.prog w es = es := fun w es =>
    events_make (P := Tryd.prog) w 29 5 i0 (.int .u8 0) Tryd.underlying29 hi hz0 .i64 .i64 (L : Int) (L : Int) (by omega) (by omega) (by rw [hz2]; omega) (by omega) (by rw [hz2]; simp; omega) es
  clear hi hz0 hz1 hz2
  co_apply Exists.intro
  intro w bw ow cw bc oc cc ws cs hlw hlc hws hcs hb hin
  co_apply callsC_of_wpC Tryd.func34 (by rfl) rfl
  simp only [Tryd.ntmps34, List.size_toArray, List.length_cons, List.length_nil, Nat.reduceAdd, Nat.reduceSub, Array.replicate_succ, Array.replicate_zero, List.push_toArray, List.append_toArray, List.nil_append, List.cons_append]
  have hF : CF Wg C n B Cl w w := ⟨hb, .refl w⟩
  have hkI : (0 : Int) < (k : Int) := by omega
  obtain ⟨c0, hc0⟩ : ∃ c, cs[0]? = some c := ⟨cs[0]'(by omega), by simp⟩
  co_apply wpC_seq termsG
  co_reg termsG
  co_op CF.rely hF (co_quiet termsG)
  co_apply opsC_nil termsG
  co_then
  co_apply wpC_seq termsG
  co_reg termsG
  co_op CF.rely hF (co_quiet termsG)
  co_opw CF.rely hF (skip) (co_still termsG)
  co_opw CF.rely hF (have hc := (hin.ex hF.ex).hc 0 c0 hc0; simp only [Nat.add_zero] at hc) (refine dg_read (hin.ex hF.ex).rc (hin.ex hF.ex).lc ?_; co_evs (exact ⟨_, rfl, rfl⟩))
  clear hc
  co_op CF.rely hF (co_quiet termsG)
  co_opw CF.rely hF (skip) (rw [listed_nil (by simp [go_sem, *])]; exact dg_alloc hF.bs.hC _ rfl)
  replace hF := hF.alloc L
  generalize hN : Array.size (World.heap _) = N at hF ⊢
  clear hN
  co_op CG.rely hF (co_quiet termsG)
  co_apply opsC_nil termsG
  co_then
  co_apply wpC_seq termsG
  co_apply wpC_seq termsG
  co_reg termsG
  co_op CG.rely hF (co_quiet termsG)
  co_op CG.rely hF (co_quiet termsG)
  co_op CG.rely hF (co_quiet termsG)
  co_apply opsC_nil termsG
  co_then
  co_apply wpC_block termsG
  co_apply wpC_loop termsG (CI Wg C n B Cl w bw ow cw bc oc cc L k N ws cs) (muC k) _ k
  · exact ⟨0, _, _, _, _, _, _, _, _, _, _, _, _, _, _, _, _, _, _, _, _, _, _, _, Nat.zero_le _, hF, rfl⟩
  · simp [muC]
  rintro a w' ⟨j, v2, v3, v4, v6, v7, v8, v9, v10, v11, v12, v16, v17, v18, v19, v20, v21, v22, v23, v24, v25, v26, v27, v28, hj, hF, rfl⟩
  co_apply wpC_seq termsG
  co_reg termsG
  co_op CG.rely hF (co_quiet termsG)
  co_apply opsC_nil termsG
  co_then
  co_apply wpC_seq termsG
  co_split termsG (decide ((j : Int) < (k : Int)))
  · intro hjl
    have hjl' : j < k := by have := of_decide_eq_true hjl; omega
    have hjI : (j : Int) < (k : Int) := by omega
    clear hjl
    obtain ⟨c, hcj⟩ : ∃ c, cs[j]? = some c := ⟨cs[j]'(by omega), by simp⟩
    obtain ⟨x, hxj⟩ : ∃ x, ws[j]? = some x := ⟨ws[j]'(by rw [show ws.length = k from hlw]; omega), by simp⟩
    have hx256 : x < 256 := hws x (List.mem_of_getElem? hxj)
    have hcm := List.mem_of_getElem? hcj
    obtain ⟨hly, hys⟩ := hcs c hcm
    co_ctl termsG
    co_then
    co_apply wpC_seq termsG
    co_apply wpC_block termsG
    co_apply wpC_seq termsG
    co_reg termsG
    co_op CG.rely hF (co_quiet termsG)
    co_opw CG.rely hF (skip) (co_still termsG)
    co_opw CG.rely hF (have hc := (hin.ex hF.ex).hc j c hcj) (refine dg_read (hin.ex hF.ex).rc (hin.ex hF.ex).lc ?_; co_evs (exact ⟨_, rfl, rfl⟩))
    clear hc
    co_op CG.rely hF (co_quiet termsG)
    co_op CG.rely hF (co_quiet termsG)
    co_apply opsC_nil termsG
    co_then
    co_reg termsG
    co_op CG.rely hF (co_quiet termsG)
    co_op CG.rely hF (co_quiet termsG)
    co_op CG.rely hF (co_quiet termsG)
    co_opw CG.rely hF (skip) (co_still termsG)
    co_opw CG.rely hF (have hc := (hin.ex hF.ex).hw j x hxj) (refine dg_read (hin.ex hF.ex).rw (hin.ex hF.ex).lw ?_; co_evs (exact ⟨_, rfl, rfl⟩))
    clear hc
    co_op CG.rely hF (co_quiet termsG)
    have hcol := (hin.ex hF.ex).hcol c hcm
    have hN1 := hF.lo
    have hN2 := hb.hC
    have hN3 := hb.hB
    have hN4 := (hin.hcol c hcm).2.1
    have hAF : ∀ w1, CG Wg C n B Cl w N (comb ((zsOf ws cs).take j) (List.replicate L 0)) w1 → AF Wg C n B Cl w1 N (comb ((zsOf ws cs).take j) (List.replicate L 0)) c.bo c.oo c.ys w1 := fun w1 h1 =>
      ⟨h1.bs, .refl _, h1.mn, by omega, by omega, ((hin.ex h1.ex).hcol c hcm).1, ((hin.ex h1.ex).hcol c hcm).2.1, by omega, h1.hx, ((hin.ex h1.ex).hcol c hcm).2.2.2⟩
    have hz256 : ∀ z ∈ (zsOf ws cs).take j, z.1 < 256 ∧ ∀ y ∈ z.2, y < 256 := by
      intro z hz
      have hz := List.mem_of_mem_take hz
      have h1 := List.of_mem_zip hz
      refine ⟨hws _ h1.1, ?_⟩
      obtain ⟨c', hc', e⟩ := List.mem_map.1 h1.2
      rw [← e]
      exact (hcs c' hc').2
    co_apply opsC_call termsG rfl (by rfl) rfl
    · walk_nrm
      exact ha _ c.bs N L L c.bo c.oo c.co x _ c.ys (hin.hcol c hcm).2.2.1 hx256 (comb_lt _ _ hz256 (by intro x hx; rw [List.mem_replicate] at hx; omega)) hys (by show List.length _ = L; rw [comb_length]; simp) (Nat.le_refl _) hly (by simp [maxLen]; omega) (hAF _ hF)
    rintro v w' ⟨rfl, haf⟩
    have hsn : (zsOf ws cs).take (j + 1) = (zsOf ws cs).take j ++ [(x, c.ys)] := by
      rw [List.take_add_one]
      congr 1
      simp [zsOf, List.getElem?_zip_eq_some, hxj, hcj]
    replace hF : CG Wg C n B Cl w N (comb ((zsOf ws cs).take (j + 1)) (List.replicate L 0)) w' := ⟨haf.bs, hF.back hb haf.ex, hF.lo, haf.ml, by rw [hsn, comb_snoc]; exact haf.hx⟩
    clear haf hAF
    walk_nrm
    co_apply opsC_nil termsG
    co_then
    co_reg termsG
    co_op CG.rely hF (co_quiet termsG)
    co_op CG.rely hF (co_quiet termsG)
    co_apply opsC_nil termsG
    co_then
    have hw1 : IntKind.i64.wrap ((j : Int) + 1) = ((j + 1 : Nat) : Int) := by rw [IntKind.wrap_i64]; omega
    simp only [hw1]
    refine ⟨⟨j + 1, _, _, _, _, _, _, _, _, _, _, _, _, _, _, _, _, _, _, _, _, _, _, _, by omega, hF, rfl⟩, ?_⟩
    simp [muC]
    omega
  · intro hjl
    have hjk : j = k := by have := of_decide_eq_false hjl; omega
    have hall : (zsOf ws cs).take j = zsOf ws cs := List.take_of_length_le (by simp [zsOf]; omega)
    rw [hall] at hF
    co_ctl termsG
    co_then
    co_apply wpC_seq termsG
    co_reg termsG
    co_op CG.rely hF (co_quiet termsG)
    co_op CG.rely hF (co_quiet termsG)
    co_apply opsC_nil termsG
    co_then
    co_apply wpC_ret termsG
    exact ⟨rfl, _, resultsC_tmp (by rfl) _, N, rfl, hF⟩
end
end Go.Proofs.YtkpcmfgeanlcnabDoor

/-
  The program's sync.WaitGroup is the library's; the payload's cells are lists of bytes.
-/
namespace Go.Proofs.YtkpcmfgeanlcnabDoor
abbrev link : Go.Conc.Lib.WgLink := { add := 31, done := 33, wait := 36, relMerge := 43, disable := 44, enable := 45, inBubble := 46, associate := 47, fatal := 48, uOr := 49, uAdd := 50, raceRead := 51, uLoad := 52, uStore := 53, disassociate := 54, semrelease := 55, acquire := 59, isAssociated := 60, uCas := 61, raceWrite := 62, semacquire := 63, orU64 := 65, addU64 := 66, loadU64 := 67, storeU64 := 68, casU64 := 71, tWgP := 90, tUP := 92, tAssoc := 94, tWg := 80, tAU := 77, tU64 := 69, tUint := 88, tU32 := 78, tPU32 := 98, tPAU := 110, tPU64 := 112, tNoCopy := 73, tANoCopy := 74, tAlign64 := 75 }
theorem wgLib : Go.Conc.Lib.WgLib Tryd.prog link :=
  ⟨Tryd.func31, Tryd.func33, Tryd.func36, Tryd.func43, Tryd.func44, Tryd.func45, Tryd.func46, Tryd.func47, Tryd.func48, Tryd.func49, Tryd.func50, Tryd.func51, Tryd.func52, Tryd.func53, Tryd.func54, Tryd.func55, Tryd.func59, Tryd.func60, Tryd.func61, Tryd.func62, Tryd.func63, Tryd.func65, Tryd.func66, Tryd.func67, Tryd.func68, Tryd.func71, Tryd.underlying90, Tryd.runUnderlying90, Tryd.sizeOf90, Tryd.isAgg90, Tryd.zeroValue90, Tryd.underlying92, Tryd.runUnderlying92, Tryd.sizeOf92, Tryd.isAgg92, Tryd.zeroValue92, Tryd.underlying94, Tryd.runUnderlying94, Tryd.sizeOf94, Tryd.isAgg94, Tryd.zeroValue94, Tryd.underlying80, Tryd.runUnderlying80, Tryd.sizeOf80, Tryd.isAgg80, Tryd.zeroValue80, Tryd.underlying77, Tryd.runUnderlying77, Tryd.sizeOf77, Tryd.isAgg77, Tryd.zeroValue77, Tryd.underlying69, Tryd.runUnderlying69, Tryd.sizeOf69, Tryd.isAgg69, Tryd.zeroValue69, Tryd.underlying88, Tryd.runUnderlying88, Tryd.sizeOf88, Tryd.isAgg88, Tryd.zeroValue88, Tryd.underlying78, Tryd.runUnderlying78, Tryd.sizeOf78, Tryd.isAgg78, Tryd.zeroValue78, Tryd.underlying98, Tryd.runUnderlying98, Tryd.sizeOf98, Tryd.isAgg98, Tryd.zeroValue98, Tryd.underlying110, Tryd.runUnderlying110, Tryd.sizeOf110, Tryd.isAgg110, Tryd.zeroValue110, Tryd.underlying112, Tryd.runUnderlying112, Tryd.sizeOf112, Tryd.isAgg112, Tryd.zeroValue112, Tryd.underlying0, Tryd.runUnderlying0, Tryd.sizeOf0, Tryd.isAgg0, Tryd.zeroValue0, Tryd.underlying3, Tryd.runUnderlying3, Tryd.sizeOf3, Tryd.isAgg3, Tryd.zeroValue3, Tryd.underlying4, Tryd.runUnderlying4, Tryd.sizeOf4, Tryd.isAgg4, Tryd.zeroValue4, Tryd.underlying9, Tryd.runUnderlying9, Tryd.sizeOf9, Tryd.isAgg9, Tryd.zeroValue9, Tryd.underlying20, Tryd.runUnderlying20, Tryd.sizeOf20, Tryd.isAgg20, Tryd.zeroValue20, Tryd.underlying21, Tryd.runUnderlying21, Tryd.sizeOf21, Tryd.isAgg21, Tryd.zeroValue21, (by kernel_rfl), (by kernel_rfl)⟩
end Go.Proofs.YtkpcmfgeanlcnabDoor

/-
  In company: what any worker that lays one new row of bytes into its place is about.
-/
namespace Go.Proofs.YtkpcmfgeanlcnabDoor
open Go.Conc Go.ConcN Go.RowKit Go.Gh Go.Conc.Lib Go.ConcR.Gen Go.ConcN.Gen
open Go.ConcR (Payload)

/-- Take operation number i first. -/

theorem anyX_one_k {P : Program} {main : Bool} {R : World → World → Prop} {D : World → World → Array Event → Prop} {fn : FuncId} {ops : Array Oper} {Q : Exit → Act → World → Prop} {S : World → Prop} {nf lst i k : Nat} {l : Array Bool} {a : Act} {w : World} {o : Oper}
    (hr : Region.ready .any ops l = [i]) (ho : ops[i]? = some o) (hw : Region.wanted o (yielded ops a.tmps) = true)
    (h : ∀ w₁, R w w₁ → ∀ K : Act → World → Prop, (∀ a' w', (D w₁ w' (listed P fn a o w₁) ∧ (i ≠ lst → S w') ∧ AnyX P main R D fn ops nf Q S lst k (l.setIfInBounds i true) a' w') → K a' w') → uponK o a K ((execOp a.eval o).run P w₁)) : AnyX P main R D fn ops nf Q S lst (k + 1) l a w :=
  anyX_one hr ⟨o, ho, .inl ⟨hw, fun w₁ r => h w₁ r _ fun _ _ x => x⟩⟩

section
variable [Payload] [OldG] {main : Bool} {Wg C n B : Nat} {Cl : Nat → Prop}

omit [Payload] in
theorem Bs.rdb_lt {w : World} (h : Bs C B w) {b : Nat} (hb : Rdb Wg C B w b) : b < w.heap.size := hb.elim (h.lt ·) fun x => Nat.lt_of_lt_of_le x.1 h.hB
omit [OldG] in
/-- To write one's own cell of the payload. -/
theorem cell_set {w : World} (hp : PayAt C n w) {i : Nat} (hi : i < n) (v : Value) : Has C i v (w.setCell ⟨C, i, none⟩ v) := by
  obtain ⟨arr, h1, h2⟩ := hp
  simp [Has, World.cell?, heap_set w h1, h2, hi]
theorem dg_cell {w : World} (hp : PayAt C n w) (hC : C < w.heap.size) {i : Nat} (hi : Cl i) (v : Value) {es : Array Event} (he : ∀ e ∈ es, ∃ wr, e = ⟨.cell ⟨C, i, none⟩, wr, false⟩) : Dg Wg C n B Cl w (w.setCell ⟨C, i, none⟩ v) es := by
  obtain ⟨arr, h1, h2⟩ := hp
  refine ⟨by rw [sz_set]; omega, rfl, rfl, fun b _ _ hb => Below.heap_setCell _ _ _ _ hb, fun j hj => ?_, fun _ => ⟨_, heap_set w h1 i v, by simpa using h2⟩, fun e he' => ?_⟩
  · simp only [World.cell?, heap_set w h1, h1]
    rw [Array.getElem?_setIfInBounds_ne (fun e : i = j => hj (e ▸ hi))]
  · obtain ⟨wr, rfl⟩ := he e he'
    exact ⟨_, wr, rfl, by rw [sz_set]; exact hC, .inr (.inr (.inl ⟨i, rfl, hi⟩))⟩

/-- What the worker leaves: a new row of bytes. -/
def WPr (C L : Nat) (res : Nat → List Nat) (idx : Nat) (v : Value) (w : World) : Prop := ∃ N, v = .slice (some ⟨N, 0, none⟩) L L ∧ Mine w N ∧ N ≠ C ∧ w.heap[N]? = some (.cells (bytesA (res idx)) 5)
omit [OldG] in
theorem WPr.rely {w w₁ : World} {L idx : Nat} {res : Nat → List Nat} {v : Value} (h : WPr C L res idx v w) (r : Ro Wg C n B Cl w w₁) : WPr C L res idx v w₁ := by
  obtain ⟨N, h1, h2, h3, h4⟩ := h
  exact ⟨N, h1, (r.mineAt _).2 h2, h3, (r.mine _ h2).trans h4⟩

/-- The worker has written its cell. -/
structure WD1 (C L : Nat) (res : Nat → List Nat) (idx : Nat) (v : Value) (w : World) : Prop where
  wp : WPr C L res idx v w
  has : Has C idx v w
omit [OldG] in
theorem WD1.rely {w w₁ : World} {L idx : Nat} {res : Nat → List Nat} {v : Value} (h : WD1 C L res idx v w) (r : Ro Wg C n B (· = idx) w w₁) : WD1 C L res idx v w₁ := ⟨h.wp.rely r, (r.cell idx rfl).trans h.has⟩

end
end Go.Proofs.YtkpcmfgeanlcnabDoor
