/-
  In company: columns are added up, each multiplied by its weight.
-/
import Derived.Test.YtlghjjennhpjeaaGreatDoorCoD
import Derived.Test.YtlghjjennhpjeaaGreatDoorLfL
import Derived.Test.YtlghjjennhpjeaaGreatDoorSvE
import Derived.Test.YtlghjjennhpjeaaGreatDoorRowW
import Derived.RangeFuncRecord
namespace Go.Proofs.YtlghjjennhpjeaaGreatDoor
open Go.Conc Go.RowKit Go.Gh
open Go.ConcR (Payload)

/-- A column where it lies: the slice's base and capacity, where its bytes are, its bytes. -/
structure Col where
  bs : Option Addr
  bo : Nat
  oo : Nat
  co : Nat
  ys : List Nat

/-- Columns added up. -/
def comb : List (Nat × List Nat) → List Nat → List Nat
  | [], cur => cur
  | z :: zs, cur => comb zs (addT z.1 cur z.2)
theorem comb_length : ∀ (zs : List (Nat × List Nat)) (cur : List Nat), (comb zs cur).length = cur.length
  | [], _ => rfl
  | z :: zs, cur => by rw [comb, comb_length zs, addT_length]
theorem comb_snoc : ∀ (zs : List (Nat × List Nat)) (cur : List Nat) (z : Nat × List Nat), comb (zs ++ [z]) cur = addT z.1 (comb zs cur) z.2
  | [], _, _ => rfl
  | y :: zs, cur, z => by rw [List.cons_append, comb, comb_snoc zs, comb]
theorem comb_lt : ∀ (zs : List (Nat × List Nat)) (cur : List Nat), (∀ z ∈ zs, z.1 < 256 ∧ ∀ y ∈ z.2, y < 256) → (∀ x ∈ cur, x < 256) → ∀ x ∈ comb zs cur, x < 256
  | [], _, _, h => h
  | z :: zs, cur, h1, h2 => comb_lt zs _ (fun y hy => h1 y (by simp [hy])) (addT_lt z.1 (h1 z (by simp)).1 cur z.2 h2 (h1 z (by simp)).2)
theorem made_zero (L : Nat) : madeCells #[.int .u8 0] L = bytesA (List.replicate L 0) := by
  apply Array.ext_getElem?
  intro i
  rw [bytesA_get]
  by_cases h : i < L
  · simp [madeCells, h, Nat.mod_one]
  · simp [madeCells, h]

section
variable [Payload] [OldG] {main : Bool} {Wg C n B : Nat} {Cl : Nat → Prop}

/-- What the callee finds: the weights, the list of the columns, their bytes. -/
structure CIn (Wg C B : Nat) (bw ow bc oc L : Nat) (ws : List Nat) (cs : List Col) (w : World) : Prop where
  rw : Rdb Wg C B w bw
  lw : bw < w.heap.size
  rc : Rdb Wg C B w bc
  lc : bc < w.heap.size
  hw : ∀ j x, ws[j]? = some x → w.cell? ⟨bw, ow + j, none⟩ = some (.int .u8 ((x : Nat) : Int))
  hc : ∀ j c, cs[j]? = some c → w.cell? ⟨bc, oc + j, none⟩ = some (.slice c.bs L c.co)
  hcol : ∀ c ∈ cs, Rdb Wg C B w c.bo ∧ c.bo < w.heap.size ∧ (0 < L → c.bs = some ⟨c.bo, c.oo, none⟩) ∧ ∀ i y, c.ys[i]? = some y → w.cell? ⟨c.bo, c.oo + i, none⟩ = some (.int .u8 ((y : Nat) : Int))
theorem CIn.ex {w w₁ : World} {bw ow bc oc L : Nat} {ws : List Nat} {cs : List Col} (h : CIn Wg C B bw ow bc oc L ws cs w) (r : Ex Wg C n B Cl (fun _ => False) w w₁) : CIn Wg C B bw ow bc oc L ws cs w₁ := by
  have st : ∀ {b : Nat}, Rdb Wg C B w b → ∀ o, w₁.cell? ⟨b, o, none⟩ = w.cell? ⟨b, o, none⟩ := fun hb o => by simp only [World.cell?, r.stands hb id]
  exact ⟨r.rdb h.rw, Nat.lt_of_lt_of_le h.lw r.size, r.rdb h.rc, Nat.lt_of_lt_of_le h.lc r.size, fun j x e => (st h.rw _).trans (h.hw j x e), fun j c e => (st h.rc _).trans (h.hc j c e),
    fun c hc => let ⟨h1, h2, h3, h4⟩ := h.hcol c hc; ⟨r.rdb h1, Nat.lt_of_lt_of_le h2 r.size, h3, fun i y e => (st h1 _).trans (h4 i y e)⟩⟩

structure CF (Wg C n B : Nat) (Cl : Nat → Prop) (w0 w : World) : Prop where
  bs : Bs C B w
  ex : Ex Wg C n B Cl (fun _ => False) w0 w
omit [OldG] in
theorem CF.rely {w0 w w₁ : World} (h : CF Wg C n B Cl w0 w) (r : Ro Wg C n B Cl w w₁) : CF Wg C n B Cl w0 w₁ := ⟨h.bs.rely r, h.ex.rely r⟩
structure CG (Wg C n B : Nat) (Cl : Nat → Prop) (w0 : World) (N : Nat) (cur : List Nat) (w : World) : Prop where
  bs : Bs C B w
  ex : Ex Wg C n B Cl (fun _ => False) w0 w
  lo : w0.heap.size ≤ N
  mn : Mine w N
  hx : w.heap[N]? = some (.cells (bytesA cur) 5)
omit [OldG] in
theorem CG.rely {w0 w w₁ : World} {N : Nat} {cur : List Nat} (h : CG Wg C n B Cl w0 N cur w) (r : Ro Wg C n B Cl w w₁) : CG Wg C n B Cl w0 N cur w₁ := ⟨h.bs.rely r, h.ex.rely r, h.lo, (r.mineAt _).2 h.mn, (r.mine _ h.mn).trans h.hx⟩
omit [OldG] in
theorem CF.alloc {w0 w : World} (h : CF Wg C n B Cl w0 w) (L : Nat) : CG Wg C n B Cl w0 w.heap.size (List.replicate L 0) (w.alloc (.cells (madeCells #[.int .u8 0] L) 5)) :=
  ⟨h.bs.alloc _, ex_alloc h.ex h.bs _, h.ex.size, mine_fresh (w := w) (w' := w.alloc _) rfl h.bs.tg (Nat.le_refl _) (by rw [sz_alloc]; omega), by rw [heap_new, made_zero]⟩
omit [OldG] in
/-- What was written into the new block is nothing to the beginning. -/
theorem CG.back {w0 w w₁ : World} (h0 : Bs C B w0) {N : Nat} {cur : List Nat} (h : CG Wg C n B Cl w0 N cur w) (r : Ex Wg C n B Cl (· = N) w w₁) : Ex Wg C n B Cl (fun _ => False) w0 w₁ :=
  ⟨Nat.le_trans h.ex.size r.size, r.tape.trans h.ex.tape, r.os.trans h.ex.os, r.tag ∘ h.ex.tag, fun b x => r.own b (h.ex.own b x), fun b x y => (r.mine b (h.ex.own b x) (fun e => by have := h0.lt x; have := h.lo; omega)).trans (h.ex.mine b x y),
    fun b x y z => (r.low b x y z).trans (h.ex.low b x y z), fun i x => (r.cell i x).trans (h.ex.cell i x), r.pay ∘ h.ex.pay⟩

def zsOf (ws : List Nat) (cs : List Col) : List (Nat × List Nat) := ws.zip (cs.map (·.ys))
def CI (Wg C n B : Nat) (Cl : Nat → Prop) (w0 : World) (bw ow cw bc oc cc L k N : Nat) (ws : List Nat) (cs : List Col) (a : Act) (w : World) : Prop :=
  ∃ (j : Nat) (v2 v3 v4 v6 v7 v8 v9 v10 v11 v12 v16 v17 v18 v19 v20 v21 v22 v23 v24 v25 v26 v27 v28 : Value), j ≤ k ∧ CG Wg C n B Cl w0 N (comb ((zsOf ws cs).take j) (List.replicate L 0)) w ∧ a = { tmps := #[.slice (some ⟨bw, ow, none⟩) k cw, .slice (some ⟨bc, oc, none⟩) k cc, v2, v3, v4, .slice (some ⟨N, 0, none⟩) L L, v6, v7, v8, v9, v10, v11, v12, .slice (some ⟨bc, oc, none⟩) k cc, .int .i64 ((k : Nat) : Int), .int .i64 ((j : Nat) : Int), v16, v17, v18, v19, v20, v21, v22, v23, v24, v25, v26, v27, v28], defers := [] }
def muC (k : Nat) (a : Act) (_ : World) : Nat := match a.tmps.getD 15 undef with | .int _ j => k - j.toNat | _ => 0
omit [Payload] [OldG] in
theorem info_u8 : (Tryz.prog.info? 5).map (fun i => (i.zero, i.size, i.bytes)) = some (some (.int .u8 0), 1, 1) := by kernel_rfl

set_option maxRecDepth 100000 in
set_option maxHeartbeats 2000000 in
theorem combine_c (k L : Nat) (hk0 : 0 < k) (hk : k ≤ 128) (hL : L ≤ 140737488355328) : ∃ q, ∀ (w : World) (bw ow cw bc oc cc : Nat) (ws : List Nat) (cs : List Col), LenIs ws k → cs.length = k → (∀ x ∈ ws, x < 256) → (∀ c ∈ cs, LenIs c.ys L ∧ ∀ y ∈ c.ys, y < 256) → Bs C B w → CIn Wg C B bw ow bc oc L ws cs w →
    CallsC Tryz.prog main (Ro Wg C n B Cl) (Dg Wg C n B Cl) 81 #[.slice (some ⟨bw, ow, none⟩) k cw, .slice (some ⟨bc, oc, none⟩) k cc] q w fun v w' => ∃ N, v = .slice (some ⟨N, 0, none⟩) L L ∧ CG Wg C n B Cl w N (comb (zsOf ws cs) (List.replicate L 0)) w' := by
  obtain ⟨qa, ha⟩ := addTimes_c (main := main) (Wg := Wg) (C := C) (n := n) (B := B) (Cl := Cl) L
  obtain ⟨i0, hi, hz0, hz1, hz2⟩ := info_parts info_u8
  have hmk : ∀ w : World, (Instr.makeSlice 24 (.int .i64 (L : Int)) (.int .i64 (L : Int))).run Tryz.prog w = .ok (.slice (some ⟨w.heap.size, 0, none⟩) L L) (w.alloc (.cells (madeCells #[.int .u8 0] L) 5)) := fun w => by
    have := run_make (P := Tryz.prog) w 24 5 i0 (.int .u8 0) Tryz.underlying24 hi hz0 .i64 .i64 (L : Int) (L : Int) (by omega) (by omega) (by rw [hz2]; omega) (by omega)
    rw [hz1, show (Value.int .u8 0).cells = #[.int .u8 0] from rfl] at this
    simpa using this
  have hme : ∀ (w : World) (es : Array Event), (Instr.makeSlice 24 (.int .i64 (L : Int)) (.int .i64 (L : Int))).events Tryz.prog w es = es := fun w es =>
    events_make (P := Tryz.prog) w 24 5 i0 (.int .u8 0) Tryz.underlying24 hi hz0 .i64 .i64 (L : Int) (L : Int) (by omega) (by omega) (by rw [hz2]; omega) (by omega) (by rw [hz2]; simp; omega) es
  clear hi hz0 hz1 hz2
  co_apply Exists.intro
  intro w bw ow cw bc oc cc ws cs hlw hlc hws hcs hb hin
  co_apply callsC_of_wpC Tryz.func81 (by rfl) rfl
  simp only [Tryz.ntmps81, List.size_toArray, List.length_cons, List.length_nil, Nat.reduceAdd, Nat.reduceSub, Array.replicate_succ, Array.replicate_zero, List.push_toArray, List.append_toArray, List.nil_append, List.cons_append]
  have hF : CF Wg C n B Cl w w := ⟨hb, .refl w⟩
  have hkI : (0 : Int) < (k : Int) := by omega
  obtain ⟨c0, hc0⟩ : ∃ c, cs[0]? = some c := ⟨cs[0]'(by omega), by simp⟩
  co_apply wpC_seq termsG
  co_reg termsG
  co_op CF.rely hF (co_quiet termsG)
  co_apply opsC_nil termsG
  co_then
  co_apply wpC_seq termsG
  co_reg termsG
  co_op CF.rely hF (co_quiet termsG)
  co_opw CF.rely hF (skip) (co_still termsG)
  co_opw CF.rely hF (have hc := (hin.ex hF.ex).hc 0 c0 hc0; simp only [Nat.add_zero] at hc) (refine dg_read (hin.ex hF.ex).rc (hin.ex hF.ex).lc ?_; co_evs (exact ⟨_, rfl, rfl⟩))
  clear hc
  co_op CF.rely hF (co_quiet termsG)
  co_opw CF.rely hF (skip) (rw [listed_nil (by simp [go_sem, *])]; exact dg_alloc hF.bs.hC _ rfl)
  replace hF := hF.alloc L
  generalize hN : Array.size (World.heap _) = N at hF ⊢
  clear hN
  co_op CG.rely hF (co_quiet termsG)
  co_apply opsC_nil termsG
  co_then
  co_apply wpC_seq termsG
  co_apply wpC_seq termsG
  co_reg termsG
  co_op CG.rely hF (co_quiet termsG)
  co_op CG.rely hF (co_quiet termsG)
  co_op CG.rely hF (co_quiet termsG)
  co_apply opsC_nil termsG
  co_then
  co_apply wpC_block termsG
  co_apply wpC_loop termsG (CI Wg C n B Cl w bw ow cw bc oc cc L k N ws cs) (muC k) _ k
  · exact ⟨0, _, _, _, _, _, _, _, _, _, _, _, _, _, _, _, _, _, _, _, _, _, _, _, Nat.zero_le _, hF, rfl⟩
  · simp [muC]
  rintro a w' ⟨j, v2, v3, v4, v6, v7, v8, v9, v10, v11, v12, v16, v17, v18, v19, v20, v21, v22, v23, v24, v25, v26, v27, v28, hj, hF, rfl⟩
  co_apply wpC_seq termsG
  co_reg termsG
  co_op CG.rely hF (co_quiet termsG)
  co_apply opsC_nil termsG
  co_then
  co_apply wpC_seq termsG
  co_split termsG (decide ((j : Int) < (k : Int)))
  · intro hjl
    have hjl' : j < k := by have := of_decide_eq_true hjl; omega
    have hjI : (j : Int) < (k : Int) := by omega
    clear hjl
    obtain ⟨c, hcj⟩ : ∃ c, cs[j]? = some c := ⟨cs[j]'(by omega), by simp⟩
    obtain ⟨x, hxj⟩ : ∃ x, ws[j]? = some x := ⟨ws[j]'(by rw [show ws.length = k from hlw]; omega), by simp⟩
    have hx256 : x < 256 := hws x (List.mem_of_getElem? hxj)
    have hcm := List.mem_of_getElem? hcj
    obtain ⟨hly, hys⟩ := hcs c hcm
    co_ctl termsG
    co_then
    co_apply wpC_seq termsG
    co_apply wpC_block termsG
    co_apply wpC_seq termsG
    co_reg termsG
    co_op CG.rely hF (co_quiet termsG)
    co_opw CG.rely hF (skip) (co_still termsG)
    co_opw CG.rely hF (have hc := (hin.ex hF.ex).hc j c hcj) (refine dg_read (hin.ex hF.ex).rc (hin.ex hF.ex).lc ?_; co_evs (exact ⟨_, rfl, rfl⟩))
    clear hc
    co_op CG.rely hF (co_quiet termsG)
    co_op CG.rely hF (co_quiet termsG)
    co_apply opsC_nil termsG
    co_then
    co_reg termsG
    co_op CG.rely hF (co_quiet termsG)
    co_op CG.rely hF (co_quiet termsG)
    co_op CG.rely hF (co_quiet termsG)
    co_opw CG.rely hF (skip) (co_still termsG)
    co_opw CG.rely hF (have hc := (hin.ex hF.ex).hw j x hxj) (refine dg_read (hin.ex hF.ex).rw (hin.ex hF.ex).lw ?_; co_evs (exact ⟨_, rfl, rfl⟩))
    clear hc
    co_op CG.rely hF (co_quiet termsG)
    have hcol := (hin.ex hF.ex).hcol c hcm
    have hN1 := hF.lo
    have hN2 := hb.hC
    have hN3 := hb.hB
    have hN4 := (hin.hcol c hcm).2.1
    have hAF : ∀ w1, CG Wg C n B Cl w N (comb ((zsOf ws cs).take j) (List.replicate L 0)) w1 → AF Wg C n B Cl w1 N (comb ((zsOf ws cs).take j) (List.replicate L 0)) c.bo c.oo c.ys w1 := fun w1 h1 =>
      ⟨h1.bs, .refl _, h1.mn, by omega, by omega, ((hin.ex h1.ex).hcol c hcm).1, ((hin.ex h1.ex).hcol c hcm).2.1, by omega, h1.hx, ((hin.ex h1.ex).hcol c hcm).2.2.2⟩
    have hz256 : ∀ z ∈ (zsOf ws cs).take j, z.1 < 256 ∧ ∀ y ∈ z.2, y < 256 := by
      intro z hz
      have hz := List.mem_of_mem_take hz
      have h1 := List.of_mem_zip hz
      refine ⟨hws _ h1.1, ?_⟩
      obtain ⟨c', hc', e⟩ := List.mem_map.1 h1.2
      rw [← e]
      exact (hcs c' hc').2
    co_apply opsC_call termsG rfl (by rfl) rfl
    · walk_nrm
      exact ha _ c.bs N L L c.bo c.oo c.co x _ c.ys (hin.hcol c hcm).2.2.1 hx256 (comb_lt _ _ hz256 (by intro x hx; rw [List.mem_replicate] at hx; omega)) hys (by show List.length _ = L; rw [comb_length]; simp) (Nat.le_refl _) hly (by simp [maxLen]; omega) (hAF _ hF)
    rintro v w' ⟨rfl, haf⟩
    have hsn : (zsOf ws cs).take (j + 1) = (zsOf ws cs).take j ++ [(x, c.ys)] := by
      rw [List.take_add_one]
      congr 1
      simp [zsOf, List.getElem?_zip_eq_some, hxj, hcj]
    replace hF : CG Wg C n B Cl w N (comb ((zsOf ws cs).take (j + 1)) (List.replicate L 0)) w' := ⟨haf.bs, hF.back hb haf.ex, hF.lo, haf.ml, by rw [hsn, comb_snoc]; exact haf.hx⟩
    clear haf hAF
    walk_nrm
    co_apply opsC_nil termsG
    co_then
    co_reg termsG
    co_op CG.rely hF (co_quiet termsG)
    co_op CG.rely hF (co_quiet termsG)
    co_apply opsC_nil termsG
    co_then
    have hw1 : IntKind.i64.wrap ((j : Int) + 1) = ((j + 1 : Nat) : Int) := by rw [IntKind.wrap_i64]; omega
    simp only [hw1]
    refine ⟨⟨j + 1, _, _, _, _, _, _, _, _, _, _, _, _, _, _, _, _, _, _, _, _, _, _, _, by omega, hF, rfl⟩, ?_⟩
    simp [muC]
    omega
  · intro hjl
    have hjk : j = k := by have := of_decide_eq_false hjl; omega
    have hall : (zsOf ws cs).take j = zsOf ws cs := List.take_of_length_le (by simp [zsOf]; omega)
    rw [hall] at hF
    co_ctl termsG
    co_then
    co_apply wpC_seq termsG
    co_reg termsG
    co_op CG.rely hF (co_quiet termsG)
    co_op CG.rely hF (co_quiet termsG)
    co_apply opsC_nil termsG
    co_then
    co_apply wpC_ret termsG
    exact ⟨rfl, _, resultsC_tmp (by rfl) _, N, rfl, hF⟩
end
end Go.Proofs.YtlghjjennhpjeaaGreatDoor

/-
  A world with its windows shut; what the elimination says of bytes.
-/
namespace Go.Lf
open Go.Conc

def isGh : Obj → Bool
  | .view a _ => !a.spot.isSome
  | .pending .. => true
  | _ => false
def shut : Obj → Obj
  | .view _ t => .view ⟨0, 0, some default⟩ t
  | .pending .. => .stringIter .empty 0
  | o => o
def empt : Obj → Obj
  | .cells _ t fr => .cells #[] t fr
  | o => o
theorem isGh_no {o : Obj} (h : isGh o = false) : NoView o := by
  cases o <;> first | trivial | (simp [isGh] at h; exact h) | cases h
theorem isGh_yes {o : Obj} (h : isGh o = true) : Ghost o (shut o) := by
  cases o <;> first | exact .inl ⟨_, _, rfl, rfl⟩ | exact .inr ⟨_, _, rfl, rfl⟩ | cases h

end Go.Lf

namespace Go.Proofs.YtlghjjennhpjeaaGreatDoor
theorem sum_snoc (n : Nat) (f : Nat → F) : F.sum (List.range (n + 1)) f = F.add (F.sum (List.range n) f) (f n) := by
  have key : ∀ (l : List Nat) (x : Nat), F.sum (l ++ [x]) f = F.add (F.sum l f) (f x) := fun l x => by
    induction l with
    | nil => simp only [List.nil_append, F.sum]; rw [F.add_zero, F.zero_add]
    | cons y l ih => simp only [List.cons_append, F.sum, ih, F.add_assoc]
  rw [List.range_succ, key]

/-- Columns added up, at one place. -/
theorem comb_get (w : Nat → Nat) (c : Nat → List Nat) (L m : Nat) (hm : m < L) (hc : ∀ j, (c j).length = L) : ∀ n : Nat,
    (comb ((List.range n).map fun j => (w j, c j)) (List.replicate L 0)).getD m 0 = Nat.rec (motive := fun _ => Nat) 0 (fun j r => r ^^^ mul ((c j).getD m 0) (w j)) n
  | 0 => by
    show (List.replicate L 0).getD m 0 = 0
    simp [hm]
  | n + 1 => by
    rw [List.range_succ, List.map_append]
    simp only [List.map_cons, List.map_nil]
    rw [comb_snoc]
    have hl : (comb ((List.range n).map fun j => (w j, c j)) (List.replicate L 0)).length = L := by rw [comb_length]; simp
    have ih := comb_get w c L m hm hc n
    have key : ∀ (f : Nat) (xs ys : List Nat) (m : Nat), m < xs.length → m < ys.length → (addT f xs ys).getD m 0 = xs.getD m 0 ^^^ mul (ys.getD m 0) f := by
      intro f xs
      induction xs with
      | nil => intro ys m h; simp at h
      | cons x xs ihx =>
        intro ys m h h'
        cases ys with
        | nil => simp at h'
        | cons y ys =>
          cases m with
          | zero => simp [addT]
          | succ m =>
            simp only [addT, List.getD_cons_succ]
            exact ihx ys m (by simpa using h) (by simpa using h')
    rw [key _ _ _ m (by rw [hl]; exact hm) (by rw [hc]; exact hm), ih]
theorem rec_dot (K : Nat) (R X : Nat → F) : ∀ n, Nat.rec (motive := fun _ => Nat) 0 (fun j r => r ^^^ mul (X j).val (R j).val) n = (F.sum (List.range n) fun j => F.mu (R j) (X j)).val
  | 0 => rfl
  | n + 1 => by
    rw [sum_snoc]
    show _ ^^^ _ = (F.sum (List.range n) fun j => F.mu (R j) (X j)).val ^^^ (F.mu (R n) (X n)).val
    rw [← rec_dot K R X n, F.mu_comm]
    rfl
end Go.Proofs.YtlghjjennhpjeaaGreatDoor

/-
  A world with its windows shut, and some rows of cells emptied: those of the old groups.
-/
namespace Go.Lf
open Go.Conc Go.Gh Go.RowKit
open Classical

/-- The world with its windows shut, and some rows of cells emptied. -/
noncomputable def fixX (X : Nat → Prop) (b : Nat) (o : Obj) : Obj := if X b then empt o else if isGh o then shut o else o
theorem doctorX (w : World) (X : Nat → Prop) (h : ∀ b, X b → ∃ cs t, w.heap[b]? = some (.cells cs t (0, 0))) :
    ∃ (Y : Nat → Option Obj) (v : World), Sim X Y w v ∧ (∀ b c t fr, ¬ X b → w.heap[b]? = some (.cells c t fr) → v.heap[b]? = some (.cells c t fr)) := by
  let Y : Nat → Option Obj := fun b => if X b then none else (w.heap[b]?).bind fun o => if isGh o then some o else none
  have hget : ∀ b, (w.heap.mapIdx (fixX X))[b]? = (w.heap[b]?).map (fixX X b) := fun b => by simp
  have hY : ∀ b o, Y b = some o → ¬ X b ∧ w.heap[b]? = some o ∧ isGh o = true := fun b o hy => by
    simp only [Y] at hy
    split at hy
    · cases hy
    · rename_i hne
      cases hb : w.heap[b]? with
      | none => rw [hb] at hy; cases hy
      | some o' =>
        rw [hb] at hy
        simp only [Option.bind_some] at hy
        split at hy
        · rename_i hg
          cases hy
          exact ⟨hne, rfl, hg⟩
        · cases hy
  refine ⟨Y, { w with heap := w.heap.mapIdx (fixX X) }, ⟨by simp, fun b hb => ?_, fun b hx hy => ?_, fun b o hy => ?_, fun b hx => ?_, fun b o hb => ?_, rfl, rfl, fun _ _ => rfl, fun b cs t fr hx hb => ?_⟩, fun b c t fr hx hb => ?_⟩
  · rcases hb with hb | hb
    · obtain ⟨cs, t, hc⟩ := h b hb
      simpa using (Array.getElem?_eq_some_iff.1 hc).1
    · obtain ⟨o, ho⟩ := Option.isSome_iff_exists.1 hb
      simpa using (Array.getElem?_eq_some_iff.1 (hY b o ho).2.1).1
  · show w.heap[b]? = (w.heap.mapIdx (fixX X))[b]?
    rw [hget]
    cases hb : w.heap[b]? with
    | none => rfl
    | some o =>
      simp only [Y, if_neg hx, hb, Option.bind_some] at hy
      have hg : isGh o = false := by
        cases hg : isGh o with
        | false => rfl
        | true => rw [hg] at hy; cases hy
      simp only [Option.map_some, fixX, if_neg hx, hg, Bool.false_eq_true, if_false]
  · obtain ⟨h1, h2, h3⟩ := hY b o hy
    refine ⟨shut o, h2, ?_, isGh_yes h3⟩
    show (w.heap.mapIdx (fixX X))[b]? = _
    rw [hget, h2]
    simp only [Option.map_some, fixX, if_neg h1, h3, if_true]
  · obtain ⟨cs, t, hc⟩ := h b hx
    refine ⟨cs, t, (0, 0), hc, ?_⟩
    show (w.heap.mapIdx (fixX X))[b]? = _
    rw [hget, hc]
    simp only [Option.map_some, fixX, if_pos hx, empt]
  · change (w.heap.mapIdx (fixX X))[b]? = some o at hb
    rw [hget] at hb
    obtain ⟨o', h1, rfl⟩ := Option.map_eq_some_iff.1 hb
    unfold fixX
    split
    · rename_i hx
      obtain ⟨cs, t, hc⟩ := h b hx
      rw [h1] at hc
      cases hc
      trivial
    · split
      · rename_i hg
        exact (isGh_yes hg).nv
      · rename_i hg
        exact isGh_no (by simpa using hg)
  · change (w.heap.mapIdx (fixX X))[b]? = _ at hb
    obtain ⟨cs', t', hc⟩ := h b hx
    rw [hget, hc] at hb
    simp only [Option.map_some, fixX, if_pos hx, empt, Option.some.injEq, Obj.cells.injEq] at hb
    exact hb.2.2.symm
  · show (w.heap.mapIdx (fixX X))[b]? = _
    rw [hget, hb]
    simp only [Option.map_some, fixX, if_neg hx, isGh, Bool.false_eq_true, if_false]

/-- What goroutine 0 does by itself beside those that leave, if it lets X be. -/
theorem dok_dm {X : Nat → Prop} {Shun : Loc → Prop} (h : ∀ l, Shun l → ∃ a : Addr, l = .cell a ∧ X a.block) : Dok X (DM Shun) := by
  intro n w es hs hev
  refine ⟨hs, fun e he => ?_⟩
  rcases hev e he with ⟨a, wr, rfl, h2, h3⟩ | ⟨r, wr, sy, rfl, _, _⟩ | ⟨m0, hm0, rfl⟩
  · refine ⟨⟨fun x hx hsh => ?_, by simp, by simp⟩, fun x hx ad ead => ?_⟩
    · simp only [MemAct.ofEvent, MemAct.touch?, Option.some.injEq] at hx
      subst hx
      obtain ⟨a', h4, h5⟩ := h _ hsh
      cases h4
      exact absurd h5 h3
    · simp only [MemAct.ofEvent, MemAct.touch?, Option.some.injEq] at hx
      subst hx
      cases ead
      exact h2
  · have no : ∀ x, (MemAct.ofEvent ⟨.obj r, wr, sy⟩).touch? = some x → ∀ a : Addr, x.loc ≠ .cell a := fun x hx a e => by
      cases wr <;> cases sy <;> simp only [MemAct.ofEvent, MemAct.touch?, Option.some.injEq, reduceCtorEq] at hx <;> (subst hx; cases e)
    exact ⟨⟨fun x hx hsh => by obtain ⟨a', h4, _⟩ := h _ hsh; exact absurd h4 (no x hx a'), by simp, by simp⟩, fun x hx ad ead => absurd ead (no x hx ad)⟩
  · rcases hm0 with rfl | ⟨_, rfl⟩ <;> exact ⟨⟨fun x hx => by simp [MemAct.ofEvent, MemAct.touch?] at hx, by simp, by simp⟩, fun x hx => by simp [MemAct.ofEvent, MemAct.touch?] at hx⟩

/-- Below, whatever the tapes. -/
def Bel (B : Nat) (w w' : World) : Prop := Below B { w with tape := w'.tape } w'
theorem Bel.of {B : Nat} {w w' : World} (h : Below B w w') : Bel B w w' := ⟨h.os, rfl, h.output, h.size, h.block⟩
theorem Bel.refl (B : Nat) (w : World) : Bel B w w := Bel.of (Below.refl B w)
theorem Bel.tp {B : Nat} {w w' : World} (h : Bel B w w') (τ : Nat → Question → Nat) (d : Nat) : Bel B w { w' with tape := τ, drawn := d } := ⟨h.os, rfl, h.output, h.size, h.block⟩
theorem Bel.trans {B B' : Nat} {w w' w'' : World} (h : Bel B w w') (h' : Bel B' w' w'') (hB : B ≤ B') : Bel B w w'' := ⟨h'.os.trans h.os, rfl, h'.output.trans h.output, Nat.le_trans h.size h'.size, fun k hk => (h'.block k (Nat.lt_of_lt_of_le hk hB)).trans (h.block k hk)⟩
theorem Bel.size' {B : Nat} {w w' : World} (h : Bel B w w') : w.heap.size ≤ w'.heap.size := h.size
theorem Bel.blk {B : Nat} {w w' : World} (h : Bel B w w') {k : Nat} (hk : k < B) : w'.heap[k]? = w.heap[k]? := h.block k hk
theorem Bel.mono {B B' : Nat} {w w' : World} (h : Bel B w w') (hB : B' ≤ B) : Bel B' w w' := ⟨h.os, rfl, h.output, h.size, fun k hk => h.block k (Nat.lt_of_lt_of_le hk hB)⟩
end Go.Lf

/-
  A piece of code that is run alone, in a frame that is a round of a loop over a function, or has something deferred.
-/
namespace Go.Lf
open Go.Conc

/-- What stands behind a piece, and around it. -/
structure Ext where
  k : List Item
  ro : Option Nat
  ds : List Deferred
def extD (E : Ext) (f : Frame) : Frame := { f with todo := f.todo ++ E.k, roundOf := E.ro, defers := E.ds }
theorem extD_none {f : Frame} (h1 : f.roundOf = none) (h2 : f.defers = []) : extD ⟨[], none, []⟩ f = f := by
  obtain ⟨fn, tmps, todo, defers, mode, kind, round⟩ := f
  dsimp only at h1 h2
  subst h1 h2
  simp [extD]
def Ends (t : List Item) : Prop := t = [] ∨ ∃ k, t = .code .ret :: k

section
variable {P : Program} {F : FuncId → Bool} {X : Nat → Prop} {Y : Nat → Option Obj} {D : Nat → World → Array Event → Prop} {Stop : Goroutine → World → Prop}

theorem evalD (E : Ext) (f : Frame) : (extD E f).eval = f.eval := by
  funext x
  cases x <;> rfl
theorem oper_plain {fr : Frame} {o : Oper} {cs : List Frame} {dy : Option Dying} {w : World} (h : ∀ c, o.op ≠ .defer c) (ho : fr.oper? = some o) : stepG.oper P true fr cs dy w = stepG.apply P true fr cs dy (execOp fr.eval o) w := by
  unfold stepG.oper
  rw [ho]
  dsimp only
  split
  · rename_i hx; exact absurd hx (h _)
  · rfl

/-- The step of one frame: two ways. -/
inductive WayD (P : Program) (F : FuncId → Bool) (f : Frame) (cs : List Frame) (w w' : World) (es : Array Event) (g' : Goroutine) : Prop
  | here {f' : Frame} : g' = G f' cs → TFr P F f' → (f'.mode = .run ∨ f'.mode = .returning) → (∀ E cs2, (Ends f.todo → E = ⟨[], none, []⟩) → stepG P true (G (extD E f) cs2) w = .go (G (extD E f') cs2) w' es) → WayD P F f cs w w' es g'
  | call {e : Frame} : g' = G e (f :: cs) → TFr P F e → e.mode = .run → (f.todo ≠ [] ∧ ∀ u, TFr P F (f.finish u)) → (∀ E cs2, stepG P true (G (extD E f) cs2) w = .go (G e (extD E f :: cs2)) w' es) → WayD P F f cs w w' es g'

def SteppedD (P : Program) (F : FuncId → Bool) (X : Nat → Prop) (Y : Nat → Option Obj) (f : Frame) (cs : List Frame) (w v : World) : Prop :=
  (∃ o v' es, stepG P true (G f cs) v = .ended o v' es) ∨ (∃ ch v' es, stepG P true (G f cs) v = .go (G { f with mode := .panicking ch } cs) v' es) ∨
  ∃ g' v' es w', stepG P true (G f cs) v = .go g' v' es ∧ Tp P (G f cs) v g' v' es ∧ Sim X Y w' v' ∧ w.heap.size ≤ w'.heap.size ∧ EvsP X w' es ∧ WayD P F f cs w w' es g'

theorem ctlD {f f' : Frame} {cs : List Frame} {w v : World} (hs : Sim X Y w v) (h : ∀ E cs2 u, (Ends f.todo → E = ⟨[], none, []⟩) → stepG P true (G (extD E f) cs2) u = .go (G (extD E f') cs2) u #[]) (hT : TFr P F f') (hm : f'.mode = .run ∨ f'.mode = .returning) (h1 : f.roundOf = none := by rfl) (h2 : f.defers = [] := by rfl) : SteppedD P F X Y f cs w v := by
  have key : ∀ u, stepG P true (G f cs) u = .go (G f' cs) u #[] := fun u => by
    have := h ⟨[], none, []⟩ cs u (fun _ => rfl)
    rwa [extD_none h1 h2, extD_none hT.round hT.defers] at this
  exact .inr (.inr ⟨G f' cs, v, #[], w, key v, ⟨rfl, Nat.le_refl _, fun τ _ => key _⟩, hs, Nat.le_refl _, fun e he => by simp at he, .here rfl hT hm fun K cs2 hk => h K cs2 w hk⟩)

set_option maxHeartbeats 1000000 in
theorem tstepD (hF : GoodF P F) {f : Frame} {cs : List Frame} {w v : World} (hT : TFr P F f) (hm : f.mode = .run) (hs : Sim X Y w v) : SteppedD P F X Y f cs w v := by
  obtain ⟨fn, tmps, todo, defers, mode, kind, round⟩ := f
  obtain ⟨⟨fun0, hfn⟩, hk, hd, hr, S, ht, hS⟩ := hT
  dsimp only at hfn hk hd hr ht hS hm
  subst hk hd hr hm
  have mk : ∀ {todo' : List Item} {mode' : FrameMode}, (∀ it ∈ todo', TItem P F S it) → TFr P F ⟨fn, tmps, todo', [], mode', .normal, none⟩ := fun h => ⟨⟨fun0, hfn⟩, rfl, rfl, rfl, S, h, hS⟩
  cases todo with
  | nil => exact ctlD (f' := ⟨fn, tmps, [], [], .returning, .normal, none⟩) hs (fun K cs2 u hK => by rw [hK (.inl rfl)]; rfl) (mk (by simp)) (.inr rfl)
  | cons it k =>
    have hit := ht it (by simp)
    have hk : ∀ x ∈ k, TItem P F S x := fun x hx => ht x (by simp [hx])
    have two : ∀ {a : Item}, TItem P F S a → ∀ x ∈ a :: k, TItem P F S x := fun ha x hx => by
      rcases List.mem_cons.1 hx with rfl | hx
      · exact ha
      · exact hk x hx
    cases it with
    | code c =>
      cases c with
      | skip => exact ctlD (f' := ⟨fn, tmps, k, [], .run, .normal, none⟩) hs (fun K cs2 u _ => rfl) (mk hk) (.inl rfl)
      | ret => exact ctlD (f' := ⟨fn, tmps, .code .ret :: k, [], .returning, .normal, none⟩) hs (fun K cs2 u hK => by rw [hK (.inr ⟨_, rfl⟩)]; simp only [G, extD, stepG, stepG.exec, List.append_nil]; rfl) (mk ht) (.inr rfl)
      | seq a b =>
        have hab : okCodeS P F S a = true ∧ okCodeS P F S b = true := by simpa [TItem, okCodeS] using hit
        exact ctlD (f' := ⟨fn, tmps, .code a :: .code b :: k, [], .run, .normal, none⟩) hs (fun K cs2 u _ => rfl) (mk fun x hx => by
          rcases List.mem_cons.1 hx with rfl | hx
          · exact hab.1
          · exact two (a := .code b) hab.2 x hx) (.inl rfl)
      | cond c a b =>
        have hab : okCodeS P F S a = true ∧ okCodeS P F S b = true := by simpa [TItem, okCodeS] using hit
        cases he : (⟨fn, tmps, .code (.cond c a b) :: k, [], .run, .normal, none⟩ : Frame).eval c with
        | bool t =>
          refine ctlD (f' := ⟨fn, tmps, .code (if t then a else b) :: k, [], .run, .normal, none⟩) hs (fun K cs2 u _ => ?_) (mk (two (a := .code (if t then a else b)) (by cases t <;> simp [TItem, hab]))) (.inl rfl)
          have he' : (extD K ⟨fn, tmps, .code (.cond c a b) :: k, [], .run, .normal, none⟩).eval c = .bool t := by rw [evalD]; exact he
          simp only [extD, List.cons_append] at he'
          simp only [G, extD, stepG, stepG.exec, List.cons_append, he']
        | _ => exact .inl ⟨_, _, _, by simp only [G, stepG, stepG.exec, he]; rfl⟩
      | block id c => exact ctlD (f' := ⟨fn, tmps, .code c :: .inBlock id :: k, [], .run, .normal, none⟩) hs (fun K cs2 u _ => rfl) (mk fun x hx => by
          rcases List.mem_cons.1 hx with rfl | hx
          · exact hit
          · exact two (a := .inBlock id) trivial x hx) (.inl rfl)
      | loop c => exact ctlD (f' := ⟨fn, tmps, .code c :: .inLoop c :: k, [], .run, .normal, none⟩) hs (fun K cs2 u _ => rfl) (mk fun x hx => by
          rcases List.mem_cons.1 hx with rfl | hx
          · exact hit
          · exact two (a := .inLoop c) hit x hx) (.inl rfl)
      | exit id =>
        cases he : exitTo id k with
        | none => exact .inl ⟨_, _, _, by simp only [G, stepG, stepG.exec, he, Option.elim]; rfl⟩
        | some k' => exact ctlD (f' := ⟨fn, tmps, k', [], .run, .normal, none⟩) hs (fun K cs2 u _ => by simp only [G, extD, stepG, stepG.exec, List.cons_append, exitTo_app he, Option.elim]) (mk fun x hx => hk x (exitTo_mem he x hx)) (.inl rfl)
      | region id ops draw =>
        have ho : ops.all (okOpS P F S) = true := hit
        cases draw with
        | false => exact ctlD (f' := ⟨fn, tmps, .inRegion ops (List.range ops.size) :: k, [], .run, .normal, none⟩) hs (fun K cs2 u _ => rfl) (mk (two (a := .inRegion ops _) ho)) (.inl rfl)
        | true =>
          have hc : ∀ u : World, (choose (.order fn id)).run P u = .ok (u.tape u.drawn (.order fn id)) { u with drawn := u.drawn + 1 } := fun u => rfl
          have et : w.tape w.drawn (.order fn id) = v.tape v.drawn (.order fn id) := by simpa using hs.str 0 (.order fn id)
          refine .inr (.inr ⟨_, { v with drawn := v.drawn + 1 }, #[], { w with drawn := w.drawn + 1 }, by simp only [G, stepG, stepG.exec, Bool.not_true, Bool.false_eq_true, if_false, hc], ⟨rfl, Nat.le_succ _, fun τ hτ => by simp only [G, stepG, stepG.exec, Bool.not_true, Bool.false_eq_true, if_false, hc, hτ v.drawn (Nat.le_refl _) (Nat.lt_succ_self _)]⟩, hs.draw, Nat.le_refl _, fun e he => by simp at he,
            .here (f' := ⟨fn, tmps, .inRegion ops (Region.schedule (P.follows .mixedOrders) ops (v.tape v.drawn (.order fn id))) :: k, [], .run, .normal, none⟩) rfl (mk (two (a := .inRegion ops _) ho)) (.inl rfl) fun K cs2 _ => ?_⟩)
          simp only [G, extD, stepG, stepG.exec, List.cons_append, Bool.not_true, Bool.false_eq_true, if_false, hc, et]
      | _ => cases hit
    | inBlock id => exact ctlD (f' := ⟨fn, tmps, k, [], .run, .normal, none⟩) hs (fun K cs2 u _ => rfl) (mk hk) (.inl rfl)
    | inLoop c => exact ctlD (f' := ⟨fn, tmps, .code c :: .inLoop c :: k, [], .run, .normal, none⟩) hs (fun K cs2 u _ => rfl) (mk fun x hx => by
          rcases List.mem_cons.1 hx with rfl | hx
          · exact hit
          · exact two (a := .inLoop c) hit x hx) (.inl rfl)
    | inRegion ops is =>
      cases is with
      | nil => exact ctlD (f' := ⟨fn, tmps, k, [], .run, .normal, none⟩) hs (fun K cs2 u _ => rfl) (mk hk) (.inl rfl)
      | cons i rest =>
        have ho : ops.all (okOpS P F S) = true := hit
        cases hw : ((ops[i]?).map (Region.wanted · (yielded ops tmps))).getD false with
        | false =>
          refine ctlD (f' := (⟨fn, tmps, .inRegion ops (i :: rest) :: k, [], .run, .normal, none⟩ : Frame).finish undef) hs (fun K cs2 u _ => ?_) ⟨⟨fun0, hfn⟩, rfl, rfl, rfl, S, two (a := .inRegion ops _) ho, hS.un _⟩ (.inl rfl)
          simp only [G, extD, stepG, stepG.exec, List.cons_append, hw, Bool.false_eq_true, if_false, Frame.finish]
        | true =>
          cases hoi : ops[i]? with
          | none => rw [hoi] at hw; cases hw
          | some o =>
            have hok : okOpS P F S o = true := Array.all_eq_true_iff_forall_mem.1 ho o (Array.mem_of_getElem? hoi)
            have eA : ∀ K cs2 u, stepG P true (G (extD K ⟨fn, tmps, .inRegion ops (i :: rest) :: k, [], .run, .normal, none⟩) cs2) u =
                stepG.apply P true (extD K ⟨fn, tmps, .inRegion ops (i :: rest) :: k, [], .run, .normal, none⟩) cs2 none (execOp (⟨fn, tmps, .inRegion ops (i :: rest) :: k, [], .run, .normal, none⟩ : Frame).eval o) u := fun K cs2 u => by
              rw [← evalD K]
              rw [hoi] at hw
              simp only [G, extD, stepG, stepG.exec, List.cons_append, hoi]
              rw [if_pos hw]
              exact oper_plain (fun c h => by unfold okOpS at hok; rw [h, Bool.and_eq_true] at hok; cases hok.2) (by simp only [Frame.oper?, hoi])
            obtain ⟨hpl, hlf⟩ := exec_ok hF (ρ := (⟨fn, tmps, .inRegion ops (i :: rest) :: k, [], .run, .normal, none⟩ : Frame).eval) (fun _ => rfl) (fun _ => rfl) hS hok
            have hsr : ∀ {x : FuncId × Nat} {v v' : World} {es es' : Array Event} {n : Next}, okSrc S x o.op = true → (execOp (⟨fn, tmps, .inRegion ops (i :: rest) :: k, [], .run, .normal, none⟩ : Frame).eval o).runT P v es = (.ok n v', es') → ∃ u, n = .value u ∧ (u = undef ∨ ∃ fs cs, u = .func (.func x.1) fs cs ∧ fs.size + cs.size = x.2) := fun h hr => src_run (fun _ => rfl) hS h hr
            have fin : ∀ u, (⟨fn, tmps, .inRegion ops (i :: rest) :: k, [], .run, .normal, none⟩ : Frame).finish u = ⟨fn, putD o.dst tmps u, .inRegion ops rest :: k, [], .run, .normal, none⟩ := fun u => by
              simp only [Frame.finish, hoi, Option.bind_some]
              rfl
            generalize execOp (⟨fn, tmps, .inRegion ops (i :: rest) :: k, [], .run, .normal, none⟩ : Frame).eval o = sem at eA hpl hlf hsr
            have eA0 := eA ⟨[], none, []⟩ cs v
            rw [extD_none rfl rfl] at eA0
            cases hrun : sem.runT P v #[] with
            | mk r es =>
              cases r with
              | halt h v' =>
                have hh := hpl.halts w v #[] h v' es hs hrun
                cases h with
                | panic u =>
                  exact .inr (.inl ⟨_, _, _, by rw [eA0]; simp only [stepG.apply, if_true, hrun]; rfl⟩)
                | stuck s => exact .inl ⟨_, _, _, by rw [eA0]; simp only [stepG.apply, if_true, hrun]; rfl⟩
                | unsupported u =>
                  cases u with
                  | initOrder b => exact hh.elim
                  | _ => exact .inl ⟨_, _, _, by rw [eA0]; simp only [stepG.apply, if_true, hrun]; rfl⟩
                | _ => exact hh.elim
              | ok x v' =>
                obtain ⟨w', hrun', hs', hsz, hev⟩ := hpl.sim w v #[] x v' es hs hrun
                obtain ⟨ht1, ht2, ht3⟩ := hpl.tape v #[] x v' es hs.nv hrun
                have eAτ : ∀ τ : Nat → Question → Nat, stepG P true (G ⟨fn, tmps, .inRegion ops (i :: rest) :: k, [], .run, .normal, none⟩ cs) { v with tape := τ } = stepG.apply P true ⟨fn, tmps, .inRegion ops (i :: rest) :: k, [], .run, .normal, none⟩ cs none sem { v with tape := τ } := fun τ => by
                  have := eA ⟨[], none, []⟩ cs { v with tape := τ }
                  rwa [extD_none rfl rfl] at this
                have hsz' : w.heap.size ≤ w'.heap.size := by rw [hs.size, hs'.size]; exact hsz
                have hevs : EvsP X w' (seen P fn es) := fun e he => (hev e (mem_seen he)).resolve_left (by simp)
                rcases leaf_run sem hlf v #[] x v' es hrun with ⟨u, rfl⟩ | rfl | ⟨f1, as, hf1, has, rfl⟩
                · refine .inr (.inr ⟨_, _, seen P fn es, w', by rw [eA0]; simp only [stepG.apply, if_true, hrun, GStep.after]; rfl, ⟨ht1, ht2, fun τ hτ => by rw [eAτ]; simp only [stepG.apply, if_true, ht3 τ hτ, GStep.after]; rfl⟩, hs', hsz', hevs,
                    .here (f' := (⟨fn, tmps, .inRegion ops (i :: rest) :: k, [], .run, .normal, none⟩ : Frame).finish u) rfl (by rw [fin]; exact ⟨⟨fun0, hfn⟩, rfl, rfl, rfl, S, two (a := .inRegion ops _) ho, hS.put fun x hx hd => by obtain ⟨u', e, h⟩ := hsr (ok_src hok hx hd) hrun; cases e; exact h⟩) (.inl rfl) fun K cs2 _ => ?_⟩)
                  rw [eA]
                  simp only [stepG.apply, if_true, hrun', GStep.after]
                  rfl
                · refine .inr (.inr ⟨_, _, seen P fn es, w', by rw [eA0]; simp only [stepG.apply, if_true, hrun, GStep.after]; rfl, ⟨ht1, ht2, fun τ hτ => by rw [eAτ]; simp only [stepG.apply, if_true, ht3 τ hτ, GStep.after]; rfl⟩, hs', hsz', hevs,
                    .here (f' := (⟨fn, tmps, .inRegion ops (i :: rest) :: k, [], .run, .normal, none⟩ : Frame).finish undef) rfl (by rw [fin]; exact ⟨⟨fun0, hfn⟩, rfl, rfl, rfl, S, two (a := .inRegion ops _) ho, hS.un _⟩) (.inl rfl) fun K cs2 _ => ?_⟩)
                  rw [eA]
                  simp only [stepG.apply, if_true, hrun', GStep.after]
                  rfl
                · obtain ⟨fn1, c1, S1, g1, g2, g3, g4, g5⟩ := hf1
                  refine .inr (.inr ⟨_, _, seen P fn es, w', by rw [eA0]; simp only [stepG.apply, if_true, hrun, GStep.after]; rfl, ⟨ht1, ht2, fun τ hτ => by rw [eAτ]; simp only [stepG.apply, if_true, ht3 τ hτ, GStep.after]; rfl⟩, hs', hsz', hevs,
                    .call (e := Frame.enter P f1 as .normal) rfl ⟨⟨fn1, g1⟩, rfl, rfl, rfl, S1, fun x hx => ?_, InvS.enter has g5⟩ rfl ⟨by simp, fun u => by rw [fin]; exact ⟨⟨fun0, hfn⟩, rfl, rfl, rfl, S, two (a := .inRegion ops _) ho, hS.put fun x hx hd => by obtain ⟨u', e, h⟩ := hsr (ok_src hok hx hd) hrun; cases e⟩⟩ fun K cs2 => ?_⟩)
                  · simp only [Frame.enter, g1, Option.bind_some, g3, Option.getD_some, List.mem_singleton] at hx
                    subst hx
                    exact g4
                  · rw [eA]
                    simp only [stepG.apply, if_true, hrun', GStep.after]
                    rfl
    | _ => cases hit

def extSD (E : Ext) (cs : List Frame) : List Frame → List Frame
  | [] => cs
  | [b] => extD E b :: cs
  | c :: d :: r => c :: extSD E cs (d :: r)
def extGD (E : Ext) (cs : List Frame) (f : Frame) (r : List Frame) : Goroutine :=
  match r with
  | [] => G (extD E f) cs
  | c :: r => G f (extSD E cs (c :: r))
theorem finishD {c : Frame} (hT : TFr P F c) (hne : c.todo ≠ []) (E : Ext) (v : Value) : (extD E c).finish v = extD E (c.finish v) := by
  obtain ⟨fn, tmps, todo, defers, mode, kind, round⟩ := c
  obtain ⟨h1, hk, hd, hr, S, ht, _⟩ := hT
  dsimp only at h1 hk hd hr ht hne
  subst hk hd hr
  cases todo with
  | nil => exact absurd rfl hne
  | cons it k =>
    have hit := ht it (by simp)
    cases it with
    | inRegion ops is =>
      cases is with
      | nil => rfl
      | cons i rest => rfl
    | code c => rfl
    | inBlock id => rfl
    | inLoop c => rfl
    | _ => cases hit
theorem ends_ret {f : Frame} (hT : TFr P F f) (hm : f.mode = .run) (ht : Ends f.todo) (cs : List Frame) (u : World) : stepG P true (G f cs) u = .go (G { f with mode := .returning } cs) u #[] := by
  obtain ⟨fn, tmps, todo, defers, mode, kind, round⟩ := f
  have hk := hT.kind
  have hd := hT.defers
  have hr := hT.round
  dsimp only at hk hd hr ht hm
  subst hk hd hr hm
  rcases ht with rfl | ⟨k, rfl⟩ <;> rfl

variable (P F X Y D Stop) in
structure SgD (E : Ext) (cs : List Frame) (fn : FuncId) (Q : Exit → Act → World → Prop) (s : Sg) : Prop where
  tf : TFr P F s.f
  mode : s.f.mode = .run ∨ s.f.mode = .returning
  stack : Stack P F s.r
  sim : SimT X Y s.w s.u
  law : ∀ τ : Nat → Question → Nat, (∀ p, p < s.u.drawn → τ p = s.u.tape p) → ∃ n a' v', ownN P n s.f (s.r ++ [f0]) { s.u with tape := τ } ((base fn).at a' []) [f0] v' ∧ Q .normal a' v'
  no : ¬ GoesI P D Stop (extGD E cs s.f s.r) s.w

theorem sgD_end {K : Ext} {cs : List Frame} {fn : FuncId} {Q : Exit → Act → World → Prop} (hK : ∀ a' v' w', Q .normal a' v' → SimT X Y w' v' → GoesI P D Stop (G (extD K ((base fn).at a' [])) cs) w') {s : Sg} (hi : SgD P F X Y D Stop K cs fn Q s) {τ : Nat → Question → Nat} {a' : Act} {v' : World}
    (h : ownN P 0 s.f (s.r ++ [f0]) { s.u with tape := τ } ((base fn).at a' []) [f0] v') (hq : Q .normal a' v') : False := by
  obtain ⟨h1, h2, h3⟩ := own_zero h
  have hr : s.r = [] := by
    have := congrArg List.length h2
    simp at this
    exact this
  apply hi.no
  have : extGD K cs s.f s.r = G (extD K ((base fn).at a' [])) cs := by rw [hr, h1]; rfl
  rw [this]
  refine hK a' v' s.w hq ?_
  rw [← h3]
  exact hi.sim.to τ s.u.drawn

theorem sgD_next (hF : GoodF P F) (hD : Dok X D) {K : Ext} {cs : List Frame} {fn : FuncId} {Q : Exit → Act → World → Prop} (hK : ∀ a' v' w', Q .normal a' v' → SimT X Y w' v' → GoesI P D Stop (G (extD K ((base fn).at a' [])) cs) w') {s : Sg}
    (hi : SgD P F X Y D Stop K cs fn Q s) : ∃ s', SgD P F X Y D Stop K cs fn Q s' ∧ SgNext P s s' := by
  have hst : (extGD K cs s.f s.r).status = .running := by cases s.r <;> rfl
  obtain ⟨d, hd⟩ : ∃ d, ∀ g' w' es, stepG P true (extGD K cs s.f s.r) (s.w.at d) = .go g' w' es → D s.w.heap.size w' es → ¬ GoesI P D Stop g' w' := by
    refine Classical.byContradiction fun hno => hi.no (.next hst fun d => ?_)
    refine Classical.byContradiction fun hd => hno ⟨d, fun g' w' es h1 h2 h3 => hd ⟨g', w', es, h1, h2, h3⟩⟩
  let τ₁ : Nat → Question → Nat := fun p q => if p < s.u.drawn then s.u.tape p q else s.w.tape (d + (p - s.u.drawn)) q
  have hs : Sim X Y (s.w.at d) { s.u with tape := τ₁ } := hi.sim.re d s.u.drawn τ₁ fun i q => by
    show s.w.tape (d + i) q = if s.u.drawn + i < s.u.drawn then _ else _
    rw [if_neg (by omega), show s.u.drawn + i - s.u.drawn = i by omega]
  have hag : ∀ p, p < s.u.drawn → τ₁ p = s.u.tape p := fun p hp => by
    funext q
    show (if p < s.u.drawn then _ else _) = _
    rw [if_pos hp]
  obtain ⟨n, a', v', hn, hq⟩ := hi.law τ₁ hag
  cases n with
  | zero => exact (sgD_end hK hi hn hq).elim
  | succ n =>
    -- what is to be shown once a step is found
    have mk : ∀ (f' : Frame) (r' : List Frame) (u₂ w₂ : World) (es : Array Event), TFr P F f' → (f'.mode = .run ∨ f'.mode = .returning) → Stack P F r' → Sim X Y w₂ u₂ → Tp P (G s.f (s.r ++ [f0])) { s.u with tape := τ₁ } (G f' (r' ++ [f0])) u₂ es →
        stepG P true (extGD K cs s.f s.r) (s.w.at d) = .go (extGD K cs f' r') w₂ es → s.w.heap.size ≤ w₂.heap.size → EvsP X w₂ es → ∃ s', SgD P F X Y D Stop K cs fn Q s' ∧ SgNext P s s' := fun f' r' u₂ w₂ es h1 h2 h3 h4 h5 h6 h8 h7 => by
      obtain ⟨t1, t2, t3⟩ := h5
      dsimp only at t1 t2 t3
      refine ⟨⟨f', r', u₂, w₂⟩, ⟨h1, h2, h3, h4.t, fun τ hτ => ?_, hd _ _ _ h6 (hD _ _ _ h8 h7)⟩, t2, fun p hp => by rw [t1]; exact hag p hp, fun τ hτ => ⟨es, t3 τ fun p hp1 hp2 => by rw [hτ p hp1 hp2, t1]⟩⟩
      dsimp only at hτ
      obtain ⟨n, a', v', hn, hq⟩ := hi.law τ fun p hp => by rw [hτ p (by omega), t1]; exact hag p hp
      cases n with
      | zero => exact (sgD_end hK hi hn hq).elim
      | succ n => exact ⟨n, a', v', own_go (t3 τ fun p _ hp2 => by rw [hτ p hp2, t1]) hn, hq⟩
    rcases hi.mode with hm | hm
    · by_cases hend : s.r = [] ∧ Ends s.f.todo
      · obtain ⟨hr, ht⟩ := hend
        rw [hr] at hn
        have e := ends_ret hi.tf hm ht ([] ++ [f0]) { s.u with tape := τ₁ }
        have h2 := own_go e hn
        cases n with
        | zero =>
          obtain ⟨h3, _⟩ := own_zero h2
          have := congrArg Frame.mode h3
          cases this
        | succ n =>
          rcases tback (c := f0) (r := []) (f := { s.f with mode := .returning }) (F := F) ⟨hi.tf.fn, hi.tf.kind, hi.tf.defers, hi.tf.round, hi.tf.todo⟩ rfl hs with ⟨o, v'', es', he⟩ | ⟨y, v'', es', w', he, _⟩
          · exact (own_end he h2).elim
          · exact absurd (own_go he h2) (f0_end n _ _ v')
      · rcases tstepD (cs := s.r ++ [f0]) hF hi.tf hm hs with ⟨o, v'', es', he⟩ | ⟨ch, v'', es', he⟩ | ⟨g', v'', es', w', he, htp, hs', hsz, hev, hway⟩
        · exact (own_end he hn).elim
        · exact absurd (own_go he hn) (dead_end (F := F) n _ s.r ch _ _ [f0] v' (stack_mem hi.stack) rfl ⟨hi.tf.fn, hi.tf.defers⟩ rfl)
        · cases hway with
          | @here f' hg hT' hm' hB =>
            subst hg
            refine mk f' s.r v'' w' es' hT' hm' hi.stack hs' htp ?_ hsz hev
            cases hr : s.r with
            | nil => exact hB K cs fun ht => absurd ⟨hr, ht⟩ hend
            | cons c r =>
              have := hB ⟨[], none, []⟩ (extSD K cs (c :: r)) (fun _ => rfl)
              rw [extD_none hi.tf.round hi.tf.defers, extD_none hT'.round hT'.defers] at this
              exact this
          | @call e hg hTe hme hne hB =>
            subst hg
            refine mk e (s.f :: s.r) v'' w' es' hTe (.inl hme) ⟨⟨hi.tf, hm, hne.1, finish_ok hi.tf hm hne⟩, hi.stack⟩ hs' htp ?_ hsz hev
            cases hr : s.r with
            | nil => exact hB K cs
            | cons c r =>
              have := hB ⟨[], none, []⟩ (extSD K cs (c :: r))
              rw [extD_none hi.tf.round hi.tf.defers] at this
              exact this
    · cases hr : s.r with
      | nil =>
        rw [hr] at hn
        rcases tback (c := f0) (r := []) (F := F) hi.tf hm hs with ⟨o, v'', es', he⟩ | ⟨y, v'', es', w', he, _⟩
        · exact (own_end he hn).elim
        · exact absurd (own_go he hn) (f0_end n _ _ v')
      | cons c r =>
        have hS := hi.stack
        rw [hr] at hn hS mk
        rcases tback (c := c) (r := r ++ [f0]) (F := F) hi.tf hm hs with ⟨o, v'', es', he⟩ | ⟨y, v'', es', w', he, htp, hs', hsz, hev, hB⟩
        · exact (own_end he hn).elim
        · obtain ⟨hTc, hmc, hfin⟩ := hS.1.2.2.2 y
          refine mk (c.finish y) r v'' w' es' hTc (.inl hmc) hS.2 hs' htp ?_ hsz hev
          cases r with
          | nil =>
            have := hB (extD K c) cs
            rw [finishD hS.1.1 hS.1.2.2.1 K] at this
            exact this
          | cons d r => exact hB c (extSD K cs (d :: r))

/-- ████ A piece of code, by its lone law on every tape. -/
theorem segD (hF : GoodF P F) (hD : Dok X D) {c : Code} (hc : okCode P F c = true) {Q : Exit → Act → World → Prop} {a : Act} {v : World} (h : ∀ τ d, c.wp P Q a { v with tape := τ, drawn := d }) (hQ : ∀ e a' v', Q e a' v' → e = .normal ∧ a'.defers = []) (ha : a.defers = [])
    {fn : FuncId} (hf : ∃ fun0, P.funcs[fn]? = some fun0) {w : World} (hs : SimT X Y w v) {K : Ext} {cs : List Frame} (hK : ∀ a' v' w', Q .normal a' v' → SimT X Y w' v' → GoesI P D Stop (G (extD K ((base fn).at a' [])) cs) w') : GoesI P D Stop (G (extD K ((base fn).at a [.code c])) cs) w := by
  refine Classical.byContradiction fun hno => ?_
  have start : SgD P F X Y D Stop K cs fn Q ⟨(base fn).at a [.code c], [], { v with drawn := 0 }, w⟩ := by
    refine ⟨⟨hf, rfl, ha, rfl, [], fun x hx => by simp [Frame.at] at hx; subst hx; exact hc, InvS.nil⟩, .inl rfl, trivial, hs.to v.tape 0, fun τ _ => ?_, hno⟩
    obtain ⟨e, a', v', hq, harr⟩ := h τ 0 (base fn) [] [f0]
    obtain ⟨rfl, _⟩ := hQ _ _ _ hq
    obtain ⟨n, hn⟩ : Steps P (lone ((base fn).at a [.code c]) [f0] { v with tape := τ, drawn := 0 }) (lone ((base fn).at a' []) [f0] v') := harr
    exact ⟨n, a', v', hn, hq⟩
  let nx : {s // SgD P F X Y D Stop K cs fn Q s} → {s // SgD P F X Y D Stop K cs fn Q s} := fun s => ⟨(sgD_next hF hD hK s.2).choose, (sgD_next hF hD hK s.2).choose_spec.1⟩
  have nxs : ∀ s, SgNext P s.1 (nx s).1 := fun s => (sgD_next hF hD hK s.2).choose_spec.2
  let q : Nat → {s // SgD P F X Y D Stop K cs fn Q s} := fun n => Nat.rec ⟨_, start⟩ (fun _ s => nx s) n
  have qs : ∀ n, SgNext P (q n).1 (q (n + 1)).1 := fun n => nxs (q n)
  have mono : ∀ n m, n ≤ m → (q n).1.u.drawn ≤ (q m).1.u.drawn ∧ ∀ p, p < (q n).1.u.drawn → (q m).1.u.tape p = (q n).1.u.tape p := by
    intro n m hnm
    induction m with
    | zero =>
      obtain rfl : n = 0 := by omega
      exact ⟨Nat.le_refl _, fun _ _ => rfl⟩
    | succ m ih =>
      rcases Nat.lt_or_ge n (m + 1) with hlt | hge
      · obtain ⟨h1, h2⟩ := ih (by omega)
        have h3 := qs m
        exact ⟨Nat.le_trans h1 h3.1, fun p hp => (h3.2.1 p (by omega)).trans (h2 p hp)⟩
      · obtain rfl : n = m + 1 := by omega
        exact ⟨Nat.le_refl _, fun _ _ => rfl⟩
  have dec : ∀ p, Decidable (∃ n, p < (q n).1.u.drawn) := fun p => Classical.propDecidable _
  let τ : Nat → Question → Nat := fun p => if h : ∃ n, p < (q n).1.u.drawn then (q h.choose).1.u.tape p else fun _ => 0
  have agree : ∀ n p, p < (q n).1.u.drawn → τ p = (q n).1.u.tape p := fun n p hp => by
    have hex : ∃ n, p < (q n).1.u.drawn := ⟨n, hp⟩
    show (if h : ∃ n, p < (q n).1.u.drawn then (q h.choose).1.u.tape p else fun _ => 0) = _
    rw [dif_pos hex]
    have hc := hex.choose_spec
    rcases Nat.le_total n hex.choose with hle | hle
    · exact (mono n _ hle).2 p hp
    · exact ((mono _ n hle).2 p hc).symm
  have never : ∀ (m i : Nat) (a' : Act) (v' : World), ownN P m (q i).1.f ((q i).1.r ++ [f0]) { (q i).1.u with tape := τ } ((base fn).at a' []) [f0] v' → Q .normal a' v' → False := by
    intro m
    induction m with
    | zero => exact fun i a' v' h hq => sgD_end hK (q i).2 h hq
    | succ m ih =>
      intro i a' v' h hq
      obtain ⟨es, he⟩ := (qs i).2.2 τ fun p _ hp => agree (i + 1) p hp
      exact ih (i + 1) a' v' (own_go he h) hq
  obtain ⟨n, a', v', hn, hq⟩ := (q 0).2.law τ fun p hp => agree 0 p hp
  exact never n 0 a' v' hn hq

/-- A frame. -/
def Dn (ro : Option Nat) (ds : List Deferred) (f : FuncId) (T : Array Value) (k : List Item) : Frame := { fn := f, tmps := T, todo := k, defers := ds, mode := .run, kind := .normal, roundOf := ro }
theorem Dn_base (f : FuncId) (T : Array Value) (k : List Item) : Dn none [] f T k = (base f).at ⟨T, []⟩ k := rfl
/-- Behind the join, in such a frame. -/
def ReaR (P : Program) (X : Nat → Prop) (Y : Nat → Option Obj) (D : Nat → World → Array Event → Prop) (Stop : Goroutine → World → Prop) (ro : Option Nat) (ds : List Deferred) (f : FuncId) (cs : List Frame) (k : List Item) (T : Array Value) (v : World) : Prop :=
  ∀ w, SimT X Y w v → GoesI P D Stop (G (Dn ro ds f T k) cs) w
theorem reaR_code (hF : GoodF P F) (hD : Dok X D) {ro : Option Nat} {ds : List Deferred} {f : FuncId} {cs : List Frame} {k : List Item} {c : Code} (hc : okCode P F c = true) {T : Array Value} {v : World} (hf : ∃ fn, P.funcs[f]? = some fn)
    (h : ∀ τ d, c.wp P (fun e a' v' => e = .normal ∧ a'.defers = [] ∧ ReaR P X Y D Stop ro ds f cs k a'.tmps v') ⟨T, []⟩ { v with tape := τ, drawn := d }) : ReaR P X Y D Stop ro ds f cs (.code c :: k) T v :=
  fun _ hs => segD (K := ⟨k, ro, ds⟩) (fn := f) (a := ⟨T, []⟩) hF hD hc h (fun _ _ _ x => ⟨x.1, x.2.1⟩) rfl hf hs fun _ _ w' hq hs' => hq.2.2 w' hs'
end
end Go.Lf
