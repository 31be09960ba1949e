/-
  In company: a worker: a column that is missing is reckoned and laid into its place.
-/
import Derived.Test.YtlghjjennhpjeaaGreatDoorCoV
import Derived.Laws.CopyRow
import Derived.KernelRfl
namespace Go.Proofs.YtlghjjennhpjeaaGreatDoor
open Go.Conc Go.ConcN Go.RowKit Go.Gh Go.Conc.Lib Go.ConcR.Gen Go.ConcN.Gen
open Go.ConcR (Payload)

section
variable [Payload] [OldG] {main : Bool} {Wg C n B : Nat} {Cl : Nat → Prop}
/-- What a worker has been handed: the variables answer, j, weights, data; the weights' list, its row. -/
structure Cap where
  ba : Nat
  bj : Nat
  bv : Nat
  bW : Nat
  oW : Nat
  cW : Nat
  br : Nat
  oR : Nat
  cR : Nat
  bd : Nat
  bD : Nat
  oD : Nat
  cD : Nat

structure WIn (Wg C n B : Nat) (c : Cap) (k L idx : Nat) (ws : List Nat) (cs : List Col) (w : World) : Prop where
  bs : Bs C B w
  pay : PayAt C n w
  ra : Rdb Wg C B w c.ba
  va : w.cell? ⟨c.ba, 0, none⟩ = some (.slice (some ⟨C, 0, none⟩) k k)
  rj : Rdb Wg C B w c.bj
  vj : w.cell? ⟨c.bj, 0, none⟩ = some (.int .i64 ((idx : Nat) : Int))
  rv : Rdb Wg C B w c.bv
  vv : w.cell? ⟨c.bv, 0, none⟩ = some (.slice (some ⟨c.bW, c.oW, none⟩) k c.cW)
  rW : Rdb Wg C B w c.bW
  vW : w.cell? ⟨c.bW, c.oW + idx, none⟩ = some (.slice (some ⟨c.br, c.oR, none⟩) k c.cR)
  rd : Rdb Wg C B w c.bd
  vd : w.cell? ⟨c.bd, 0, none⟩ = some (.slice (some ⟨c.bD, c.oD, none⟩) k c.cD)
  cin : CIn Wg C B c.br c.oR c.bD c.oD L ws cs w
theorem WIn.ex {w w₁ : World} {c : Cap} {k L idx : Nat} {ws : List Nat} {cs : List Col} (h : WIn Wg C n B c k L idx ws cs w) (hb : Bs C B w₁) (r : Ex Wg C n B Cl (fun _ => False) w w₁) : WIn Wg C n B c k L idx ws cs w₁ := by
  have st : ∀ {b : Nat}, Rdb Wg C B w b → ∀ o, w₁.cell? ⟨b, o, none⟩ = w.cell? ⟨b, o, none⟩ := fun hb o => by simp only [World.cell?, r.stands hb id]
  exact ⟨hb, r.pay h.pay, r.rdb h.ra, (st h.ra _).trans h.va, r.rdb h.rj, (st h.rj _).trans h.vj, r.rdb h.rv, (st h.rv _).trans h.vv, r.rdb h.rW, (st h.rW _).trans h.vW, r.rdb h.rd, (st h.rd _).trans h.vd, h.cin.ex r⟩
theorem WIn.rely {w w₁ : World} {c : Cap} {k L idx : Nat} {ws : List Nat} {cs : List Col} (h : WIn Wg C n B c k L idx ws cs w) (r : Ro Wg C n B Cl w w₁) : WIn Wg C n B c k L idx ws cs w₁ := h.ex (h.bs.rely r) r.ex

def w0 : Frame := baseD 79
noncomputable def wbot : Frame := { (default : Frame) with fn := Tryz.prog.funcs.size, defers := [], mode := .panicking [goexitEntry] }
noncomputable def wbody : Code := Tryz.f79.body.getD .skip
def caught (Wg : Nat) (c : Cap) : Array Value := #[.pointer (some ⟨Wg, 0, none⟩), .pointer (some ⟨c.bv, 0, none⟩), .pointer (some ⟨c.bj, 0, none⟩), .pointer (some ⟨c.bd, 0, none⟩), .pointer (some ⟨c.ba, 0, none⟩)]
def wcall (Wg : Nat) (c : Cap) : Deferred := { target := .fn (.func 79) (caught Wg c), args := #[] }

omit [Payload] [OldG] in
theorem w_born (c : Cap) (w : World) : stepG Tryz.prog false (born Tryz.prog (wcall Wg c)) w = .go (G (w0.at ⟨caught Wg c ++ Array.replicate 9 undef, []⟩ [.code wbody]) [wbot]) w #[] := by
  simp [born, wcall, caught, stepG, unwind, callDeferred, invoke, callFunc, Tryz.func79, Tryz.f79, seen, GStep.after, G, Frame.enter, Frame.at, w0, baseD, wbot, wbody]

omit [Payload] [OldG] in
theorem w_quits (T : Array Value) : QuitsD Tryz.prog 2 0 (G { w0.at ⟨T, []⟩ [] with mode := .returning } [wbot]) := by
  refine QuitsD.ctl (g' := G wbot []) rfl (fun w => ?_) ?_
  · simp [G, stepG, unwind, doReturn, results, Frame.at, w0, baseD, wbot, Tryz.func79, Tryz.f79, seen, GStep.after, goexitEntry]
  refine QuitsD.ctl (g' := { G wbot [] with status := .finished }) rfl (fun w => ?_) ⟨rfl, rfl⟩
  simp [G, stepG, unwind, wbot, goexitEntry, Frame.catches]
  rfl

set_option maxRecDepth 100000 in
set_option maxHeartbeats 4000000 in
theorem works (k L : Nat) (hk0 : 0 < k) (hk : k ≤ 128) (hL : L ≤ 140737488355328) (idx : Nat) (hidx : idx < k) : ∃ m, ∀ (w : World) (c : Cap) (ws : List Nat) (cs : List Col) (res : Nat → List Nat), LenIs ws k → cs.length = k → (∀ x ∈ ws, x < 256) → (∀ c ∈ cs, LenIs c.ys L ∧ ∀ y ∈ c.ys, y < 256) →
    res idx = comb (zsOf ws cs) (List.replicate L 0) → WIn Wg C k B c k L idx ws cs w → Wk Tryz.prog link.tWg Wg C k B (WPr C L res) idx m (born Tryz.prog (wcall Wg c)) w := by
  obtain ⟨q, hq⟩ := combine_c (main := false) (Wg := Wg) (C := C) (n := k) (B := B) (Cl := (· = idx)) k L hk0 hk hL
  refine ⟨?m, fun w c ws cs res hlw hlc hws hcs hres hF => ?_⟩
  case m => exact (3 + (10 * (q + 3) + 1 + 1)) + 1 + 1 + 1 + 1 + 1
  have hiI : (idx : Int) < (k : Int) := by omega
  have T := termsG (Wg := Wg) (C := C) (n := k) (B := B) (Cl := (· = idx))
  unfold Wk
  refine Goes.step rfl fun w₁ h₁ => ?_
  replace hF := hF.rely h₁
  clear h₁
  rw [w_born]
  refine ⟨T.idle _, ?_⟩
  simp only [caught, wbody, Tryz.f79, Option.getD_some, Array.replicate_succ, Array.replicate_zero, List.push_toArray, List.append_toArray, List.nil_append, List.cons_append]
  refine Goes.step rfl fun w₁ h₁ => ?_
  replace hF := hF.rely h₁
  clear h₁
  rw [stepG_seq]
  refine ⟨T.idle _, ?_⟩
  refine Goes.step rfl fun w₁ h₁ => ?_
  replace hF := hF.rely h₁
  clear h₁
  rw [stepG_region]
  refine ⟨T.idle _, ?_⟩
  simp only [List.size_toArray, List.length_cons, List.length_nil, Nat.zero_add, List.range, List.range.loop]
  refine Goes.step rfl fun w₁ h₁ => ?_
  replace hF := hF.rely h₁
  clear h₁
  rw [stepG_defer rfl rfl (by decide) rfl]
  refine ⟨T.idle _, ?_⟩
  walk_nrm
  refine Goes.step rfl fun w₁ h₁ => ?_
  replace hF := hF.rely h₁
  clear h₁
  rw [stepG_region_end]
  refine ⟨T.idle _, ?_⟩
  refine wpC_goes (m := 3) (Q := fun e a' w' => e = .normal ∧ a'.defers = [dcall 80 #[.pointer (some ⟨Wg, 0, none⟩)]] ∧ ∃ v, WD1 C L res idx v w') (wpC_region_any T drawG (S := WIn Wg C k B c k L idx ws cs) (lst := 9) (nf := q) (by kernel_rfl) (fun w₁ h₁ => ?_)) rfl (by decide) ?_
  · replace hF : WIn Wg C k B c k L idx ws cs { w₁ with drawn := w₁.drawn + 1 } := by
      have := hF.rely h₁
      exact ⟨⟨this.bs.tg, this.bs.hC, this.bs.hB, this.bs.ow⟩, this.pay, this.ra, this.va, this.rj, this.vj, this.rv, this.vv, this.rW, this.vW, this.rd, this.vd, ⟨this.cin.rw, this.cin.lw, this.cin.rc, this.cin.lc, this.cin.hw, this.cin.hc, this.cin.hcol⟩⟩
    clear h₁
    have hSR : ∀ x y, WIn Wg C k B c k L idx ws cs x → Ro Wg C k B (· = idx) x y → WIn Wg C k B c k L idx ws cs y := fun _ _ h r => h.rely r
    have hQR : ∀ (a : Act) (x y : World), (Exit.normal = .normal ∧ a.defers = [dcall 80 #[.pointer (some ⟨Wg, 0, none⟩)]] ∧ ∃ v, WD1 C L res idx v x) → Ro Wg C k B (· = idx) x y → (Exit.normal = .normal ∧ a.defers = [dcall 80 #[.pointer (some ⟨Wg, 0, none⟩)]] ∧ ∃ v, WD1 C L res idx v y) := fun a x y ⟨h1, h2, v, h3⟩ r => ⟨h1, h2, v, h3.rely r⟩
    generalize { w₁ with drawn := w₁.drawn + 1 } = w2 at hF ⊢
    simp only [List.size_toArray, List.length_cons, List.length_nil, Nat.reduceAdd, Nat.zero_add]
    (co_applyP anyX_take T hSR hQR (i := 0) rfl (by kernel_rfl) (by kernel_rfl) (by kernel_rfl) (by kernel_rfl) (by kernel_rfl) (.inl ⟨by rfl, fun _ hw => ⟨run_eq_of ?runq1, ?guarq1⟩⟩) hF ?restq1
     case runq1 =>
       intro Kq hKq
       (have h1 := hw.va)
       go_simp
       exact hKq
     case guarq1 =>
       (have h1 := hw.va)
       (refine dg_read hw.ra (hw.bs.rdb_lt hw.ra) ?_; co_evs (exact ⟨_, rfl, rfl⟩))
     try walk_nrm)
    (co_applyP anyX_take T hSR hQR (i := 1) rfl (by kernel_rfl) (by kernel_rfl) (by kernel_rfl) (by kernel_rfl) (by kernel_rfl) (.inl ⟨by rfl, fun _ hw => ⟨run_eq_of ?runq2, ?guarq2⟩⟩) hF ?restq2
     case runq2 =>
       intro Kq hKq
       (have h1 := hw.vj)
       go_simp
       exact hKq
     case guarq2 =>
       (have h1 := hw.vj)
       (refine dg_read hw.rj (hw.bs.rdb_lt hw.rj) ?_; co_evs (exact ⟨_, rfl, rfl⟩))
     try walk_nrm)
    (co_applyP anyX_take T hSR hQR (i := 2) rfl (by kernel_rfl) (by kernel_rfl) (by kernel_rfl) (by kernel_rfl) (by kernel_rfl) (.inl ⟨by rfl, fun _ hw => ⟨run_eq_of ?runq3, ?guarq3⟩⟩) hF ?restq3
     case runq3 =>
       intro Kq hKq
       (have h1 := hw.vv)
       go_simp
       exact hKq
     case guarq3 =>
       (have h1 := hw.vv)
       (refine dg_read hw.rv (hw.bs.rdb_lt hw.rv) ?_; co_evs (exact ⟨_, rfl, rfl⟩))
     try walk_nrm)
    (co_applyP anyX_take T hSR hQR (i := 3) rfl (by kernel_rfl) (by kernel_rfl) (by kernel_rfl) (by kernel_rfl) (by kernel_rfl) (.inl ⟨by rfl, fun _ hw => ⟨run_eq_of ?runq4, ?guarq4⟩⟩) hF ?restq4
     case runq4 =>
       intro Kq hKq
       (have h1 := hw.vj)
       go_simp
       exact hKq
     case guarq4 =>
       (have h1 := hw.vj)
       (refine dg_read hw.rj (hw.bs.rdb_lt hw.rj) ?_; co_evs (exact ⟨_, rfl, rfl⟩))
     try walk_nrm)
    (co_applyP anyX_take T hSR hQR (i := 4) rfl (by kernel_rfl) (by kernel_rfl) (by kernel_rfl) (by kernel_rfl) (by kernel_rfl) (.inl ⟨by rfl, fun _ hw => ⟨run_eq_of ?runq5, ?guarq5⟩⟩) hF ?restq5
     case runq5 =>
       intro Kq hKq
       (skip)
       go_simp
       exact hKq
     case guarq5 =>
       (skip)
       (co_still T)
     try walk_nrm)
    (co_applyP anyX_take T hSR hQR (i := 5) rfl (by kernel_rfl) (by kernel_rfl) (by kernel_rfl) (by kernel_rfl) (by kernel_rfl) (.inl ⟨by rfl, fun _ hw => ⟨run_eq_of ?runq6, ?guarq6⟩⟩) hF ?restq6
     case runq6 =>
       intro Kq hKq
       (have h1 := hw.vW)
       go_simp
       exact hKq
     case guarq6 =>
       (have h1 := hw.vW)
       (refine dg_read hw.rW (hw.bs.rdb_lt hw.rW) ?_; co_evs (exact ⟨_, rfl, rfl⟩))
     try walk_nrm)
    (co_applyP anyX_take T hSR hQR (i := 6) rfl (by kernel_rfl) (by kernel_rfl) (by kernel_rfl) (by kernel_rfl) (by kernel_rfl) (.inl ⟨by rfl, fun _ hw => ⟨run_eq_of ?runq7, ?guarq7⟩⟩) hF ?restq7
     case runq7 =>
       intro Kq hKq
       (have h1 := hw.vd)
       go_simp
       exact hKq
     case guarq7 =>
       (have h1 := hw.vd)
       (refine dg_read hw.rd (hw.bs.rdb_lt hw.rd) ?_; co_evs (exact ⟨_, rfl, rfl⟩))
     try walk_nrm)
    refine anyX_one (i := 7) (by kernel_rfl) ⟨_, rfl, .inr (.inl ⟨by rfl, _, _, _, (fun v w' => ∃ N, v = .slice (some ⟨N, 0, none⟩) L L ∧ CG Wg C k B (· = idx) w2 N (comb (zsOf ws cs) (List.replicate L 0)) w'), rfl, by walk_nrm; exact hq w2 c.br c.oR c.cR c.bD c.oD c.cD ws cs hlw hlc hws hcs hF.bs hF.cin, ?_⟩)⟩
    rintro v w' ⟨N, rfl, hg⟩
    have hN : N ≠ C := by have := hg.lo; have := hF.bs.hC; omega
    replace hF := hF.ex hg.bs hg.ex
    have hwp : WPr C L res idx (.slice (some ⟨N, 0, none⟩) L L) w' := ⟨N, rfl, hg.mn, hN, by rw [hres]; exact hg.hx⟩
    clear hg
    refine ⟨fun _ => hF, ?_⟩
    walk_nrm
    refine anyX_one_k (i := 8) (by kernel_rfl) rfl (by rfl) (fun w₁ hR K hK => ?_)
    replace hF := hF.rely hR
    replace hwp := hwp.rely hR
    clear hR
    go_simp
    refine hK _ _ ⟨?_, fun _ => hF, ?_⟩
    · co_still T
    clear hK K
    walk_nrm
    refine anyX_one_k (i := 9) (by kernel_rfl) rfl (by rfl) (fun w₁ hR K hK => ?_)
    replace hF := hF.rely hR
    replace hwp := hwp.rely hR
    clear hR
    obtain ⟨u, hu1, hu2⟩ : ∃ u, w₁.cell? ⟨C, idx, none⟩ = some u ∧ w₁.frozen? ⟨C, idx, none⟩ = false := by
      obtain ⟨arr, h1, h2⟩ := hF.pay
      exact ⟨arr[idx]'(by omega), by simp [World.cell?, h1, h2, hidx], by simp [World.frozen?, h1]⟩
    go_simp
    try (unfold stored; go_simp)
    refine hK _ _ ⟨?_, fun h => absurd rfl h, ?_⟩
    · refine dg_cell (Cl := (· = idx)) hF.pay hF.bs.hC (i := idx) rfl _ ?_
      co_evs (exact ⟨_, rfl⟩)
    clear hK K
    walk_nrm
    refine anyX_done (by kernel_rfl) ⟨rfl, rfl, .slice (some ⟨N, 0, none⟩) L L, ⟨N, rfl, ?_, hN, ?_⟩, cell_set hF.pay hidx _⟩ _
    · obtain ⟨N', e, hm, _⟩ := hwp
      cases e
      exact mine_grow (w := w₁) (w' := w₁.setCell _ _) rfl (by rw [sz_set]; omega) hm
    · obtain ⟨N', e, _, _, hh⟩ := hwp
      cases e
      exact (Below.heap_setCell _ _ _ _ hN).trans hh
  · rintro e a' w' ⟨rfl, hd, v, hk⟩
    show Goes _ _ _ _ _ 3 (G (w0.at a' []) [wbot]) w'
    refine Goes.step rfl fun w₁ h₁ => ?_
    replace hk := hk.rely h₁
    clear h₁
    rw [stepG_end]
    refine ⟨T.idle _, ?_⟩
    refine Goes.step rfl fun w₁ h₁ => ?_
    replace hk := hk.rely h₁
    clear h₁
    rw [stepG_unwind_enter hd Tryz.func80 (nm_done link) rfl]
    refine ⟨T.idle _, ?_⟩
    refine Goes.stop fun w₁ h₁ => ?_
    replace hk := hk.rely h₁
    clear h₁
    refine ⟨rfl, v, hk.wp, hk.has, fun W h1 h2 => ?_⟩
    have hA := @doneN _ link Tryz.prog wgLib NoF NoF Wg C k 0 (idx + 1) v
    have := hA (c := { w0.at ⟨a'.tmps, []⟩ [] with mode := .returning }) (cs := [wbot]) (qt := 2) rfl (w_quits a'.tmps) W ⟨h1, by simpa using h2⟩
    exact this
end
end Go.Proofs.YtlghjjennhpjeaaGreatDoor

/-
  In company: a column is copied.
-/
namespace Go.Proofs.YtlghjjennhpjeaaGreatDoor
open Go.Conc Go.RowKit Go.Gh
open Go.ConcR (Payload)

def CopyOk (w : World) (N L : Nat) (bs : Option Addr) (co bo : Nat) (ys : List Nat) : Prop :=
  (Builtin.copy_ #[24, 24] 3 #[.slice (some ⟨N, 0, none⟩) L L, .slice bs L co]).run Tryz.prog w = .ok (goInt L) (w.setRow N (bytesA ys)) ∧
    ∀ e ∈ (Builtin.copy_ #[24, 24] 3 #[.slice (some ⟨N, 0, none⟩) L L, .slice bs L co]).events Tryz.prog w #[], ∃ b wr, e = ⟨.cell b, wr, false⟩ ∧ (b.block = N ∨ (b.block = bo ∧ wr = false))

theorem bytesA_one (ys : List Nat) : ∀ v ∈ (bytesA ys).toList, v.oneCell' = true := by
  intro v hv
  obtain ⟨i, hi⟩ := Array.mem_iff_getElem?.1 (Array.mem_toList_iff.1 hv)
  rw [bytesA_get] at hi
  obtain ⟨y, _, rfl⟩ := Option.map_eq_some_iff.1 hi
  rfl
theorem copy_ok (w : World) (N L : Nat) (bs : Option Addr) (co bo oo : Nat) (ys : List Nat) (hs : 0 < L → bs = some ⟨bo, oo, none⟩) (hl : ys.length = L) (hc : ∀ i y, ys[i]? = some y → w.cell? ⟨bo, oo + i, none⟩ = some (.int .u8 ((y : Nat) : Int)))
    {cur : Array Value} (hcur : cur.size = L) (hg : w.heap[N]? = some (.cells cur 5)) : CopyOk w N L bs co bo ys := by
  have hu := Tryz.underlying24
  obtain ⟨i0, hi, _, hz1, _⟩ := info_parts info_u8
  have hsz : (Tryz.prog.info? 5).map (·.size) = some 1 := by rw [hi]; simp [hz1]
  have hsize : (bytesA ys).size = L := by simp [bytesA, hl]
  rcases Nat.eq_zero_or_pos L with h0 | h0
  · subst h0
    have hn : ys = [] := List.eq_nil_of_length_eq_zero hl
    subst hn
    have e0 : cur = bytesA [] := by rw [Array.eq_empty_of_size_eq_zero hcur]; rfl
    rw [e0] at hg
    refine ⟨?_, ?_⟩
    · rw [setRow_self w N _ _ _ hg]
      cases bs <;> simp [Builtin.copy_, run_underlying hu, Builtin.lenOf, Builtin.firstCells, sizeOf, typeInfo, hi, loadCells, loadCellsFrom, storeCells]
    · intro e he
      cases bs <;> simp [Builtin.copy_, run_underlying hu, Builtin.lenOf, Builtin.firstCells, sizeOf, typeInfo, hi, loadCells, loadCellsFrom, storeCells, go_sem] at he
  · obtain rfl := hs h0
    have hsrc : ∀ j v, (bytesA ys).toList[j]? = some v → w.cell? ((⟨bo, oo, none⟩ : Addr).add j) = some v := by
      intro j v hj
      rw [Array.getElem?_toList, bytesA_get] at hj
      obtain ⟨y, hy, rfl⟩ := Option.map_eq_some_iff.1 hj
      rw [add_plain]
      exact hc j y hy
    refine ⟨?_, ?_⟩
    · have := run_copy_row Tryz.prog w 24 24 3 5 N 0 L L ⟨bo, oo, none⟩ L co cur 5 (bytesA ys).toList hu hsz hg (by simp [hsize]) hsrc (by simp [hsize, hcur]) (bytesA_one ys)
      have h1 : List.drop L cur.toList = [] := List.drop_eq_nil_of_le (by simp [hcur])
      simpa [hsize, h1] using this
    · intro e he
      have hlr := run_loadCells_list (P := Tryz.prog) w ⟨bo, oo, none⟩ (bytesA ys).toList hsrc
      have hln : (bytesA ys).toList.length = L := by simp [hsize]
      rw [hln] at hlr
      simp [Builtin.copy_, run_underlying hu, Builtin.lenOf, Builtin.firstCells, sizeOf, typeInfo, hi, hz1, go_sem] at he
      rw [show (loadCellsFrom ⟨bo, oo, none⟩ 0 L #[]).run Tryz.prog w = .ok (bytesA ys) w from by simpa [loadCells] using hlr] at he
      simp only [Result.evThen_ok] at he
      rcases ev_storeCells N 5 (bytesA ys).toList 0 cur w _ hg (by simp [hsize, hcur]) (bytesA_one ys) e he with h | ⟨b, rfl, hb⟩
      · rcases ev_loadCells ⟨bo, oo, none⟩ L 0 #[] w #[] (fun j hj => ⟨_, hsrc (0 + j) ((bytesA ys)[j]'(by omega)) (by simp [hsize, hj])⟩) e h with h | ⟨b, rfl, hb⟩
        · simp at h
        · exact ⟨b, false, rfl, .inr ⟨hb, rfl⟩⟩
      · exact ⟨b, true, rfl, .inl hb⟩

section
variable [Payload] [OldG] {main : Bool} {Wg C n B : Nat} {Cl : Nat → Prop}
theorem dg_copy {w : World} {N bo : Nat} {c' : Array Value} (hm : Mine w N) (hne : N ≠ C) (hb : N < w.heap.size) (hr : Rdb Wg C B w bo) (hbo : bo < w.heap.size) {es : Array Event}
    (he : ∀ e ∈ es, ∃ b wr, e = ⟨.cell b, wr, false⟩ ∧ (b.block = N ∨ (b.block = bo ∧ wr = false))) : Dg Wg C n B Cl w (w.setRow N c') es := by
  refine ⟨by rw [sz_row]; omega, rfl, rfl, fun b _ hb' _ => heap_row_other w c' (fun e => hb' (e ▸ hm)), fun i _ => cell_row_other w c' (Ne.symm hne), fun ⟨cs, h1, h2⟩ => ⟨cs, (heap_row_other w c' (Ne.symm hne)).trans h1, h2⟩, fun e he' => ?_⟩
  obtain ⟨b, wr, rfl, hbb | ⟨hbb, rfl⟩⟩ := he e he'
  · exact ⟨b, wr, rfl, by rw [sz_row]; omega, .inl (by rw [hbb]; exact hm)⟩
  · exact ⟨b, false, rfl, by rw [sz_row]; omega, hr.elim (fun x => .inl (by rw [hbb]; exact x)) fun x => .inr (.inr (.inr (by rw [hbb]; exact ⟨x.1, x.2.1, x.2.2.1, rfl, x.2.2.2⟩)))⟩

set_option maxRecDepth 100000 in
set_option maxHeartbeats 2000000 in
theorem copyOf_c (L : Nat) (hL : L ≤ 140737488355328) : ∃ q, ∀ (w : World) (bs : Option Addr) (bo oo co : Nat) (ys : List Nat), (0 < L → bs = some ⟨bo, oo, none⟩) → LenIs ys L → Bs C B w → Rdb Wg C B w bo → (∀ i y, ys[i]? = some y → w.cell? ⟨bo, oo + i, none⟩ = some (.int .u8 ((y : Nat) : Int))) →
    CallsC Tryz.prog main (Ro Wg C n B Cl) (Dg Wg C n B Cl) 77 #[.slice bs L co] q w fun v w' => ∃ N, v = .slice (some ⟨N, 0, none⟩) L L ∧ CG Wg C n B Cl w N ys w' := by
  obtain ⟨i0, hi, hz0, hz1, hz2⟩ := info_parts info_u8
  have hmk : ∀ w : World, (Instr.makeSlice 24 (.int .i64 (L : Int)) (.int .i64 (L : Int))).run Tryz.prog w = .ok (.slice (some ⟨w.heap.size, 0, none⟩) L L) (w.alloc (.cells (madeCells #[.int .u8 0] L) 5)) := fun w => by
    have := run_make (P := Tryz.prog) w 24 5 i0 (.int .u8 0) Tryz.underlying24 hi hz0 .i64 .i64 (L : Int) (L : Int) (by omega) (by omega) (by rw [hz2]; omega) (by omega)
    rw [hz1, show (Value.int .u8 0).cells = #[.int .u8 0] from rfl] at this
    simpa using this
  have hme : ∀ (w : World) (es : Array Event), (Instr.makeSlice 24 (.int .i64 (L : Int)) (.int .i64 (L : Int))).events Tryz.prog w es = es := fun w es =>
    events_make (P := Tryz.prog) w 24 5 i0 (.int .u8 0) Tryz.underlying24 hi hz0 .i64 .i64 (L : Int) (L : Int) (by omega) (by omega) (by rw [hz2]; omega) (by omega) (by rw [hz2]; simp; omega) es
  clear hi hz0 hz1 hz2
  co_apply Exists.intro
  intro w bs bo oo co ys hbs hl hb hr hcs
  co_apply callsC_of_wpC Tryz.func77 (by rfl) rfl
  simp only [Tryz.ntmps77, List.size_toArray, List.length_cons, List.length_nil, Nat.reduceAdd, Nat.reduceSub, Array.replicate_succ, Array.replicate_zero, List.push_toArray, List.append_toArray, List.nil_append, List.cons_append]
  have hF : CF Wg C n B Cl w w := ⟨hb, .refl w⟩
  co_apply wpC_seq termsG
  co_reg termsG
  co_op CF.rely hF (co_quiet termsG)
  co_apply opsC_nil termsG
  co_then
  co_apply wpC_seq termsG
  co_reg termsG
  co_op CF.rely hF (co_quiet termsG)
  co_op CF.rely hF (co_quiet termsG)
  co_opw CF.rely hF (skip) (rw [listed_nil (by simp [go_sem, *])]; exact dg_alloc hF.bs.hC _ rfl)
  replace hF := hF.alloc L
  generalize hN : Array.size (World.heap _) = N at hF ⊢
  clear hN
  co_op CG.rely hF (co_quiet termsG)
  co_apply opsC_nil termsG
  co_then
  co_apply wpC_seq termsG
  co_reg termsG
  co_op CG.rely hF (co_quiet termsG)
  co_op CG.rely hF (co_quiet termsG)
  have hN1 := hF.lo
  have hN2 := hb.hC
  co_apply opsC_cons_k rfl (by rfl)
  intro w1 hR K hK
  replace hF := hF.rely hR
  clear hR
  have hcp : CopyOk w1 N L bs co bo ys := copy_ok w1 N L bs co bo oo ys hbs hl (fun i y hy => by rw [← hcs i y hy]; simp only [World.cell?, hF.ex.stands hr id]) (by simp [bytesA]) hF.hx
  obtain ⟨hc1, hc2⟩ := hcp
  go_simp
  refine hK _ _ ⟨?_, ?_⟩
  · refine dg_copy hF.mn (by omega) (hF.bs.lt hF.mn) (hF.ex.rdb hr) (hF.bs.rdb_lt (hF.ex.rdb hr)) ?_
    intro e he
    have hm := mem_listed he
    simp [go_sem] at hm
    exact hc2 e hm
  clear hK K hc1 hc2
  replace hF : CG Wg C n B Cl w N ys (w1.setRow N (bytesA ys)) := ⟨hF.bs.row _ _, ex_row hF.ex hb hN1 _, hN1, mine_grow (w := w1) (w' := w1.setRow N (bytesA ys)) rfl (by rw [sz_row]; omega) hF.mn, heap_row _ hF.hx⟩
  try walk_nrm
  co_apply opsC_nil termsG
  co_then
  co_apply wpC_seq termsG
  co_reg termsG
  co_op CG.rely hF (co_quiet termsG)
  co_op CG.rely hF (co_quiet termsG)
  co_apply opsC_nil termsG
  co_then
  co_apply wpC_ret termsG
  exact ⟨rfl, _, resultsC_tmp (by rfl) _, N, rfl, hF⟩
end
end Go.Proofs.YtlghjjennhpjeaaGreatDoor

/-
  In company: the starter's facts: what lies below, what it has laid into its places.
-/
namespace Go.Proofs.YtlghjjennhpjeaaGreatDoor
open Go.Conc Go.ConcN Go.RowKit Go.Gh
open Go.ConcR (Payload)

def Lo [OldG] (Wg C B b : Nat) : Prop := b < B ∧ b ≠ Wg ∧ b ≠ C ∧ ¬ OldG.old b

/-- Where all lies: the variables answer, weights, data; the lists of weights, of columns, of what was placed. -/
structure Env where
  ba : Nat
  bv : Nat
  bW : Nat
  oW : Nat
  cW : Nat
  bd : Nat
  bD : Nat
  oD : Nat
  cD : Nat
  bp : Nat
  op : Nat
  cp : Nat
  br : Nat → Nat
  oR : Nat → Nat
  cR : Nat → Nat
  ws : Nat → List Nat
  px : Nat → Nat
  cs : List Col
  h0 : Nat → Option Obj

def Env.mis (E : Env) (k t : Nat) : Prop := t < k ∧ E.px t ≠ t
def Env.cap (E : Env) (bj idx : Nat) : Cap := { ba := E.ba, bj := bj, bv := E.bv, bW := E.bW, oW := E.oW, cW := E.cW, br := E.br idx, oR := E.oR idx, cR := E.cR idx, bd := E.bd, bD := E.bD, oD := E.oD, cD := E.cD }
def Env.res (E : Env) (L t : Nat) : List Nat := comb (zsOf (E.ws t) E.cs) (List.replicate L 0)

/-- What is so of the data. -/
structure EnvOk (E : Env) (k L : Nat) : Prop where
  k0 : 0 < k
  k1 : k ≤ 128
  hL : L ≤ 140737488355328
  len : E.cs.length = k
  wl : ∀ t, t < k → LenIs (E.ws t) k ∧ ∀ x ∈ E.ws t, x < 256
  cl : ∀ c ∈ E.cs, LenIs c.ys L ∧ ∀ y ∈ c.ys, y < 256
  pb : ∀ t, t < k → E.px t < 128

structure LowF [OldG] (Wg C B k L : Nat) (E : Env) (w : World) : Prop where
  la : Lo Wg C B E.ba
  lv : Lo Wg C B E.bv
  lW : Lo Wg C B E.bW
  ld : Lo Wg C B E.bd
  lD : Lo Wg C B E.bD
  lp : Lo Wg C B E.bp
  lr : ∀ t, t < k → Lo Wg C B (E.br t)
  va : w.cell? ⟨E.ba, 0, none⟩ = some (.slice (some ⟨C, 0, none⟩) k k)
  vv : w.cell? ⟨E.bv, 0, none⟩ = some (.slice (some ⟨E.bW, E.oW, none⟩) k E.cW)
  vd : w.cell? ⟨E.bd, 0, none⟩ = some (.slice (some ⟨E.bD, E.oD, none⟩) k E.cD)
  vW : ∀ t, t < k → w.cell? ⟨E.bW, E.oW + t, none⟩ = some (.slice (some ⟨E.br t, E.oR t, none⟩) k (E.cR t))
  hw : ∀ t, t < k → ∀ j x, (E.ws t)[j]? = some x → w.cell? ⟨E.br t, E.oR t + j, none⟩ = some (.int .u8 ((x : Nat) : Int))
  hc : ∀ j c, E.cs[j]? = some c → w.cell? ⟨E.bD, E.oD + j, none⟩ = some (.slice c.bs L c.co)
  hp0 : ∀ t, t < k → w.cell? ⟨E.bp, E.op + t * 2, none⟩ = some (.int .i64 ((E.px t : Nat) : Int))
  hp1 : ∀ t c, E.cs[t]? = some c → w.cell? ⟨E.bp, E.op + t * 2 + 1, none⟩ = some (.slice c.bs L c.co)
  hcol : ∀ c ∈ E.cs, Lo Wg C B c.bo ∧ (0 < L → c.bs = some ⟨c.bo, c.oo, none⟩) ∧ ∀ i y, c.ys[i]? = some y → w.cell? ⟨c.bo, c.oo + i, none⟩ = some (.int .u8 ((y : Nat) : Int))
  std : ∀ b, b < B → b ≠ Wg → b ≠ C → w.heap[b]? = E.h0 b
theorem LowF.keep [OldG] {Wg C B k L : Nat} {E : Env} {w w₁ : World} (h : LowF Wg C B k L E w) (st : ∀ b, b < B → b ≠ Wg → b ≠ C → w₁.heap[b]? = w.heap[b]?) : LowF Wg C B k L E w₁ := by
  have st0 := st
  have st : ∀ {b : Nat}, Lo Wg C B b → ∀ o, w₁.cell? ⟨b, o, none⟩ = w.cell? ⟨b, o, none⟩ := fun hb o => by simp only [World.cell?, st _ hb.1 hb.2.1 hb.2.2.1]
  exact ⟨h.la, h.lv, h.lW, h.ld, h.lD, h.lp, h.lr, (st h.la _).trans h.va, (st h.lv _).trans h.vv, (st h.ld _).trans h.vd, fun t ht => (st h.lW _).trans (h.vW t ht), fun t ht j x e => (st (h.lr t ht) _).trans (h.hw t ht j x e),
    fun j c e => (st h.lD _).trans (h.hc j c e), fun t ht => (st h.lp _).trans (h.hp0 t ht), fun t c e => (st h.lp _).trans (h.hp1 t c e), fun c hc => let ⟨h1, h2, h3⟩ := h.hcol c hc; ⟨h1, h2, fun i y e => (st h1 _).trans (h3 i y e)⟩, fun b h1 h2 h3 => (st0 b h1 h2 h3).trans (h.std b h1 h2 h3)⟩

section
variable [Payload] [OldG] {main : Bool} {Wg C k B L : Nat} {E : Env}

/-- Behind so many places. -/
structure SF (Wg C k B L : Nat) (E : Env) (s0 j : Nat) (w : World) : Prop where
  bs : Bs C B w
  pay : PayAt C k w
  low : LowF Wg C B k L E w
  sb : C < s0 ∧ B ≤ s0 ∧ s0 ≤ w.heap.size
  dn : ∀ t c, t < j → ¬ E.mis k t → E.cs[t]? = some c → ∃ N, N < s0 ∧ Mine w N ∧ (N ≠ C ∧ B ≤ N) ∧ Has C t (.slice (some ⟨N, 0, none⟩) L L) w ∧ w.heap[N]? = some (.cells (bytesA c.ys) 5)

theorem SF.ex {s0 j : Nat} {w w₁ : World} {S : Nat → Prop} (h : SF Wg C k B L E s0 j w) (hb : Bs C B w₁) (r : Ex Wg C k B (fun i => ¬ E.mis k i) S w w₁) (hS : ∀ b, S b → s0 ≤ b) : SF Wg C k B L E s0 j w₁ := by
  refine ⟨hb, r.pay h.pay, h.low.keep r.low, ⟨h.sb.1, h.sb.2.1, Nat.le_trans h.sb.2.2 r.size⟩, fun t c ht hm hc => ?_⟩
  obtain ⟨N, h1, h2, h3, h4, h5⟩ := h.dn t c ht hm hc
  exact ⟨N, h1, r.own N h2, h3, (r.cell t hm).trans h4, (r.mine N h2 (fun hs => by have := hS N hs; omega)).trans h5⟩
theorem SF.rely {s0 j : Nat} {w w₁ : World} (h : SF Wg C k B L E s0 j w) (r : Ro Wg C k B (fun i => ¬ E.mis k i) w w₁) : SF Wg C k B L E s0 j w₁ := by
  refine ⟨h.bs.rely r, r.pay h.pay, h.low.keep r.low, ⟨h.sb.1, h.sb.2.1, Nat.le_trans h.sb.2.2 r.size⟩, fun t c ht hm hc => ?_⟩
  obtain ⟨N, h1, h2, h3, h4, h5⟩ := h.dn t c ht hm hc
  exact ⟨N, h1, (r.mineAt N).2 h2, h3, (r.cell t hm).trans h4, (r.mine N h2).trans h5⟩
/-- A new beginning. -/
theorem SF.base {s0 j : Nat} {w : World} (h : SF Wg C k B L E s0 j w) : SF Wg C k B L E w.heap.size j w := by
  refine ⟨h.bs, h.pay, h.low, ⟨h.bs.hC, h.bs.hB, Nat.le_refl _⟩, fun t c ht hm hc => ?_⟩
  obtain ⟨N, h1, h2, h3⟩ := h.dn t c ht hm hc
  exact ⟨N, h.bs.lt h2, h2, h3⟩

/-- Within a round: the variables j and c. -/
structure SG (Wg C k B L : Nat) (E : Env) (s0 j bj bc : Nat) (vj v0 v1 : Value) (w : World) : Prop where
  sf : SF Wg C k B L E s0 j w
  lj : s0 ≤ bj
  lc : s0 ≤ bc
  ne : bj ≠ bc
  mj : Mine w bj
  mc : Mine w bc
  hj : w.heap[bj]? = some (.cells #[vj] 3)
  hc : w.heap[bc]? = some (.cells #[v0, v1] 55)
theorem SG.rely {s0 j bj bc : Nat} {vj v0 v1 : Value} {w w₁ : World} (h : SG Wg C k B L E s0 j bj bc vj v0 v1 w) (r : Ro Wg C k B (fun i => ¬ E.mis k i) w w₁) : SG Wg C k B L E s0 j bj bc vj v0 v1 w₁ :=
  ⟨h.sf.rely r, h.lj, h.lc, h.ne, (r.mineAt _).2 h.mj, (r.mineAt _).2 h.mc, (r.mine _ h.mj).trans h.hj, (r.mine _ h.mc).trans h.hc⟩
structure SJ (Wg C k B L : Nat) (E : Env) (s0 j bj : Nat) (vj : Value) (w : World) : Prop where
  sf : SF Wg C k B L E s0 j w
  lj : s0 ≤ bj
  mj : Mine w bj
  hj : w.heap[bj]? = some (.cells #[vj] 3)
theorem SJ.rely {s0 j bj : Nat} {vj : Value} {w w₁ : World} (h : SJ Wg C k B L E s0 j bj vj w) (r : Ro Wg C k B (fun i => ¬ E.mis k i) w w₁) : SJ Wg C k B L E s0 j bj vj w₁ :=
  ⟨h.sf.rely r, h.lj, (r.mineAt _).2 h.mj, (r.mine _ h.mj).trans h.hj⟩
theorem SF.alloc {s0 j : Nat} {w : World} (h : SF Wg C k B L E s0 j w) (o : Obj) : SF Wg C k B L E s0 j (w.alloc o) :=
  h.ex (S := fun _ => False) (h.bs.alloc o) (Ex.alloc h.bs.hC h.bs.hB (fun _ hb => h.bs.lt hb) o) (fun _ => False.elim)
theorem SF.alloc1 {s0 j : Nat} {w : World} (h : SF Wg C k B L E s0 j w) (v : Value) : SJ Wg C k B L E s0 j w.heap.size v (w.alloc (.cells #[v] 3)) :=
  ⟨h.alloc _, h.sb.2.2, mine_fresh (w := w) (w' := w.alloc _) rfl h.bs.tg (Nat.le_refl _) (by rw [sz_alloc]; omega), by rw [heap_new]⟩
theorem SJ.alloc2 {s0 j bj : Nat} {vj : Value} {w : World} (h : SJ Wg C k B L E s0 j bj vj w) (v0 v1 : Value) : SG Wg C k B L E s0 j bj w.heap.size vj v0 v1 (w.alloc (.cells #[v0, v1] 55)) :=
  ⟨h.sf.alloc _, h.lj, h.sf.sb.2.2, Nat.ne_of_lt (h.sf.bs.lt h.mj), mine_grow (w := w) (w' := w.alloc _) rfl (by rw [sz_alloc]; omega) h.mj, mine_fresh (w := w) (w' := w.alloc _) rfl h.sf.bs.tg (Nat.le_refl _) (by rw [sz_alloc]; omega),
    (Below.heap_alloc _ _ _ (h.sf.bs.lt h.mj)).trans h.hj, by rw [heap_new]⟩
theorem SF.set {s0 j b o : Nat} {w : World} (h : SF Wg C k B L E s0 j w) (hb : s0 ≤ b) (v : Value) : SF Wg C k B L E s0 j (w.setCell ⟨b, o, none⟩ v) :=
  h.ex (S := fun x => s0 ≤ x) (h.bs.set _ _) (Ex.set (by have := h.sb.1; show b ≠ C; omega) hb (by have := h.sb.2.1; show ¬ (b < B ∧ _); omega)) (fun _ hx => hx)
theorem SG.setj {s0 j bj bc : Nat} {vj v0 v1 : Value} {w : World} (h : SG Wg C k B L E s0 j bj bc vj v0 v1 w) (v : Value) : SG Wg C k B L E s0 j bj bc v v0 v1 (w.setCell ⟨bj, 0, none⟩ v) :=
  ⟨h.sf.set h.lj v, h.lj, h.lc, h.ne, mine_grow (w := w) (w' := w.setCell _ _) rfl (by rw [sz_set]; omega) h.mj, mine_grow (w := w) (w' := w.setCell _ _) rfl (by rw [sz_set]; omega) h.mc, heap_set w h.hj 0 v, (Below.heap_setCell _ _ _ _ (Ne.symm h.ne)).trans h.hc⟩
theorem SG.setc {s0 j bj bc : Nat} {vj v0 v1 : Value} {w : World} (h : SG Wg C k B L E s0 j bj bc vj v0 v1 w) (u0 u1 : Value) : SG Wg C k B L E s0 j bj bc vj u0 u1 ((w.setCell ⟨bc, 0, none⟩ u0).setCell ⟨bc, 1, none⟩ u1) :=
  ⟨(h.sf.set h.lc u0).set h.lc u1, h.lj, h.lc, h.ne, mine_grow (w := w) (w' := (w.setCell ⟨bc, 0, none⟩ u0).setCell ⟨bc, 1, none⟩ u1) rfl (by rw [sz_set, sz_set]; omega) h.mj, mine_grow (w := w) (w' := (w.setCell ⟨bc, 0, none⟩ u0).setCell ⟨bc, 1, none⟩ u1) rfl (by rw [sz_set, sz_set]; omega) h.mc,
    (Below.heap_setCell _ _ _ _ h.ne).trans ((Below.heap_setCell _ _ _ _ h.ne).trans h.hj), heap_set _ (heap_set w h.hc 0 u0) 1 u1⟩
theorem SG.jC {s0 j bj bc : Nat} {vj v0 v1 : Value} {w : World} (h : SG Wg C k B L E s0 j bj bc vj v0 v1 w) : bj ≠ C := by have := h.lj; have := h.sf.sb.1; omega
theorem SG.cC {s0 j bj bc : Nat} {vj v0 v1 : Value} {w : World} (h : SG Wg C k B L E s0 j bj bc vj v0 v1 w) : bc ≠ C := by have := h.lc; have := h.sf.sb.1; omega
theorem SG.cj {s0 j bj bc : Nat} {vj v0 v1 : Value} {w : World} (h : SG Wg C k B L E s0 j bj bc vj v0 v1 w) : w.cell? ⟨bj, 0, none⟩ = some vj ∧ w.frozen? ⟨bj, 0, none⟩ = false := ⟨by rw [cell_of w h.hj]; rfl, thaw_of w h.hj 0⟩
theorem SG.cc {s0 j bj bc : Nat} {vj v0 v1 : Value} {w : World} (h : SG Wg C k B L E s0 j bj bc vj v0 v1 w) : (w.cell? ⟨bc, 0, none⟩ = some v0 ∧ w.cell? ⟨bc, 1, none⟩ = some v1) ∧ w.frozen? ⟨bc, 0, none⟩ = false ∧ w.frozen? ⟨bc, 1, none⟩ = false :=
  ⟨⟨by rw [cell_of w h.hc]; rfl, by rw [cell_of w h.hc]; rfl⟩, thaw_of w h.hc 0, thaw_of w h.hc 1⟩
theorem dg_set2 {n : Nat} {Cl : Nat → Prop} {w : World} {b : Nat} {u0 u1 : Value} (hm : Mine w b) (hne : b ≠ C) (hb : b < w.heap.size) {es : Array Event} (he : ∀ e ∈ es, ∃ a wr, e = ⟨.cell a, wr, false⟩ ∧ a.block = b) : Dg Wg C n B Cl w ((w.setCell ⟨b, 0, none⟩ u0).setCell ⟨b, 1, none⟩ u1) es := by
  have hx : ∀ x, x ≠ b → ((w.setCell ⟨b, 0, none⟩ u0).setCell ⟨b, 1, none⟩ u1).heap[x]? = w.heap[x]? := fun x hx => (Below.heap_setCell _ _ _ _ hx).trans (Below.heap_setCell _ _ _ _ hx)
  refine ⟨by rw [sz_set, sz_set]; omega, rfl, rfl, fun x _ hx' _ => hx x (fun e => hx' (e ▸ hm)), fun i _ => by simp only [World.cell?, hx C (Ne.symm hne)], fun ⟨cs, h1, h2⟩ => ⟨cs, (hx C (Ne.symm hne)).trans h1, h2⟩, fun e he' => ?_⟩
  obtain ⟨a, wr, rfl, ha⟩ := he e he'
  exact ⟨a, wr, rfl, by rw [sz_set, sz_set]; omega, .inl (by rw [ha]; exact hm)⟩
theorem SG.ex {s0 j bj bc : Nat} {vj v0 v1 : Value} {w w₁ : World} (h : SG Wg C k B L E s0 j bj bc vj v0 v1 w) (hb : Bs C B w₁) (r : Ex Wg C k B (fun i => ¬ E.mis k i) (fun _ => False) w w₁) : SG Wg C k B L E s0 j bj bc vj v0 v1 w₁ :=
  ⟨h.sf.ex hb r (fun _ => False.elim), h.lj, h.lc, h.ne, r.own _ h.mj, r.own _ h.mc, (r.mine _ h.mj id).trans h.hj, (r.mine _ h.mc id).trans h.hc⟩
/-- A copy is laid into its place. -/
theorem SF.cell {s0 j N : Nat} {w : World} {c : Col} (h : SF Wg C k B L E s0 j w) (hj : j < k) (hcj : E.cs[j]? = some c) (hm : Mine w N) (hN : N ≠ C ∧ B ≤ N) (hh : w.heap[N]? = some (.cells (bytesA c.ys) 5)) :
    SF Wg C k B L E w.heap.size (j + 1) (w.setCell ⟨C, j, none⟩ (.slice (some ⟨N, 0, none⟩) L L)) := by
  obtain ⟨arr, hp1, hp2⟩ := h.pay
  have hx : ∀ x, x ≠ C → (w.setCell ⟨C, j, none⟩ (.slice (some ⟨N, 0, none⟩) L L)).heap[x]? = w.heap[x]? := fun x hx => Below.heap_setCell _ _ _ _ hx
  have hg : ∀ b, Mine w b → Mine (w.setCell ⟨C, j, none⟩ (.slice (some ⟨N, 0, none⟩) L L)) b := fun b hb => mine_grow (w := w) (w' := w.setCell _ _) rfl (by rw [sz_set]; omega) hb
  refine ⟨h.bs.set _ _, ⟨_, heap_set w hp1 _ _, by simpa using hp2⟩, h.low.keep (fun b _ _ hb => hx b hb), ⟨h.bs.hC, h.bs.hB, by rw [sz_set]; omega⟩, fun t d ht hmt hd => ?_⟩
  by_cases htj : t = j
  · subst htj
    rw [hcj] at hd
    cases hd
    exact ⟨N, h.bs.lt hm, hg N hm, hN, cell_set ⟨arr, hp1, hp2⟩ hj _, (hx N hN.1).trans hh⟩
  · obtain ⟨N', h1, h2, h3, h4, h5⟩ := h.dn t d (by omega) hmt hd
    refine ⟨N', h.bs.lt h2, hg N' h2, h3, ?_, (hx N' h3.1).trans h5⟩
    simp only [Has, World.cell?, hp1] at h4
    simp only [Has, World.cell?, heap_set w hp1]
    rw [Array.getElem?_setIfInBounds_ne (fun e : j = t => htj e.symm)]
    exact h4
/-- The next book. -/
theorem SF.book {s0 j : Nat} {w : World} (h : SF Wg C k B L E s0 j w) (hj : E.mis k j) {l : List Nat} (hl : ∀ b ∈ l, b < w.heap.size) (hk : ∀ b, Mine w b → b < s0 → b ∈ l) : SF Wg C k B L E s0 (j + 1) (w.out (book w.heap.size l)) := by
  refine ⟨⟨by rw [tag_book]; exact Nat.le_refl _, h.bs.hC, h.bs.hB, fun b hb => by rw [own_book] at hb; exact hl b hb⟩, h.pay, h.low.keep (fun _ _ _ _ => rfl), h.sb, fun t c ht hm hc => ?_⟩
  by_cases htj : t = j
  · exact absurd (htj ▸ hj) hm
  · obtain ⟨N, h1, h2, h3, h4, h5⟩ := h.dn t c (by omega) hm hc
    exact ⟨N, h1, .inl (by rw [own_book]; exact hk N h2 h1), h3, h4, h5⟩
end
end Go.Proofs.YtlghjjennhpjeaaGreatDoor

/-
  In company: the starter: what is there is copied into its place; for what is missing a worker is started.
-/
namespace Go.Proofs.YtlghjjennhpjeaaGreatDoor
open Go.Conc Go.ConcN Go.RowKit Go.Gh Go.Conc.Lib Go.ConcR.Gen Go.ConcN.Gen
open Go.ConcR (Payload)


/-- The temporaries at the loop's head. -/
def TS (E : Env) (Wg k j : Nat) (T : Array Value) : Prop :=
  ∃ v0 v1 v2 v3 v4 v5 v6 v8 v9 v13 v14 v15 v16 v17 v18 v19 v20 v21 v22 v23 v24 v25 v26 v27 v28 v29 v30 v31 v32 v33 v34 v35 v36 v37 v38 v39 v40 v41 v42 v43 v44 v45 v46 v50 v51 v52 v53 v54 v55 v56 v57 v58 v59 v60 v61 v62 v63 v64 v65 v66 v67 v68 : Value, T = #[v0, v1, v2, v3, v4, v5, v6, .pointer (some ⟨E.bd, 0, none⟩), v8, v9, .pointer (some ⟨E.bv, 0, none⟩), .pointer (some ⟨E.ba, 0, none⟩), .pointer (some ⟨Wg, 0, none⟩), v13, v14, v15, v16, v17, v18, v19, v20, v21, v22, v23, v24, v25, v26, v27, v28, v29, v30, v31, v32, v33, v34, v35, v36, v37, v38, v39, v40, v41, v42, v43, v44, v45, v46, .slice (some ⟨E.bp, E.op, none⟩) k E.cp, .int .i64 ((k : Nat) : Int), .int .i64 ((j : Nat) : Int), v50, v51, v52, v53, v54, v55, v56, v57, v58, v59, v60, v61, v62, v63, v64, v65, v66, v67, v68]

/-- .. behind the test of a round. -/
def TS2 (E : Env) (Wg k j bj bc : Nat) (T : Array Value) : Prop :=
  ∃ v0 v1 v2 v3 v4 v5 v6 v8 v9 v15 v16 v17 v18 v19 v20 v21 v22 v23 v24 v25 v26 v27 v28 v29 v30 v31 v32 v33 v34 v35 v36 v37 v38 v39 v40 v41 v42 v43 v44 v45 v46 v50 v51 v52 v53 v54 v55 v56 v58 v59 v60 v61 v62 v63 v64 v65 v66 v67 v68 : Value, T = #[v0, v1, v2, v3, v4, v5, v6, .pointer (some ⟨E.bd, 0, none⟩), v8, v9, .pointer (some ⟨E.bv, 0, none⟩), .pointer (some ⟨E.ba, 0, none⟩), .pointer (some ⟨Wg, 0, none⟩), .pointer (some ⟨bj, 0, none⟩), .pointer (some ⟨bc, 0, none⟩), v15, v16, v17, v18, v19, v20, v21, v22, v23, v24, v25, v26, v27, v28, v29, v30, v31, v32, v33, v34, v35, v36, v37, v38, v39, v40, v41, v42, v43, v44, v45, v46, .slice (some ⟨E.bp, E.op, none⟩) k E.cp, .int .i64 ((k : Nat) : Int), .int .i64 ((j : Nat) : Int), v50, v51, v52, v53, v54, v55, v56, .bool (decide (((E.px j : Nat) : Int) = ((j : Nat) : Int))), v58, v59, v60, v61, v62, v63, v64, v65, v66, v67, v68]

def cFst : Code → Code | .seq x _ => x | c => c
def cSnd : Code → Code | .seq _ y => y | c => c
def cIn : Code → Code | .block _ c => c | .loop c => c | c => c
def cOps : Code → Array Oper | .region _ o _ => o | _ => #[]
def cThen : Code → Code | .cond _ x _ => x | c => c
noncomputable def rTail : Code := cSnd (cSnd (cSnd (cSnd (cSnd (cSnd (cSnd (cSnd (Tryz.f52.body.getD .skip))))))))
noncomputable def rLoop : Code := cIn (cIn (cSnd (cFst rTail)))
noncomputable def rBlk : Code := cIn (cFst (cSnd (cSnd rLoop)))
noncomputable def q13 : {x : Array Oper // x = cOps (cFst (cFst rTail))} := ⟨_, by (simp only [rTail, cFst, cSnd, cOps, Tryz.f52, Option.getD_some]; rfl)⟩
noncomputable def o13 : Array Oper := q13.1
noncomputable def q14 : {x : Array Oper // x = cOps (cFst rLoop)} := ⟨_, by (simp only [rLoop, rTail, cFst, cSnd, cIn, cOps, Tryz.f52, Option.getD_some]; rfl)⟩
noncomputable def o14 : Array Oper := q14.1
noncomputable def q15 : {x : Array Oper // x = cOps (cFst rBlk)} := ⟨_, by (simp only [rBlk, rLoop, rTail, cFst, cSnd, cIn, cOps, Tryz.f52, Option.getD_some]; rfl)⟩
noncomputable def o15 : Array Oper := q15.1
noncomputable def q16 : {x : Array Oper // x = cOps (cFst (cFst (cSnd rBlk)))} := ⟨_, by (simp only [rBlk, rLoop, rTail, cFst, cSnd, cIn, cOps, Tryz.f52, Option.getD_some]; rfl)⟩
noncomputable def o16 : Array Oper := q16.1
noncomputable def q17 : {x : Array Oper // x = cOps (cFst (cThen (cSnd (cFst (cSnd rBlk)))))} := ⟨_, by (simp only [rBlk, rLoop, rTail, cFst, cSnd, cIn, cOps, cThen, Tryz.f52, Option.getD_some]; rfl)⟩
noncomputable def o17 : Array Oper := q17.1
noncomputable def q18 : {x : Array Oper // x = cOps (cFst (cSnd (cSnd rBlk)))} := ⟨_, by (simp only [rBlk, rLoop, rTail, cFst, cSnd, cIn, cOps, Tryz.f52, Option.getD_some]; rfl)⟩
noncomputable def o18 : Array Oper := q18.1
noncomputable def q19 : {x : Array Oper // x = cOps (cSnd (cSnd (cSnd rBlk)))} := ⟨_, by (simp only [rBlk, rLoop, rTail, cFst, cSnd, cIn, cOps, Tryz.f52, Option.getD_some]; rfl)⟩
noncomputable def o19 : Array Oper := q19.1
noncomputable def q20 : {x : Array Oper // x = cOps (cSnd (cSnd (cSnd rLoop)))} := ⟨_, by (simp only [rLoop, rTail, cFst, cSnd, cIn, cOps, Tryz.f52, Option.getD_some]; rfl)⟩
noncomputable def o20 : Array Oper := q20.1
noncomputable def q21 : {x : Array Oper // x = cOps (cFst (cSnd rTail))} := ⟨_, by (simp only [rTail, cFst, cSnd, cOps, Tryz.f52, Option.getD_some]; rfl)⟩
noncomputable def o21 : Array Oper := q21.1
noncomputable def q22 : {x : Array Oper // x = cOps (cFst (cSnd (cSnd rTail)))} := ⟨_, by (simp only [rTail, cFst, cSnd, cOps, Tryz.f52, Option.getD_some]; rfl)⟩
noncomputable def o22 : Array Oper := q22.1
noncomputable def rEnd2 : Code := .seq (.region 22 o22 false) .ret
noncomputable def rEnd : Code := .seq (.region 21 o21 false) rEnd2
noncomputable def rC57 : Code := .cond (.tmp 57) (.seq (.region 17 o17 true) (.exit 3)) .skip
noncomputable def rGo : Code := .seq (.region 18 o18 false) (.region 19 o19 false)
theorem rTail_eq : rTail = .seq (.seq (.region 13 o13 false) (.block 2 (.loop rLoop))) rEnd := by kernel_rfl
theorem rLoop_eq : rLoop = .seq (.region 14 o14 false) (.seq (.cond (.tmp 50) .skip (.exit 2)) (.seq (.block 3 rBlk) (.region 20 o20 false))) := by kernel_rfl
theorem rBlk_eq : rBlk = .seq (.region 15 o15 false) (.seq (.seq (.region 16 o16 false) rC57) rGo) := by kernel_rfl
theorem n14 : o14.size = 1 := by kernel_rfl
theorem n15 : o15.size = 7 := by kernel_rfl
theorem n16 : o16.size = 4 := by kernel_rfl
theorem n18 : o18.size = 1 := by kernel_rfl
theorem n19 : o19.size = 2 := by kernel_rfl
theorem n20 : o20.size = 2 := by kernel_rfl
theorem n21 : o21.size = 1 := by kernel_rfl
theorem n22 : o22.size = 2 := by kernel_rfl


section
variable [Payload] [OldG] {main : Bool} {Wg C k B L : Nat} {E : Env}

/-- Behind the join. -/
def KR (Wg C k B L : Nat) (E : Env) (cs : List Frame) (ids : List Nat) (g : Goroutine) (w : World) : Prop :=
  ∃ T s0 j ops, g = G ((base 52).at ⟨T, []⟩ (.inRegion ops [] :: [.code rEnd2])) cs ∧ TS E Wg k j T ∧ SF Wg C k B L E s0 k w ∧ ∀ x, x ∈ ids ↔ E.mis k x
theorem KR.rely {cs : List Frame} {ids : List Nat} {g : Goroutine} {w w₁ : World} (h : KR Wg C k B L E cs ids g w) (r : Ro Wg C k B (fun i => ¬ E.mis k i) w w₁) : KR Wg C k B L E cs ids g w₁ := by
  obtain ⟨T, s0, j, ops, h1, h2, h3, h4⟩ := h
  exact ⟨T, s0, j, ops, h1, h2, h3.rely r, h4⟩

/-- What is stopped at: the next Add, or Wait. -/
def StS (Wg C k B L : Nat) (E : Env) (cs : List Frame) : Nat → List Nat → Goroutine → World → Prop
  | 0, ids => AtWt Tryz.prog link.tWg Wg (KR Wg C k B L E cs) ids
  | r + 1, ids => AtAdd Tryz.prog link.tWg Wg C k B (E.mis k) (WPr C L (E.res L)) (Sp Tryz.prog link.tWg Wg C k B (E.mis k) (WPr C L (E.res L)) (KR Wg C k B L E cs) r) ids
theorem sp_iff {cs : List Frame} (r : Nat) (ids : List Nat) (g : Goroutine) (w : World) : Sp Tryz.prog link.tWg Wg C k B (E.mis k) (WPr C L (E.res L)) (KR Wg C k B L E cs) r ids g w ↔ ∃ m, Goes Tryz.prog true (Ro Wg C k B (fun i => ¬ E.mis k i)) (Dg Wg C k B (fun i => ¬ E.mis k i)) (StS Wg C k B L E cs r ids) m g w := by cases r <;> exact Iff.rfl

set_option maxRecDepth 100000 in
set_option maxHeartbeats 4000000 in
/-- The loop is over: Wait. -/
theorem s_last {cs : List Frame} : ∃ m, ∀ (T : Array Value) (w : World) (ids : List Nat) (s0 : Nat), TS E Wg k k T → SF Wg C k B L E s0 k w → (∀ x, x ∈ ids ↔ E.mis k x) →
    Goes Tryz.prog true (Ro Wg C k B (fun i => ¬ E.mis k i)) (Dg Wg C k B (fun i => ¬ E.mis k i)) (StS Wg C k B L E cs 0 ids) m (G ((base 52).at ⟨T, []⟩ (.code rLoop :: .inLoop rLoop :: .inBlock 2 :: [.code rEnd])) cs) w := by
  co_apply Exists.intro
  rintro T w ids s0 ⟨v0, v1, v2, v3, v4, v5, v6, v8, v9, v13, v14, v15, v16, v17, v18, v19, v20, v21, v22, v23, v24, v25, v26, v27, v28, v29, v30, v31, v32, v33, v34, v35, v36, v37, v38, v39, v40, v41, v42, v43, v44, v45, v46, v50, v51, v52, v53, v54, v55, v56, v57, v58, v59, v60, v61, v62, v63, v64, v65, v66, v67, v68, rfl⟩ hF hids
  have hnl : ¬ ((k : Int) < (k : Int)) := by omega
  generalize hkk : Item.inLoop rLoop :: [Item.inBlock 2, Item.code rEnd] = kk
  rw [rLoop_eq]
  (co_apply Goes.step rfl; intro _ hRq; replace hF := SF.rely hF hRq; clear hRq; rw [stepG_seq]; simp only [goes_go]; refine ⟨Terms.idle termsG _, ?_⟩)
  (co_apply Goes.step rfl; intro _ hRq; replace hF := SF.rely hF hRq; clear hRq; rw [stepG_region, n14]; simp only [goes_go, List.range, List.range.loop]; refine ⟨Terms.idle termsG _, ?_⟩; simp only [o14, q14])
  (co_apply Goes.step rfl; intro _ hRq; replace hF := SF.rely hF hRq; clear hRq
   refine goes_oper_k rfl rfl (by decide) (fun Kq hKq => ?_)
   (skip)
   go_simp
   try (unfold stored; go_simp)
   refine hKq _ _ ⟨?_, ?_⟩
   · (co_quiet termsG)
   clear hKq Kq
   try walk_nrm)
  (co_apply Goes.step rfl; intro _ hRq; replace hF := SF.rely hF hRq; clear hRq; rw [stepG_region_end]; simp only [goes_go]; refine ⟨Terms.idle termsG _, ?_⟩)
  (co_apply Goes.step rfl; intro _ hRq; replace hF := SF.rely hF hRq; clear hRq; rw [stepG_seq]; simp only [goes_go]; refine ⟨Terms.idle termsG _, ?_⟩)
  (co_apply Goes.step rfl; intro _ hRq; replace hF := SF.rely hF hRq; clear hRq)
  rw [stepG_cond (t := false) rfl]
  simp only [goes_go, Bool.false_eq_true, if_false]
  refine ⟨Terms.idle termsG _, ?_⟩
  (co_apply Goes.step rfl; intro _ hRq; replace hF := SF.rely hF hRq; clear hRq)
  subst hkk
  refine goes_exit rfl ?_
  refine ⟨Terms.idle termsG _, ?_⟩
  unfold rEnd
  (co_apply Goes.step rfl; intro _ hRq; replace hF := SF.rely hF hRq; clear hRq; rw [stepG_seq]; simp only [goes_go]; refine ⟨Terms.idle termsG _, ?_⟩)
  (co_apply Goes.step rfl; intro _ hRq; replace hF := SF.rely hF hRq; clear hRq; rw [stepG_region, n21]; simp only [goes_go, List.range, List.range.loop]; refine ⟨Terms.idle termsG _, ?_⟩; simp only [o21, q21])
  (co_apply Goes.step rfl; intro _ hRq; replace hF := SF.rely hF hRq; clear hRq)
  refine goes_call rfl rfl (by decide) rfl wgLib.f_wait (nm_wait link) rfl ⟨Terms.idle termsG _, ?_⟩
  walk_nrmf waitFn
  refine Goes.stop (n := 0) fun w₁ hR => ?_
  replace hF := hF.rely hR
  clear hR
  refine ⟨rfl, _, waitW wgLib, _, s0, k, _, rfl, ?_, hF, hids⟩
  walk_nrm
  exact ⟨_, _, _, _, _, _, _, _, _, _, _, _, _, _, _, _, _, _, _, _, _, _, _, _, _, _, _, _, _, _, _, _, _, _, _, _, _, _, _, _, _, _, _, _, _, _, _, _, _, _, _, _, _, _, _, _, _, _, _, _, _, _, rfl⟩

set_option maxRecDepth 100000 in
set_option maxHeartbeats 4000000 in
/-- A round, as far as its test. -/
theorem s_open (hE : EnvOk E k L) {cs : List Frame} {j : Nat} (hj : j < k) {c : Col} (hcj : E.cs[j]? = some c) (m : Nat) : ∃ n, ∀ (T : Array Value) (w : World) (s0 : Nat) (Stop : Goroutine → World → Prop), TS E Wg k j T → SF Wg C k B L E s0 j w →
    (∀ T' w' s1 bj bc, TS2 E Wg k j bj bc T' → SG Wg C k B L E s1 j bj bc (.int .i64 ((j : Nat) : Int)) (.int .i64 ((E.px j : Nat) : Int)) (.slice c.bs L c.co) w' →
      Goes Tryz.prog true (Ro Wg C k B (fun i => ¬ E.mis k i)) (Dg Wg C k B (fun i => ¬ E.mis k i)) Stop m (G ((base 52).at ⟨T', []⟩ (.code rC57 :: .code rGo :: .inBlock 3 :: .code (.region 20 o20 false) :: .inLoop rLoop :: .inBlock 2 :: [.code rEnd])) cs) w') →
    Goes Tryz.prog true (Ro Wg C k B (fun i => ¬ E.mis k i)) (Dg Wg C k B (fun i => ¬ E.mis k i)) Stop n (G ((base 52).at ⟨T, []⟩ (.code rLoop :: .inLoop rLoop :: .inBlock 2 :: [.code rEnd])) cs) w := by
  co_apply Exists.intro
  rintro T w s0 Stop ⟨v0, v1, v2, v3, v4, v5, v6, v8, v9, v13, v14, v15, v16, v17, v18, v19, v20, v21, v22, v23, v24, v25, v26, v27, v28, v29, v30, v31, v32, v33, v34, v35, v36, v37, v38, v39, v40, v41, v42, v43, v44, v45, v46, v50, v51, v52, v53, v54, v55, v56, v57, v58, v59, v60, v61, v62, v63, v64, v65, v66, v67, v68, rfl⟩ hF hcont
  replace hF := hF.base
  generalize hs1 : w.heap.size = s1 at hF
  clear hs1 s0
  have hjI : (j : Int) < (k : Int) := by omega
  have hk1 := hE.k1
  have hpx := hE.pb j hj
  generalize Item.inLoop rLoop :: [Item.inBlock 2, Item.code rEnd] = kk at hcont ⊢
  rw [rLoop_eq]
  (co_apply Goes.step rfl; intro _ hRq; replace hF := SF.rely hF hRq; clear hRq; rw [stepG_seq]; simp only [goes_go]; refine ⟨Terms.idle termsG _, ?_⟩)
  (co_apply Goes.step rfl; intro _ hRq; replace hF := SF.rely hF hRq; clear hRq; rw [stepG_region, n14]; simp only [goes_go, List.range, List.range.loop]; refine ⟨Terms.idle termsG _, ?_⟩; simp only [o14, q14])
  (co_apply Goes.step rfl; intro _ hRq; replace hF := SF.rely hF hRq; clear hRq
   refine goes_oper_k rfl rfl (by decide) (fun Kq hKq => ?_)
   (skip)
   go_simp
   try (unfold stored; go_simp)
   refine hKq _ _ ⟨?_, ?_⟩
   · (co_quiet termsG)
   clear hKq Kq
   try walk_nrm)
  (co_apply Goes.step rfl; intro _ hRq; replace hF := SF.rely hF hRq; clear hRq; rw [stepG_region_end]; simp only [goes_go]; refine ⟨Terms.idle termsG _, ?_⟩)
  (co_apply Goes.step rfl; intro _ hRq; replace hF := SF.rely hF hRq; clear hRq; rw [stepG_seq]; simp only [goes_go]; refine ⟨Terms.idle termsG _, ?_⟩)
  (co_apply Goes.step rfl; intro _ hRq; replace hF := SF.rely hF hRq; clear hRq)
  rw [stepG_cond (t := true) rfl]
  simp only [goes_go, if_true]
  refine ⟨Terms.idle termsG _, ?_⟩
  (co_apply Goes.step rfl; intro _ hRq; replace hF := SF.rely hF hRq; clear hRq; rw [stepG_skip]; simp only [goes_go]; refine ⟨Terms.idle termsG _, ?_⟩)
  (co_apply Goes.step rfl; intro _ hRq; replace hF := SF.rely hF hRq; clear hRq; rw [stepG_seq]; simp only [goes_go]; refine ⟨Terms.idle termsG _, ?_⟩)
  (co_apply Goes.step rfl; intro _ hRq; replace hF := SF.rely hF hRq; clear hRq; rw [stepG_block]; simp only [goes_go]; refine ⟨Terms.idle termsG _, ?_⟩)
  rw [rBlk_eq]
  (co_apply Goes.step rfl; intro _ hRq; replace hF := SF.rely hF hRq; clear hRq; rw [stepG_seq]; simp only [goes_go]; refine ⟨Terms.idle termsG _, ?_⟩)
  (co_apply Goes.step rfl; intro _ hRq; replace hF := SF.rely hF hRq; clear hRq; rw [stepG_region, n15]; simp only [goes_go, List.range, List.range.loop]; refine ⟨Terms.idle termsG _, ?_⟩; simp only [o15, q15])
  (co_apply Goes.step rfl; intro _ hRq; replace hF := SF.rely hF hRq; clear hRq
   refine goes_oper_k rfl rfl (by decide) (fun Kq hKq => ?_)
   (skip)
   go_simp
   try (unfold stored; go_simp)
   refine hKq _ _ ⟨?_, ?_⟩
   · (co_quiet termsG)
   clear hKq Kq
   try walk_nrm)
  (co_apply Goes.step rfl; intro _ hRq; replace hF := SF.rely hF hRq; clear hRq
   refine goes_oper_k rfl rfl (by decide) (fun Kq hKq => ?_)
   (skip)
   go_simp
   try (unfold stored; go_simp)
   refine hKq _ _ ⟨?_, ?_⟩
   · (co_still termsG)
   clear hKq Kq
   try walk_nrm)
  (co_apply Goes.step rfl; intro _ hRq; replace hF := SF.rely hF hRq; clear hRq)
  refine goes_oper_k rfl rfl (by decide) (fun K hK => ?_)
  have h0 := hF.low.hp0 j hj
  have h1 := hF.low.hp1 j c hcj
  go_simp
  refine hK _ _ ⟨?_, ?_⟩
  · refine dg_read (b := E.bp) (.inr hF.low.lp) (by have := hF.low.lp.1; have := hF.bs.hB; omega) ?_
    intro e he
    have hm := mem_listed he
    simp [go_sem, *] at hm
    rcases hm with rfl | rfl <;> exact ⟨_, rfl, rfl⟩
  clear hK K h0 h1
  try walk_nrm
  (co_apply Goes.step rfl; intro _ hRq; replace hF := SF.rely hF hRq; clear hRq
   refine goes_oper_k rfl rfl (by decide) (fun Kq hKq => ?_)
   (skip)
   go_simp
   try (unfold stored; go_simp)
   refine hKq _ _ ⟨?_, ?_⟩
   · (rw [listed_nil (by simp [go_sem, *])]; exact dg_alloc hF.bs.hC _ rfl)
   clear hKq Kq
   try walk_nrm)
  replace hF := hF.alloc1 (.int .i64 0)
  generalize hN : Array.size (World.heap _) = bj at hF ⊢
  clear hN
  (co_apply Goes.step rfl; intro _ hRq; replace hF := SJ.rely hF hRq; clear hRq
   refine goes_oper_k rfl rfl (by decide) (fun Kq hKq => ?_)
   (skip)
   go_simp
   try (unfold stored; go_simp)
   refine hKq _ _ ⟨?_, ?_⟩
   · (rw [listed_nil (by simp [go_sem, *])]; exact dg_alloc hF.sf.bs.hC _ rfl)
   clear hKq Kq
   try walk_nrm)
  replace hF := hF.alloc2 (.int .i64 0) (.slice none 0 0)
  generalize hN : Array.size (World.heap _) = bc at hF ⊢
  clear hN
  (co_apply Goes.step rfl; intro _ hRq; replace hF := SG.rely hF hRq; clear hRq
   refine goes_oper_k rfl rfl (by decide) (fun Kq hKq => ?_)
   (have h0 := hF.cj.1; have h1 := hF.cj.2)
   go_simp
   try (unfold stored; go_simp)
   refine hKq _ _ ⟨?_, ?_⟩
   · (refine dg_set hF.mj hF.jC (hF.sf.bs.lt hF.mj) ?_; co_evs (exact ⟨_, _, rfl, rfl⟩))
   clear hKq Kq
   try walk_nrm)
  clear h0 h1
  replace hF := hF.setj (.int .i64 ((j : Nat) : Int))
  (co_apply Goes.step rfl; intro _ hRq; replace hF := SG.rely hF hRq; clear hRq)
  refine goes_oper_k rfl rfl (by decide) (fun K hK => ?_)
  have h0 := hF.cc.1.1
  have h1 := hF.cc.1.2
  have h2 := hF.cc.2.1
  have h3 := hF.cc.2.2
  go_simp
  refine hK _ _ ⟨?_, ?_⟩
  · refine dg_set2 hF.mc hF.cC (hF.sf.bs.lt hF.mc) ?_
    intro e he
    have hm := mem_listed he
    simp [go_sem, *] at hm
    rcases hm with rfl | rfl <;> exact ⟨_, _, rfl, rfl⟩
  clear hK K h0 h1 h2 h3
  try walk_nrm
  replace hF := hF.setc (.int .i64 ((E.px j : Nat) : Int)) (.slice c.bs L c.co)
  (co_apply Goes.step rfl; intro _ hRq; replace hF := SG.rely hF hRq; clear hRq; rw [stepG_region_end]; simp only [goes_go]; refine ⟨Terms.idle termsG _, ?_⟩)
  (co_apply Goes.step rfl; intro _ hRq; replace hF := SG.rely hF hRq; clear hRq; rw [stepG_seq]; simp only [goes_go]; refine ⟨Terms.idle termsG _, ?_⟩)
  (co_apply Goes.step rfl; intro _ hRq; replace hF := SG.rely hF hRq; clear hRq; rw [stepG_seq]; simp only [goes_go]; refine ⟨Terms.idle termsG _, ?_⟩)
  (co_apply Goes.step rfl; intro _ hRq; replace hF := SG.rely hF hRq; clear hRq; rw [stepG_region, n16]; simp only [goes_go, List.range, List.range.loop]; refine ⟨Terms.idle termsG _, ?_⟩; simp only [o16, q16])
  (co_apply Goes.step rfl; intro _ hRq; replace hF := SG.rely hF hRq; clear hRq
   refine goes_oper_k rfl rfl (by decide) (fun Kq hKq => ?_)
   (skip)
   go_simp
   try (unfold stored; go_simp)
   refine hKq _ _ ⟨?_, ?_⟩
   · (co_still termsG)
   clear hKq Kq
   try walk_nrm)
  (co_apply Goes.step rfl; intro _ hRq; replace hF := SG.rely hF hRq; clear hRq
   refine goes_oper_k rfl rfl (by decide) (fun Kq hKq => ?_)
   (have h0 := hF.cc.1.1)
   go_simp
   try (unfold stored; go_simp)
   refine hKq _ _ ⟨?_, ?_⟩
   · (refine dg_read (.inl hF.mc) (hF.sf.bs.lt hF.mc) ?_; co_evs (exact ⟨_, rfl, rfl⟩))
   clear hKq Kq
   try walk_nrm)
  clear h0
  (co_apply Goes.step rfl; intro _ hRq; replace hF := SG.rely hF hRq; clear hRq
   refine goes_oper_k rfl rfl (by decide) (fun Kq hKq => ?_)
   (have h0 := hF.cj.1)
   go_simp
   try (unfold stored; go_simp)
   refine hKq _ _ ⟨?_, ?_⟩
   · (refine dg_read (.inl hF.mj) (hF.sf.bs.lt hF.mj) ?_; co_evs (exact ⟨_, rfl, rfl⟩))
   clear hKq Kq
   try walk_nrm)
  clear h0
  (co_apply Goes.step rfl; intro _ hRq; replace hF := SG.rely hF hRq; clear hRq
   refine goes_oper_k rfl rfl (by decide) (fun Kq hKq => ?_)
   (skip)
   go_simp
   try (unfold stored; go_simp)
   refine hKq _ _ ⟨?_, ?_⟩
   · (co_quiet termsG)
   clear hKq Kq
   try walk_nrm)
  (co_apply Goes.step rfl; intro _ hRq; replace hF := SG.rely hF hRq; clear hRq; rw [stepG_region_end]; simp only [goes_go]; refine ⟨Terms.idle termsG _, ?_⟩)
  exact hcont _ _ _ _ _ ⟨_, _, _, _, _, _, _, _, _, _, _, _, _, _, _, _, _, _, _, _, _, _, _, _, _, _, _, _, _, _, _, _, _, _, _, _, _, _, _, _, _, _, _, _, _, _, _, _, _, _, _, _, _, _, _, _, _, _, _, rfl⟩ hF
end
end Go.Proofs.YtlghjjennhpjeaaGreatDoor

