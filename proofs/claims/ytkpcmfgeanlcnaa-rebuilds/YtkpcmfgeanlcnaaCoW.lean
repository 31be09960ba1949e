/-
  In company: a worker: a column that is missing is reckoned and laid into its place.
-/
import Derived.Test.YtkpcmfgeanlcnaaCoE
import Derived.Test.YtkpcmfgeanlcnaaWgT
import Derived.Test.YtkpcmfgeanlcnaaGhL
import Derived.Conc.WgWords
namespace Go.Proofs.Ytkpcmfgeanlcnaa
open Go.Conc Go.ConcN Go.RowKit Go.Gh Go.Conc.Lib Go.ConcR.Gen Go.ConcN.Gen
open Go.ConcR (Payload)

/-- Take operation number i first. -/

theorem anyX_one_k {P : Program} {main : Bool} {R : World → World → Prop} {D : World → World → Array Event → Prop} {fn : FuncId} {ops : Array Oper} {Q : Exit → Act → World → Prop} {S : World → Prop} {nf lst i k : Nat} {l : Array Bool} {a : Act} {w : World} {o : Oper}
    (hr : Region.ready .any ops l = [i]) (ho : ops[i]? = some o) (hw : Region.wanted o (yielded ops a.tmps) = true)
    (h : ∀ w₁, R w w₁ → ∀ K : Act → World → Prop, (∀ a' w', (D w₁ w' (listed P fn a o w₁) ∧ (i ≠ lst → S w') ∧ AnyX P main R D fn ops nf Q S lst k (l.setIfInBounds i true) a' w') → K a' w') → uponK o a K ((execOp a.eval o).run P w₁)) : AnyX P main R D fn ops nf Q S lst (k + 1) l a w :=
  anyX_one hr ⟨o, ho, .inl ⟨hw, fun w₁ r => h w₁ r _ fun _ _ x => x⟩⟩

section
variable [Payload] {main : Bool} {Wg C n B : Nat} {Cl : Nat → Prop}

omit [Payload] in
theorem Bs.rdb_lt {w : World} (h : Bs C B w) {b : Nat} (hb : Rdb Wg C B w b) : b < w.heap.size := hb.elim (h.lt ·) fun x => Nat.lt_of_lt_of_le x.1 h.hB
/-- To write one's own cell of the payload. -/
theorem cell_set {w : World} (hp : PayAt C n w) {i : Nat} (hi : i < n) (v : Value) : Has C i v (w.setCell ⟨C, i, none⟩ v) := by
  obtain ⟨arr, h1, h2⟩ := hp
  simp [Has, World.cell?, heap_set w h1, h2, hi]
theorem dg_cell {w : World} (hp : PayAt C n w) (hC : C < w.heap.size) {i : Nat} (hi : Cl i) (v : Value) {es : Array Event} (he : ∀ e ∈ es, ∃ wr, e = ⟨.cell ⟨C, i, none⟩, wr, false⟩) : Dg Wg C n B Cl w (w.setCell ⟨C, i, none⟩ v) es := by
  obtain ⟨arr, h1, h2⟩ := hp
  refine ⟨by rw [sz_set]; omega, rfl, rfl, fun b _ _ hb => Below.heap_setCell _ _ _ _ hb, fun j hj => ?_, fun _ => ⟨_, heap_set w h1 i v, by simpa using h2⟩, fun e he' => ?_⟩
  · simp only [World.cell?, heap_set w h1, h1]
    rw [Array.getElem?_setIfInBounds_ne (fun e : i = j => hj (e ▸ hi))]
  · obtain ⟨wr, rfl⟩ := he e he'
    exact ⟨_, wr, rfl, by rw [sz_set]; exact hC, .inr (.inr (.inl ⟨i, rfl, hi⟩))⟩

/-- What a worker has been handed: the variables answer, j, weights, data; the weights' list, its row. -/
structure Cap where
  ba : Nat
  bj : Nat
  bv : Nat
  bW : Nat
  oW : Nat
  cW : Nat
  br : Nat
  oR : Nat
  cR : Nat
  bd : Nat
  bD : Nat
  oD : Nat
  cD : Nat

structure WIn (Wg C n B : Nat) (c : Cap) (k L idx : Nat) (ws : List Nat) (cs : List Col) (w : World) : Prop where
  bs : Bs C B w
  pay : PayAt C n w
  ra : Rdb Wg C B w c.ba
  va : w.cell? ⟨c.ba, 0, none⟩ = some (.slice (some ⟨C, 0, none⟩) k k)
  rj : Rdb Wg C B w c.bj
  vj : w.cell? ⟨c.bj, 0, none⟩ = some (.int .i64 ((idx : Nat) : Int))
  rv : Rdb Wg C B w c.bv
  vv : w.cell? ⟨c.bv, 0, none⟩ = some (.slice (some ⟨c.bW, c.oW, none⟩) k c.cW)
  rW : Rdb Wg C B w c.bW
  vW : w.cell? ⟨c.bW, c.oW + idx, none⟩ = some (.slice (some ⟨c.br, c.oR, none⟩) k c.cR)
  rd : Rdb Wg C B w c.bd
  vd : w.cell? ⟨c.bd, 0, none⟩ = some (.slice (some ⟨c.bD, c.oD, none⟩) k c.cD)
  cin : CIn Wg C B c.br c.oR c.bD c.oD L ws cs w
theorem WIn.ex {w w₁ : World} {c : Cap} {k L idx : Nat} {ws : List Nat} {cs : List Col} (h : WIn Wg C n B c k L idx ws cs w) (hb : Bs C B w₁) (r : Ex Wg C n B Cl (fun _ => False) w w₁) : WIn Wg C n B c k L idx ws cs w₁ := by
  have st : ∀ {b : Nat}, Rdb Wg C B w b → ∀ o, w₁.cell? ⟨b, o, none⟩ = w.cell? ⟨b, o, none⟩ := fun hb o => by simp only [World.cell?, r.stands hb id]
  exact ⟨hb, r.pay h.pay, r.rdb h.ra, (st h.ra _).trans h.va, r.rdb h.rj, (st h.rj _).trans h.vj, r.rdb h.rv, (st h.rv _).trans h.vv, r.rdb h.rW, (st h.rW _).trans h.vW, r.rdb h.rd, (st h.rd _).trans h.vd, h.cin.ex r⟩
theorem WIn.rely {w w₁ : World} {c : Cap} {k L idx : Nat} {ws : List Nat} {cs : List Col} (h : WIn Wg C n B c k L idx ws cs w) (r : Ro Wg C n B Cl w w₁) : WIn Wg C n B c k L idx ws cs w₁ := h.ex (h.bs.rely r) r.ex

/-- What the worker leaves: a new row of bytes. -/
def WPr (C L : Nat) (res : Nat → List Nat) (idx : Nat) (v : Value) (w : World) : Prop := ∃ N, v = .slice (some ⟨N, 0, none⟩) L L ∧ Mine w N ∧ N ≠ C ∧ w.heap[N]? = some (.cells (bytesA (res idx)) 5)
theorem WPr.rely {w w₁ : World} {L idx : Nat} {res : Nat → List Nat} {v : Value} (h : WPr C L res idx v w) (r : Ro Wg C n B Cl w w₁) : WPr C L res idx v w₁ := by
  obtain ⟨N, h1, h2, h3, h4⟩ := h
  exact ⟨N, h1, (r.mineAt _).2 h2, h3, (r.mine _ h2).trans h4⟩

/-- The worker has written its cell. -/
structure WD1 (C L : Nat) (res : Nat → List Nat) (idx : Nat) (v : Value) (w : World) : Prop where
  wp : WPr C L res idx v w
  has : Has C idx v w
theorem WD1.rely {w w₁ : World} {L idx : Nat} {res : Nat → List Nat} {v : Value} (h : WD1 C L res idx v w) (r : Ro Wg C n B (· = idx) w w₁) : WD1 C L res idx v w₁ := ⟨h.wp.rely r, (r.cell idx rfl).trans h.has⟩

def w0 : Frame := baseD 39
noncomputable def wbot : Frame := { (default : Frame) with fn := Try.prog.funcs.size, defers := [], mode := .panicking [goexitEntry] }
noncomputable def wbody : Code := Try.f39.body.getD .skip
def caught (Wg : Nat) (c : Cap) : Array Value := #[.pointer (some ⟨Wg, 0, none⟩), .pointer (some ⟨c.bv, 0, none⟩), .pointer (some ⟨c.bj, 0, none⟩), .pointer (some ⟨c.bd, 0, none⟩), .pointer (some ⟨c.ba, 0, none⟩)]
def wcall (Wg : Nat) (c : Cap) : Deferred := { target := .fn (.func 39) (caught Wg c), args := #[] }

omit [Payload] in
theorem w_born (c : Cap) (w : World) : stepG Try.prog false (born Try.prog (wcall Wg c)) w = .go (G (w0.at ⟨caught Wg c ++ Array.replicate 9 undef, []⟩ [.code wbody]) [wbot]) w #[] := by
  simp [born, wcall, caught, stepG, unwind, callDeferred, invoke, callFunc, Try.func39, Try.f39, seen, GStep.after, G, Frame.enter, Frame.at, w0, baseD, wbot, wbody]

omit [Payload] in
theorem w_quits (T : Array Value) : QuitsD Try.prog 2 0 (G { w0.at ⟨T, []⟩ [] with mode := .returning } [wbot]) := by
  refine QuitsD.ctl (g' := G wbot []) rfl (fun w => ?_) ?_
  · simp [G, stepG, unwind, doReturn, results, Frame.at, w0, baseD, wbot, Try.func39, Try.f39, seen, GStep.after, goexitEntry]
  refine QuitsD.ctl (g' := { G wbot [] with status := .finished }) rfl (fun w => ?_) ⟨rfl, rfl⟩
  simp [G, stepG, unwind, wbot, goexitEntry, Frame.catches]
  rfl

set_option maxRecDepth 100000 in
set_option maxHeartbeats 4000000 in
theorem works (k L : Nat) (hk0 : 0 < k) (hk : k ≤ 128) (hL : L ≤ 140737488355328) (idx : Nat) (hidx : idx < k) : ∃ m, ∀ (w : World) (c : Cap) (ws : List Nat) (cs : List Col) (res : Nat → List Nat), LenIs ws k → cs.length = k → (∀ x ∈ ws, x < 256) → (∀ c ∈ cs, LenIs c.ys L ∧ ∀ y ∈ c.ys, y < 256) →
    res idx = comb (zsOf ws cs) (List.replicate L 0) → WIn Wg C k B c k L idx ws cs w → Wk Try.prog link.tWg Wg C k B (WPr C L res) idx m (born Try.prog (wcall Wg c)) w := by
  obtain ⟨q, hq⟩ := combine_c (main := false) (Wg := Wg) (C := C) (n := k) (B := B) (Cl := (· = idx)) k L hk0 hk hL
  refine ⟨?m, fun w c ws cs res hlw hlc hws hcs hres hF => ?_⟩
  case m => exact (3 + (10 * (q + 3) + 1 + 1)) + 1 + 1 + 1 + 1 + 1
  have hiI : (idx : Int) < (k : Int) := by omega
  have T := termsG (Wg := Wg) (C := C) (n := k) (B := B) (Cl := (· = idx))
  unfold Wk
  refine Goes.step rfl fun w₁ h₁ => ?_
  replace hF := hF.rely h₁
  clear h₁
  rw [w_born]
  refine ⟨T.idle _, ?_⟩
  simp only [caught, wbody, Try.f39, Option.getD_some, Array.replicate_succ, Array.replicate_zero, List.push_toArray, List.append_toArray, List.nil_append, List.cons_append]
  refine Goes.step rfl fun w₁ h₁ => ?_
  replace hF := hF.rely h₁
  clear h₁
  rw [stepG_seq]
  refine ⟨T.idle _, ?_⟩
  refine Goes.step rfl fun w₁ h₁ => ?_
  replace hF := hF.rely h₁
  clear h₁
  rw [stepG_region]
  refine ⟨T.idle _, ?_⟩
  simp only [List.size_toArray, List.length_cons, List.length_nil, Nat.zero_add, List.range, List.range.loop]
  refine Goes.step rfl fun w₁ h₁ => ?_
  replace hF := hF.rely h₁
  clear h₁
  rw [stepG_defer rfl rfl (by decide) rfl]
  refine ⟨T.idle _, ?_⟩
  walk_nrm
  refine Goes.step rfl fun w₁ h₁ => ?_
  replace hF := hF.rely h₁
  clear h₁
  rw [stepG_region_end]
  refine ⟨T.idle _, ?_⟩
  refine wpC_goes (m := 3) (Q := fun e a' w' => e = .normal ∧ a'.defers = [dcall 40 #[.pointer (some ⟨Wg, 0, none⟩)]] ∧ ∃ v, WD1 C L res idx v w') (wpC_region_any T drawG (S := WIn Wg C k B c k L idx ws cs) (lst := 9) (nf := q) (by kernel_rfl) (fun w₁ h₁ => ?_)) rfl (by decide) ?_
  · replace hF : WIn Wg C k B c k L idx ws cs { w₁ with drawn := w₁.drawn + 1 } := by
      have := hF.rely h₁
      exact ⟨⟨this.bs.tg, this.bs.hC, this.bs.hB, this.bs.ow⟩, this.pay, this.ra, this.va, this.rj, this.vj, this.rv, this.vv, this.rW, this.vW, this.rd, this.vd, ⟨this.cin.rw, this.cin.lw, this.cin.rc, this.cin.lc, this.cin.hw, this.cin.hc, this.cin.hcol⟩⟩
    clear h₁
    have hSR : ∀ x y, WIn Wg C k B c k L idx ws cs x → Ro Wg C k B (· = idx) x y → WIn Wg C k B c k L idx ws cs y := fun _ _ h r => h.rely r
    have hQR : ∀ (a : Act) (x y : World), (Exit.normal = .normal ∧ a.defers = [dcall 40 #[.pointer (some ⟨Wg, 0, none⟩)]] ∧ ∃ v, WD1 C L res idx v x) → Ro Wg C k B (· = idx) x y → (Exit.normal = .normal ∧ a.defers = [dcall 40 #[.pointer (some ⟨Wg, 0, none⟩)]] ∧ ∃ v, WD1 C L res idx v y) := fun a x y ⟨h1, h2, v, h3⟩ r => ⟨h1, h2, v, h3.rely r⟩
    generalize { w₁ with drawn := w₁.drawn + 1 } = w2 at hF ⊢
    simp only [List.size_toArray, List.length_cons, List.length_nil, Nat.reduceAdd, Nat.zero_add]
    (co_applyP anyX_take T hSR hQR (i := 0) rfl (by kernel_rfl) (by kernel_rfl) (by kernel_rfl) (by kernel_rfl) (by kernel_rfl) (.inl ⟨by rfl, fun _ hw => ⟨run_eq_of ?runq1, ?guarq1⟩⟩) hF ?restq1
     case runq1 =>
       intro Kq hKq
       (have h1 := hw.va)
       go_simp
       exact hKq
     case guarq1 =>
       (have h1 := hw.va)
       (refine dg_read hw.ra (hw.bs.rdb_lt hw.ra) ?_; co_evs (exact ⟨_, rfl, rfl⟩))
     try walk_nrm)
    (co_applyP anyX_take T hSR hQR (i := 1) rfl (by kernel_rfl) (by kernel_rfl) (by kernel_rfl) (by kernel_rfl) (by kernel_rfl) (.inl ⟨by rfl, fun _ hw => ⟨run_eq_of ?runq2, ?guarq2⟩⟩) hF ?restq2
     case runq2 =>
       intro Kq hKq
       (have h1 := hw.vj)
       go_simp
       exact hKq
     case guarq2 =>
       (have h1 := hw.vj)
       (refine dg_read hw.rj (hw.bs.rdb_lt hw.rj) ?_; co_evs (exact ⟨_, rfl, rfl⟩))
     try walk_nrm)
    (co_applyP anyX_take T hSR hQR (i := 2) rfl (by kernel_rfl) (by kernel_rfl) (by kernel_rfl) (by kernel_rfl) (by kernel_rfl) (.inl ⟨by rfl, fun _ hw => ⟨run_eq_of ?runq3, ?guarq3⟩⟩) hF ?restq3
     case runq3 =>
       intro Kq hKq
       (have h1 := hw.vv)
       go_simp
       exact hKq
     case guarq3 =>
       (have h1 := hw.vv)
       (refine dg_read hw.rv (hw.bs.rdb_lt hw.rv) ?_; co_evs (exact ⟨_, rfl, rfl⟩))
     try walk_nrm)
    (co_applyP anyX_take T hSR hQR (i := 3) rfl (by kernel_rfl) (by kernel_rfl) (by kernel_rfl) (by kernel_rfl) (by kernel_rfl) (.inl ⟨by rfl, fun _ hw => ⟨run_eq_of ?runq4, ?guarq4⟩⟩) hF ?restq4
     case runq4 =>
       intro Kq hKq
       (have h1 := hw.vj)
       go_simp
       exact hKq
     case guarq4 =>
       (have h1 := hw.vj)
       (refine dg_read hw.rj (hw.bs.rdb_lt hw.rj) ?_; co_evs (exact ⟨_, rfl, rfl⟩))
     try walk_nrm)
    (co_applyP anyX_take T hSR hQR (i := 4) rfl (by kernel_rfl) (by kernel_rfl) (by kernel_rfl) (by kernel_rfl) (by kernel_rfl) (.inl ⟨by rfl, fun _ hw => ⟨run_eq_of ?runq5, ?guarq5⟩⟩) hF ?restq5
     case runq5 =>
       intro Kq hKq
       (skip)
       go_simp
       exact hKq
     case guarq5 =>
       (skip)
       (co_still T)
     try walk_nrm)
    (co_applyP anyX_take T hSR hQR (i := 5) rfl (by kernel_rfl) (by kernel_rfl) (by kernel_rfl) (by kernel_rfl) (by kernel_rfl) (.inl ⟨by rfl, fun _ hw => ⟨run_eq_of ?runq6, ?guarq6⟩⟩) hF ?restq6
     case runq6 =>
       intro Kq hKq
       (have h1 := hw.vW)
       go_simp
       exact hKq
     case guarq6 =>
       (have h1 := hw.vW)
       (refine dg_read hw.rW (hw.bs.rdb_lt hw.rW) ?_; co_evs (exact ⟨_, rfl, rfl⟩))
     try walk_nrm)
    (co_applyP anyX_take T hSR hQR (i := 6) rfl (by kernel_rfl) (by kernel_rfl) (by kernel_rfl) (by kernel_rfl) (by kernel_rfl) (.inl ⟨by rfl, fun _ hw => ⟨run_eq_of ?runq7, ?guarq7⟩⟩) hF ?restq7
     case runq7 =>
       intro Kq hKq
       (have h1 := hw.vd)
       go_simp
       exact hKq
     case guarq7 =>
       (have h1 := hw.vd)
       (refine dg_read hw.rd (hw.bs.rdb_lt hw.rd) ?_; co_evs (exact ⟨_, rfl, rfl⟩))
     try walk_nrm)
    refine anyX_one (i := 7) (by kernel_rfl) ⟨_, rfl, .inr (.inl ⟨by rfl, _, _, _, (fun v w' => ∃ N, v = .slice (some ⟨N, 0, none⟩) L L ∧ CG Wg C k B (· = idx) w2 N (comb (zsOf ws cs) (List.replicate L 0)) w'), rfl, by walk_nrm; exact hq w2 c.br c.oR c.cR c.bD c.oD c.cD ws cs hlw hlc hws hcs hF.bs hF.cin, ?_⟩)⟩
    rintro v w' ⟨N, rfl, hg⟩
    have hN : N ≠ C := by have := hg.lo; have := hF.bs.hC; omega
    replace hF := hF.ex hg.bs hg.ex
    have hwp : WPr C L res idx (.slice (some ⟨N, 0, none⟩) L L) w' := ⟨N, rfl, hg.mn, hN, by rw [hres]; exact hg.hx⟩
    clear hg
    refine ⟨fun _ => hF, ?_⟩
    walk_nrm
    refine anyX_one_k (i := 8) (by kernel_rfl) rfl (by rfl) (fun w₁ hR K hK => ?_)
    replace hF := hF.rely hR
    replace hwp := hwp.rely hR
    clear hR
    go_simp
    refine hK _ _ ⟨?_, fun _ => hF, ?_⟩
    · co_still T
    clear hK K
    walk_nrm
    refine anyX_one_k (i := 9) (by kernel_rfl) rfl (by rfl) (fun w₁ hR K hK => ?_)
    replace hF := hF.rely hR
    replace hwp := hwp.rely hR
    clear hR
    obtain ⟨u, hu1, hu2⟩ : ∃ u, w₁.cell? ⟨C, idx, none⟩ = some u ∧ w₁.frozen? ⟨C, idx, none⟩ = false := by
      obtain ⟨arr, h1, h2⟩ := hF.pay
      exact ⟨arr[idx]'(by omega), by simp [World.cell?, h1, h2, hidx], by simp [World.frozen?, h1]⟩
    go_simp
    try (unfold stored; go_simp)
    refine hK _ _ ⟨?_, fun h => absurd rfl h, ?_⟩
    · refine dg_cell (Cl := (· = idx)) hF.pay hF.bs.hC (i := idx) rfl _ ?_
      co_evs (exact ⟨_, rfl⟩)
    clear hK K
    walk_nrm
    refine anyX_done (by kernel_rfl) ⟨rfl, rfl, .slice (some ⟨N, 0, none⟩) L L, ⟨N, rfl, ?_, hN, ?_⟩, cell_set hF.pay hidx _⟩ _
    · obtain ⟨N', e, hm, _⟩ := hwp
      cases e
      exact mine_grow (w := w₁) (w' := w₁.setCell _ _) rfl (by rw [sz_set]; omega) hm
    · obtain ⟨N', e, _, _, hh⟩ := hwp
      cases e
      exact (Below.heap_setCell _ _ _ _ hN).trans hh
  · rintro e a' w' ⟨rfl, hd, v, hk⟩
    show Goes _ _ _ _ _ 3 (G (w0.at a' []) [wbot]) w'
    refine Goes.step rfl fun w₁ h₁ => ?_
    replace hk := hk.rely h₁
    clear h₁
    rw [stepG_end]
    refine ⟨T.idle _, ?_⟩
    refine Goes.step rfl fun w₁ h₁ => ?_
    replace hk := hk.rely h₁
    clear h₁
    rw [stepG_unwind_enter hd Try.func40 (nm_done link) rfl]
    refine ⟨T.idle _, ?_⟩
    refine Goes.stop fun w₁ h₁ => ?_
    replace hk := hk.rely h₁
    clear h₁
    refine ⟨rfl, v, hk.wp, hk.has, fun W h1 h2 => ?_⟩
    have hA := @doneN _ link Try.prog wgLib NoF NoF Wg C k 0 (idx + 1) v
    have := hA (c := { w0.at ⟨a'.tmps, []⟩ [] with mode := .returning }) (cs := [wbot]) (qt := 2) rfl (w_quits a'.tmps) W ⟨h1, by simpa using h2⟩
    exact this
end
end Go.Proofs.Ytkpcmfgeanlcnaa
