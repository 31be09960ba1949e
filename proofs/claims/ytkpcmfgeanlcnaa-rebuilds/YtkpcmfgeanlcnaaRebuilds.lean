/-
  For all numbers k and n and every list of columns (each an index and a list of bytes) the call Rebuilds of the program's statements returns true, whatever the schedule, without a data race, and leaves its arguments as they were; no condition.
-/
import Derived.Test.YtkpcmfgeanlcnaaRows
import Derived.Test.YtkpcmfgeanlcnaaRmL
import Derived.Conc.LeavingOf
import Derived.WalkKit
import Derived.ProofKit
import Derived.OpenShut
import Derived.ChangeOld
import Derived.Carry
import Derived.Deep.SlicePairs
namespace Go.Proofs.Ytkpcmfgeanlcnaa.rebuilds
open Go.ChangeShapes Go.WideShapes Go.ChangeAt Go.RowKit Go.Conc Go.Deep

theorem own : ownKnob Try.prog.godebug = none := by kernel_rfl
theorem laidOut : laidOutB Try.prog = true := by kernel_rfl

section
variable {H : Type} {enc : TypeId × Value → H} {P : Program} {w : World}
theorem three {t t1 t2 : TypeId} {args : Array Value} {ds : List (DataW H)} {ps : List MemPlace} {base : Nat} {spare : Nat → Bool} {held : Bool} (h : DataW.TrodAll enc P w base spare held [t, t1, t2] args.toList ds ps) :
    ∃ v v1 v2 d d1 d2 p p1 p2, args = #[v, v1, v2] ∧ ds = [d, d1, d2] ∧ ps = p ++ (p1 ++ p2) ∧ DataW.Trod enc P w base spare held t v d p ∧ DataW.Trod enc P w base spare held t1 v1 d1 p1 ∧ DataW.Trod enc P w base spare held t2 v2 d2 p2 := by
  obtain ⟨v, vs, d, ds', p, q, hargs, rfl, rfl, hd, hrest⟩ := trodAll_cons h
  obtain ⟨v1, vs1, d1, ds1, p1, q1, rfl, rfl, rfl, hd1, hrest1⟩ := trodAll_cons hrest
  obtain ⟨v2, vs2, d2, ds2, p2, q2, rfl, rfl, rfl, hd2, hrest2⟩ := trodAll_cons hrest1
  obtain ⟨rfl, rfl, rfl⟩ := trodAll_nil hrest2
  exact ⟨v, v1, v2, d, d1, d2, p, p1, p2, by cases args; simp_all, rfl, by simp, hd, hd1, hd2⟩
theorem weights_in {e : TypeId} {d : DataW H} {x : Nat} (hx : x ∈ d.weights P e) : ∀ {l : List (DataW H)}, d ∈ l → x ∈ DataW.weightsAll P e l
  | [], h => by simp at h
  | y :: l, h => by
    unfold DataW.weightsAll
    rw [List.mem_append]
    rcases List.mem_cons.1 h with rfl | h
    · exact .inl hx
    · exact .inr (weights_in hx h)
theorem wf_u8 {n : Int} (h : (Lit.int .u8 n).wf = true) : ((n.toNat % 256 : Nat) : Int) = n := by
  obtain ⟨h1, h2⟩ := bounds_u8 h
  omega

/-- Bytes that were handed in, within something else. -/
theorem open_inner {t e : TypeId} {v : Value} {fuel base b0 : Nat} {x : DataW H × List MemPlace} (ht : P.underlying t = some (.slice e)) (he : P.underlying e = some (.int .u8)) (hc : P.cellsOf e = 1) (hb : P.bytesOf e = 1) (hb0 : b0 < w.heap.size) (hs : ∀ z ∈ x.1.weights P t, z ≤ reachBytes) (h : DataW.trod enc P w base (fun _ => true) true fuel t [v] = some x) :
    ∃ q : Option Addr × Nat × Nat × Nat × Nat × (Nat → Nat), v = .slice q.1 q.2.1 q.2.2.1 ∧ q.2.2.2.1 < w.heap.size ∧ (0 < q.2.1 → q.1 = some ⟨q.2.2.2.1, q.2.2.2.2.1, none⟩) ∧ (∀ j, j < q.2.1 → w.cell? ⟨q.2.2.2.1, q.2.2.2.2.1 + j, none⟩ = some (.int .u8 ((q.2.2.2.2.2 j : Nat) : Int))) ∧ (∀ j, q.2.2.2.2.2 j < 256) ∧ q.2.1 ≤ 140737488355328 := by
  rcases open_ints ht he hc h with ⟨hcs, _⟩ | ⟨a, len, cap, zs, hcs, _, hl, _, hz, hx, hcell, hwf⟩
  · simp only [List.cons.injEq, and_true] at hcs
    subst hcs
    exact ⟨(none, 0, 0, b0, 0, fun _ => 0), rfl, hb0, fun h => absurd h (by simp), fun j hj => absurd hj (by simp), fun _ => by simp, by simp⟩
  · simp only [List.cons.injEq, and_true] at hcs
    subst hcs hx
    simp only [if_true] at hz
    have hlen : len ≤ reachBytes := by
      have := hs ((lits (H := H) IntKind.u8 (zs.take len)).length + (lits (H := H) IntKind.u8 (zs.drop len)).length) (by simp [DataW.weights, ht, hb])
      simp only [lits, List.length_map, List.length_take, List.length_drop] at this
      omega
    have hlen' : len ≤ 140737488355328 := by unfold reachBytes at hlen; omega
    by_cases h0 : len = 0
    · subst h0
      exact ⟨(some a, 0, cap, b0, 0, fun _ => 0), rfl, hb0, fun h => absurd h (by simp), fun j hj => absurd hj (by simp), fun _ => by simp, by simp⟩
    · obtain ⟨b, off, sp⟩ := a
      have hspot : sp = none := by simpa [Addr.add] using World.cell?_spot (hcell 0 (by omega))
      subst hspot
      have hc' : ∀ j, j < len → w.cell? ⟨b, off + j, none⟩ = some (.int .u8 (((zs.getD j 0).toNat % 256 : Nat) : Int)) := fun j hj => by
        have := hcell j (by omega)
        rw [add_none] at this
        rw [this, wf_u8]
        rw [List.getD_eq_getElem?_getD, List.getElem?_eq_getElem (show j < zs.length by omega)]
        exact hwf _ (List.getElem_mem _)
      exact ⟨(some ⟨b, off, none⟩, len, cap, b, off, fun j => (zs.getD j 0).toNat % 256), rfl, cell_lt (hc' 0 (by omega)), fun _ => rfl, hc', fun j => Nat.mod_lt _ (by omega), hlen'⟩

/-- Columns that were handed in. -/
theorem open_cols {t e : TypeId} {f0 f1 : Field} {u : TypeId} {v : Value} {d : DataW H} {p : List MemPlace} {ts : List TypeId} {ds : List (DataW H)} {j base : Nat} (ht : P.underlying t = some (.slice e)) (he : P.underlying e = some (.struct #[f0, f1])) (ce : P.cellsOf e = 2) (be : P.bytesOf e = 32) (o0 : f0.offset = 0) (o1 : f1.offset = 1) (c0 : P.cellsOf f0.type = 1) (c1 : P.cellsOf f1.type = 1)
    (h0 : P.underlying f0.type = some (.int .i64)) (h1 : P.underlying f1.type = some (.slice u)) (hu : P.underlying u = some (.int .u8)) (cu : P.cellsOf u = 1) (bu : P.bytesOf u = 1)
    (hsz : (DataW.weightsEach P ts ds).all (· ≤ reachBytes) = true) (hj : ts[j]? = some t) (hd : ds[j]? = some d) (hok : Value.okWide P w .any base t v) (h : DataW.Trod enc P w 0 (fun _ => true) true t v d p) :
    ∃ (bo : Option Addr) (m cap b o : Nat) (ix : Nat → Int) (db : Nat → Option Addr) (dl dc bd od : Nat → Nat) (yv : Nat → Nat → Nat), v = .slice bo m cap ∧ Cols w bo m cap b o ix db dl dc bd od yv := by
  obtain ⟨a0, len0, cap0, rfl⟩ := okWide_slice ht hok
  obtain ⟨fuel, hf⟩ := h
  rcases open_slice_pairs ht he ce o0 o1 c0 c1 hf with ⟨hcs, _⟩ | ⟨a, len, cap, m, n, V0, V1, D0, D1, P0, P1, hcs, _, hl, hm, hmm, hx, hall⟩
  · simp [Value.cells] at hcs
    obtain ⟨rfl, rfl, rfl⟩ := hcs
    exact ⟨none, 0, 0, 0, 0, fun _ => 0, fun _ => none, fun _ => 0, fun _ => 0, fun _ => 0, fun _ => 0, fun _ _ => 0, rfl, by omega, by omega, fun h => absurd h (by omega), fun i h => absurd h (by omega), fun i h => absurd h (by omega), fun i j h => absurd h (by omega), fun _ _ => by omega, fun i h => absurd h (by omega)⟩
  · simp [Value.cells] at hcs
    obtain ⟨rfl, rfl, rfl⟩ := hcs
    simp only [if_true] at hmm
    subst hmm
    simp only [Prod.mk.injEq] at hx
    obtain ⟨rfl, _⟩ := hx
    have hreach := sized_slice hsz hj hd ht
    rw [be] at hreach
    simp only [List.length_map, List.length_range, reachBytes] at hreach
    by_cases hl0 : len0 = 0
    · subst hl0
      exact ⟨some a, 0, m, 0, 0, fun _ => 0, fun _ => none, fun _ => 0, fun _ => 0, fun _ => 0, fun _ => 0, fun _ _ => 0, rfl, by omega, by omega, fun h => absurd h (by omega), fun i h => absurd h (by omega), fun i h => absurd h (by omega), fun i j h => absurd h (by omega), fun _ _ => by omega, fun i h => absurd h (by omega)⟩
    · obtain ⟨b, off, sp⟩ := a
      have hspot : sp = none := by simpa [Addr.add] using World.cell?_spot (hall 0 (by omega)).1
      subst hspot
      have hb0 : b < w.heap.size := by
        have := (hall 0 (by omega)).1
        rw [add_none] at this
        exact cell_lt this
      have hall2 : ∀ i, i < len0 → ∃ q : Int × Option Addr × Nat × Nat × Nat × Nat × (Nat → Nat), V0 i = .int .i64 q.1 ∧ V1 i = .slice q.2.1 q.2.2.1 q.2.2.2.1 ∧ q.2.2.2.2.1 < w.heap.size ∧ (0 < q.2.2.1 → q.2.1 = some ⟨q.2.2.2.2.1, q.2.2.2.2.2.1, none⟩) ∧ (∀ j, j < q.2.2.1 → w.cell? ⟨q.2.2.2.2.1, q.2.2.2.2.2.1 + j, none⟩ = some (.int .u8 ((q.2.2.2.2.2.2 j : Nat) : Int))) ∧ (∀ j, q.2.2.2.2.2.2 j < 256) ∧ q.2.2.1 ≤ 140737488355328 := fun i hi => by
        obtain ⟨_, _, g0, g1⟩ := hall i (by omega)
        obtain ⟨z, hz, _, _⟩ := DataW.trod_int h0 g0
        simp only [List.cons.injEq, and_true] at hz
        obtain ⟨q, hq⟩ := open_inner (b0 := b) h1 hu cu bu hb0 (fun x hx => by
          have hmem := DataW.weights_mem_each (P := P) hj hd x (by
            simp only [DataW.weights, ht, List.mem_cons, List.mem_append]
            refine .inr (.inl (weights_in (d := .agg [D0 i, D1 i]) ?_ (List.mem_map.2 ⟨i, by simpa using hi, rfl⟩)))
            simp only [DataW.weights, he, List.map_cons, List.map_nil, DataW.weightsEach, List.mem_append]
            exact .inr (.inl hx))
          have := List.all_eq_true.1 hsz _ hmem
          simpa using this) g1
        exact ⟨(z, q), hz, hq⟩
      obtain ⟨q, hq⟩ := choose_lt hall2
      refine ⟨some ⟨b, off, none⟩, len0, m, b, off, fun i => (q i).1, fun i => (q i).2.1, fun i => (q i).2.2.1, fun i => (q i).2.2.2.1, fun i => (q i).2.2.2.2.1, fun i => (q i).2.2.2.2.2.1, fun i j => (q i).2.2.2.2.2.2 j % 256, rfl, hl, by omega, fun _ => ⟨rfl, hb0, fun i hi => ?_, fun i hi => ?_⟩, fun i hi => (hq i hi).2.2.1, fun i hi => (hq i hi).2.2.2.1, fun i j hi hj => ?_, fun i j => Nat.mod_lt _ (by omega), fun i hi => (hq i hi).2.2.2.2.2.2⟩
      · have := (hall i (by omega)).1
        rw [add_none, (hq i hi).1] at this
        exact this
      · have := (hall i (by omega)).2.1
        rw [add_none, (hq i hi).2.1, ← Nat.add_assoc] at this
        exact this
      · rw [Nat.mod_eq_of_lt ((hq i hi).2.2.2.2.2.1 j)]
        exact (hq i hi).2.2.2.2.1 j hj
end

set_option maxRecDepth 100000 in
theorem lifted (os : Os) (started : os.Started) (H : Type) (enc : TypeId × Value → H) :
    ReturnsInLeavingWide {} Try.checked os 5 .any (Rows.rebuildsSpec.pre6 enc Try.prog Try.f5 Rows.rebuildsRow.domain false) (Rows.rebuildsSpec.post enc Try.prog Try.f5 false true false false) := by
  refine returnsInLeavingWide_of_change_sized (C := Try.checked) own started Try.func5
    (ChangeSpec.witness6 (enc := enc) (C := Try.checked) false ⟨#[], #[.int .i64 0, .int .i64 0, .slice none 0 0], []⟩ 8 (by kernel_rfl) (by kernel_rfl) (by kernel_rfl) (by kernel_rfl)) ?_
  intro W base args ds gs before hval0 hW _ hsz0 _
  have hsz : (DataW.weightsEach Try.prog (Try.f5.params.toList ++ Rows.rebuildsSpec.plain.varTypes Try.prog) (ds ++ gs)).all (· ≤ reachBytes) = true := hsz0
  clear hsz0
  have hval : ∀ (j : Nat) t v, Try.f5.params[j]? = some t → args[j]? = some v → Value.okWide Try.prog W .any base t v := hval0
  have hW' := hW
  obtain ⟨p, q, hA0, hV, rfl, _, _⟩ := hW
  have hA : DataW.TrodAll enc Try.prog W 0 (fun _ => true) true Try.f5.params.toList args.toList ds p := hA0
  rw [Try.params5] at hA hval hsz
  obtain ⟨v0, v1, v2, d0, d1, d2, p0, p1, p2, rfl, rfl, rfl, h0, h1, h2⟩ := three hA
  obtain ⟨rfl, rfl⟩ := trodVars_none hV
  obtain ⟨a0, rfl, rfl, rfl, w0⟩ := open_int Try.underlying3 (hval 0 3 v0 rfl rfl) h0
  obtain ⟨a1, rfl, rfl, rfl, w1⟩ := open_int Try.underlying3 (hval 1 3 v1 rfl rfl) h1
  clear hA0 hval0
  simp only [List.append_nil] at hW'
  have hlt : ∀ x ∈ ([] : List MemPlace) ++ ([] ++ p2), x.block < W.heap.size := fun x hx => by simpa using hW'.lt x hx
  have hlt2 : ∀ x ∈ p2, x.block < W.heap.size := fun x hx => hlt x (by simp [hx])
  obtain ⟨bo, m, cap, b, o, ix, db, dl, dc, bd, od, yv, hv2, hC⟩ := open_cols (j := 2) Try.underlying28 Try.underlying43 (by kernel_rfl) (by kernel_rfl) rfl rfl (by kernel_rfl) (by kernel_rfl) Try.underlying3 Try.underlying41 Try.underlying5 (by kernel_rfl) (by kernel_rfl) hsz rfl rfl (hval 2 28 v2 rfl rfl) h2
  subst hv2
  obtain ⟨M, last, o', w', t', r1, r2, r3, r4⟩ := rebuilds_ok a0 a1 hC
  refine ⟨M, last, o', w', t', r1, r2, r3, r4.mono fun v hF => ?_⟩
  obtain ⟨rfl, hk⟩ := hF
  have bel : Below W.heap.size W { w' with tape := W.tape } := ⟨hk.os, rfl, hk.output, hk.size, hk.block⟩
  have stays : ∀ {t : TypeId} {v : Value} {d : DataW H} {ps : List MemPlace}, Try.prog.readableRec t = true → t < Try.prog.types.size → DataW.Trod enc Try.prog W 0 (fun _ => true) true t v d ps → (∀ x ∈ ps, x.block < W.heap.size) → DataW.Trod enc Try.prog w' 0 (fun b => decide (b < W.heap.size)) true t v d ps :=
    fun hr hrow h hl => WideElems.Trod_stays laidOut hr hrow h (fun x hx => bel.same (hl x hx)) (fun x hx => by simpa using hl x hx)
  have fr : ∀ may, W.keptBut w' may := fun may => by
    have h := bel.frame may
    exact ⟨h.1, h.2.1, h.2.2⟩
  have s2 := stays (by kernel_rfl) (of_decide_eq_true (by kernel_rfl)) h2 hlt2
  refine ⟨_, _, _, [], _, [], hW', trodAll_mk1 (shut_bool Try.underlying4 _), ⟨_, _, shut_int Try.underlying3 w0, ⟨_, _, shut_int Try.underlying3 w1, trodAll_mk1 s2, rfl⟩, rfl⟩, rfl, fr _, fun h => by cases h⟩

theorem proved : Rows.RebuildsSaid :=
  OpenClaim.holds_of_wide_leaving 5 Try.f5 rfl rfl rfl rfl rfl rfl rfl ⟨rfl, rfl, rfl, rfl, rfl⟩ rfl rfl rfl rfl rfl (by kernel_rfl) Try.func5 (by kernel_rfl)
    (of_decide_eq_true (by kernel_rfl)) (by unfold Func.isWrapper; first | (rw [if_pos (by decide +kernel)]; kernel_rfl) | (rw [if_neg (by decide +kernel)]; exact ⟨rfl, rfl⟩))
    (fun os started H enc _ => lifted os started H enc)
#print axioms proved
end Go.Proofs.Ytkpcmfgeanlcnaa.rebuilds
