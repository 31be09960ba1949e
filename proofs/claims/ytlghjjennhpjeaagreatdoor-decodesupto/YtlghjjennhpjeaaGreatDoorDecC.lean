/-
  For every list of texts (of bulk at most 1048576) the call Decodes of the program's statements returns true, whatever the schedule, without a data race, and leaves its argument as it was; the six variables that it reads are tied to the program's own text (the card).
-/
import Derived.Test.YtlghjjennhpjeaaGreatDoorRows
import Derived.Test.YtlghjjennhpjeaaGreatDoorCards
import Derived.Test.YtlghjjennhpjeaaGreatDoorTie
import Derived.Test.YtlghjjennhpjeaaGreatDoorDyE
import Derived.Test.YtlghjjennhpjeaaGreatDoorRmA
import Derived.SliceStrings
import Derived.ChangeSlices
import Derived.Conc.LeavingOf
import Derived.WalkKit
import Derived.ProofKit
import Derived.OpenShut
import Derived.ChangeOld
import Derived.Below
import Derived.Carry
import Derived.LaidMore
import Derived.Stop.Joined
import Derived.SevenTiedAt
import Derived.Lib.LaidTab
import Derived.Conc.Holds
import Derived.Leaving
namespace Go.Proofs.YtlghjjennhpjeaaGreatDoor.decodes
open Go.ChangeShapes Go.WideShapes Go.ChangeAt Go.RowKit Go.Conc Go.Deep

theorem own : ownKnob Tryz.prog.godebug = none := by kernel_rfl
theorem laidOut : laidOutB Tryz.prog = true := by kernel_rfl
/-- What the row's condition says of the variables. -/
theorem gl_of {W : World} (h : laidMetH Tryz.prog Rows.decodesUptoRow.laid W) : ∃ a, Gl a W := by
  have hP := pow_laid h
  obtain ⟨a, hE⟩ := early_laid h
  exact ⟨a, tab_laid h, hP.1, hP.2, hE, errT_laid h⟩

/-- The door's own heap meets the condition. -/
theorem door_met (os : Os) (args : Array Value) : laidMetH Tryz.prog Rows.decodesUptoRow.laid ((World.doorLaid Tryz.prog 400 os).forCall (fun _ _ => 0) ⟨#[], args, []⟩).memory :=
  laidMetH_of_parts3 (fuel := 8) (laidMet_of_run' 8 (by kernel_rfl) (by kernel_rfl)) (by kernel_rfl) (by kernel_rfl)

/-- So many values, so much bulk. -/
theorem bulk_pos {H : Type} (d : DataW H) : 1 ≤ Rows.uptoBulk d := by
  cases d with
  | lit l => cases l <;> simp [Rows.uptoBulk]
  | _ => simp [Rows.uptoBulk]
theorem bulk_len {H : Type} : ∀ l : List (DataW H), l.length ≤ Rows.uptoBulkAll l
  | [] => Nat.zero_le _
  | d :: l => by
    have h1 := bulk_pos d
    have h2 := bulk_len l
    simp only [List.length_cons, Rows.uptoBulkAll]
    omega

theorem bulk_part {H : Type} {d : DataW H} : ∀ {l : List (DataW H)}, d ∈ l → Rows.uptoBulk d ≤ Rows.uptoBulkAll l
  | x :: l, h => by
    simp only [Rows.uptoBulkAll]
    rcases List.mem_cons.1 h with rfl | h
    · omega
    · have := bulk_part h
      omega
section
variable {H : Type} {enc : TypeId × Value → H} {P : Program} {w : World} {base : Nat} {held : Bool}
theorem lies_at {a : Addr} {len cap : Nat} {xs : List Value} (hl : xs.length = len) (hc : len ≤ cap) (h : ∀ j u, xs[j]? = some u → w.cell? (a.add j) = some u) : Lies w (.slice (some a) len cap) xs := by
  subst hl
  refine ⟨some a, cap, rfl, hc, fun j u hj => ?_⟩
  obtain ⟨b, off, sp⟩ := a
  have h0 : ∃ u0, xs[0]? = some u0 := by
    have : j < xs.length := (List.getElem?_eq_some_iff.1 hj).1
    exact ⟨_, List.getElem?_eq_getElem (by omega)⟩
  obtain ⟨u0, hu0⟩ := h0
  have hspot : sp = none := by simpa [Addr.add] using World.cell?_spot (h 0 u0 hu0)
  subst hspot
  refine ⟨b, off, rfl, ?_⟩
  rw [← add_off]
  exact h j u hj
theorem open_texts {t e : TypeId} {fuel : Nat} {v : Value} {d : DataW H} {ps : List MemPlace} (ht : P.underlying t = some (.slice e)) (he : P.underlying e = some .string) (hc : P.cellsOf e = 1) (hk : Rows.uptoBulk d ≤ 1048576) (h : DataW.trod enc P w base (fun _ => true) held fuel t [v] = some (d, ps)) :
    ∃ ns : List (List UInt8), Lies w v (nameV ns) ∧ ns.length ≤ 1048576 ∧ ∀ i, i < ns.length → (ns.getD i []).length ≤ 1048576 := by
  rcases open_strings ht he hc h with ⟨e1, _⟩ | ⟨a, len, cap, ss, e1, _, h1, h2, h3, hx, h4, h5⟩
  · cases e1
    exact ⟨[], ⟨none, 0, rfl, by simp [nameV], fun j u hj => by simp [nameV] at hj⟩, by simp, fun i hi => by simp at hi⟩
  · cases e1
    have hss : ss.length = cap := by simpa using h3
    cases hx
    have k1 := bulk_len (strs (H := H) (ss.take len))
    simp only [Rows.uptoBulk, strs, List.length_map, List.length_take] at hk k1
    refine ⟨(ss.take len).map fun s => s.data.toList, lies_at (by simp [nameV]; omega) h1 (fun j u hj => ?_), by simp; omega, fun i hi => ?_⟩
    · have hj' : j < len := by
        have := (List.getElem?_eq_some_iff.1 hj).1
        simp [nameV] at this
        omega
      rw [h4 j (by omega)]
      rw [nameV_at (by simp; omega)] at hj
      rw [← hj]
      congr 2
      simp [List.getD_eq_getElem?_getD, hj', List.getElem?_eq_getElem (show j < ss.length by omega)]
    · have hi' : i < (ss.take len).length := by simpa using hi
      have k2 := bulk_part (d := (.lit (.string ((ss.take len)[i].data.toList)) : DataW H)) (l := (ss.take len).map fun s => .lit (.string s.data.toList)) (List.mem_map.2 ⟨_, List.getElem_mem hi', rfl⟩)
      simp only [Rows.uptoBulk] at k2
      rw [List.getD_eq_getElem?_getD, List.getElem?_map, List.getElem?_eq_getElem hi']
      show ((ss.take len)[i].data.toList).length ≤ _
      omega
end

/-- There is an input that fits. -/
theorem fits (os : Os) (H : Type) (enc : TypeId × Value → H) : ∃ (w : World) (tape : Tape) (i : Input), w.os = os ∧ (w.forCall tape i).Shaped Tryz.prog ∧ i.vars = [] ∧ Input.okWide Tryz.prog (w.forCall tape i) .any w.heap.size 3 i ∧
    (Rows.OpenSpec.upto Rows.decodesSpec).preRow enc Tryz.prog Tryz.f3 Rows.decodesUptoRow.domain false Rows.decodesUptoRow.laid (w.forCall tape i).memory i.args ∧ ({} : Assume).holds Tryz.prog (lone (Frame.enter Tryz.prog 3 i.args .normal) [] (w.forCall tape i)) := by
  have hok : Input.okWideB Tryz.prog ((World.doorLaid Tryz.prog 400 os).forCall (fun _ _ => 0) ⟨#[], #[.slice none 0 0], []⟩) 3 ⟨#[], #[.slice none 0 0], []⟩ = true := by kernel_rfl
  have hx : DataW.whole enc Tryz.prog ((World.doorLaid Tryz.prog 400 os).forCall (fun _ _ => 0) ⟨#[], #[.slice none 0 0], []⟩).memory Tryz.f3.params.toList (Rows.OpenSpec.upto Rows.decodesSpec).vars false #[Value.slice none 0 0].toList 8 = some ([.nil], [], []) := by kernel_rfl
  refine ⟨World.doorLaid Tryz.prog 400 os, fun _ _ => 0, ⟨#[], #[.slice none 0 0], []⟩, rfl, World.shaped_of_RefB (by kernel_rfl) (by kernel_rfl), (Input.okWide_of_okWideB (base := 0) hok).1, (Input.okWide_of_okWideB hok).2, OpenSpec.preRow_of_cond 8 hx (by kernel_rfl) (fun k hk => by cases hk; kernel_rfl) (by kernel_rfl) (door_met os _), ?_⟩
  simp only [Assume.holds]
  exact ⟨by simp, by simp, fun _ => Modest.zero, by simp, by simp⟩

set_option maxRecDepth 100000 in
theorem lifted (os : Os) (started : os.Started) (H : Type) (enc : TypeId × Value → H) (F : Stop.Interp) :
    ReturnsInLeavingWide {} Tryz.checked os 3 .any ((Rows.OpenSpec.upto Rows.decodesSpec).preRow enc Tryz.prog Tryz.f3 Rows.decodesUptoRow.domain false Rows.decodesUptoRow.laid) (((Rows.OpenSpec.upto Rows.decodesSpec).at F).post enc Tryz.prog Tryz.f3 false true false false) := by
  refine returnsInLeavingWide_of_good own started (fits os H enc) ?_
  intro w tape i _ _ _ hok hpre _
  obtain ⟨_, _, _, fn', hfn', _, _, _, _, hval0⟩ := hok
  obtain rfl : fn' = Tryz.f3 := Option.some.inj (hfn'.symm.trans Tryz.func3)
  obtain ⟨⟨hp, hl⟩, _⟩ := hpre
  obtain ⟨ds, gs, before, hw0, _, hk⟩ := OpenSpec.pre_parts hp
  have hW := DataW.Whole.of_heap (w' := w.forCall tape i) (by rfl) hw0
  have hL : laidMetH Tryz.prog Rows.decodesUptoRow.laid (w.forCall tape i) := hl.of_heap (by rfl)
  have hbulk : Rows.uptoBulkAll (ds ++ gs) ≤ 1048576 := of_decide_eq_true (hk _ rfl)
  clear hk hp hl hw0
  generalize hargs : i.args = args at *
  have hval : ∀ (j : Nat) t v, Tryz.f3.params[j]? = some t → args[j]? = some v → Value.okWide Tryz.prog (w.forCall tape i) .any w.heap.size t v := fun j t v h1 h2 => hval0 j t v h1 h2
  clear hval0
  generalize w.heap.size = base at *
  suffices ∀ W : World, (∀ (j : Nat) t v, Tryz.f3.params[j]? = some t → args[j]? = some v → Value.okWide Tryz.prog W .any base t v) → DataW.Whole enc Tryz.prog Tryz.f3.params.toList (Rows.OpenSpec.upto Rows.decodesSpec).vars false W args.toList ds gs before → laidMetH Tryz.prog Rows.decodesUptoRow.laid W →
      ∃ M last o w' t', runNT Tryz.prog (M + 1) (solo (G (Frame.enter Tryz.prog 3 args .normal) []) W) #[] = (.ended o w', t') ∧ runN Tryz.prog M (solo (G (Frame.enter Tryz.prog 3 args .normal) []) W) = .next last ∧ step Tryz.prog last = .ended o w' ∧ Conc.Good Tryz.prog (fun v W' => Rows.decodesSpec.post enc Tryz.prog Tryz.f3 false true false false W args v W') last o w' t' by
    obtain ⟨M, last, o, w', t', h1, h2, h3, h4⟩ := this (w.forCall tape i) hval hW hL
    exact ⟨M, last, o, w', t', h1, h2, h3, h4.mono fun v hp => ChangeSpec.post_blind hp⟩
  clear hval hW hL
  intro W hval hW hL
  have hW' := hW
  obtain ⟨p, q, hA0, hV, rfl, _, _⟩ := hW
  have hA : DataW.TrodAll enc Tryz.prog W 0 (fun _ => true) true Tryz.f3.params.toList args.toList ds p := hA0
  rw [Tryz.params3] at hA hval
  obtain ⟨v0, d0, rfl, rfl, h0⟩ := trodAll_one hA
  obtain ⟨rfl, rfl⟩ := trodVars_none hV
  clear hA0 hA
  simp only [List.append_nil] at hW'
  have hlt : ∀ x ∈ p, x.block < W.heap.size := fun x hx => by simpa using hW'.lt x hx
  have h0k := h0
  obtain ⟨ad, len, cp, ev⟩ := okWide_slice Tryz.underlying22 (hval 0 22 v0 rfl rfl)
  subst ev
  obtain ⟨fuel, hf⟩ := h0
  obtain ⟨ns, l4, b4, b5⟩ := open_texts Tryz.underlying22 Tryz.underlying9 (by kernel_rfl) (by simp only [List.append_nil, Rows.uptoBulkAll] at hbulk; omega) hf
  obtain ⟨a, hG⟩ := gl_of hL
  obtain ⟨bq, cq, eq⟩ := l4.len
  rw [nameV_length] at eq
  rw [eq] at l4 h0k hW' ⊢
  obtain ⟨M, last, o, w', t', r1, r2, r3, r4⟩ := decodes_ok l4 b4 b5 hG
  refine ⟨M, last, o, w', t', r1, r2, r3, r4.mono fun v hF => ?_⟩
  obtain ⟨rfl, hkp⟩ := hF
  have bel : Below W.heap.size W { w' with tape := W.tape } := ⟨hkp.os, rfl, hkp.output, hkp.size, hkp.block⟩
  have stays : ∀ {t : TypeId} {v : Value} {d : DataW H} {ps : List MemPlace}, Tryz.prog.readableRec t = true → t < Tryz.prog.types.size → DataW.Trod enc Tryz.prog W 0 (fun _ => true) true t v d ps → (∀ x ∈ ps, x.block < W.heap.size) → DataW.Trod enc Tryz.prog w' 0 (fun b => decide (b < W.heap.size)) true t v d ps :=
    fun hr hrow h hl => WideElems.Trod_stays laidOut hr hrow h (fun x hx => bel.same (hl x hx)) (fun x hx => by simpa using hl x hx)
  have fr : ∀ may, W.keptBut w' may := fun may => by
    have h := bel.frame may
    exact ⟨h.1, h.2.1, h.2.2⟩
  have s0 := stays (by kernel_rfl) (of_decide_eq_true (by kernel_rfl)) h0k hlt
  exact ⟨_, _, _, [], _, [], hW', trodAll_mk1 (shut_bool Tryz.underlying4 _), trodAll_mk1 s0, rfl, fr _, fun h => by cases h⟩

theorem reads : (∀ t ∈ Tryz.f3.params, Tryz.prog.readableRec t = true) ∧ ∀ t ∈ Tryz.f3.resultTypes, Tryz.prog.readableRec t = true ∧ t < Tryz.prog.types.size := by
  have h1 : (Tryz.f3.params.toList.all fun t => Tryz.prog.readableRec t) = true := by kernel_rfl
  have h2 : (Tryz.f3.resultTypes.toList.all fun t => Tryz.prog.readableRec t && decide (t < Tryz.prog.types.size)) = true := by kernel_rfl
  exact ⟨fun t ht => List.all_eq_true.1 h1 t (by simpa using ht), fun t ht => by
    have := List.all_eq_true.1 h2 t (by simpa using ht)
    simpa using this⟩
theorem calm (os : Os) : Stop.quiet Tryz.prog os := fun k hk => by
  have e : Tryz.prog.stopKnobs = [] := by kernel_rfl
  rw [e] at hk
  cases hk

set_option maxRecDepth 100000 in
theorem over : Rows.DecodesUptoSaid := by
  unfold Rows.DecodesUptoSaid OpenClaim.holds
  refine ⟨by kernel_rfl, rfl, rfl, rfl, laidOut, by kernel_rfl, (show Tryz.prog.mayEnter = true by kernel_rfl), ⟨rfl, rfl, rfl, rfl, rfl, rfl, rfl⟩, 3, Tryz.f3, by kernel_rfl, Tryz.func3, reads, (fun h => by cases h), by kernel_rfl,
    of_decide_eq_true (by kernel_rfl), (by unfold Func.isWrapper; first | (rw [if_pos (by decide +kernel)]; kernel_rfl) | (rw [if_neg (by decide +kernel)]; exact ⟨rfl, rfl⟩)),
    by kernel_rfl, ⟨by kernel_rfl, by kernel_rfl, by kernel_rfl⟩, by kernel_rfl, by kernel_rfl, by kernel_rfl, by kernel_rfl, by kernel_rfl, ⟨by kernel_rfl, by kernel_rfl, by kernel_rfl⟩, ⟨by kernel_rfl, by kernel_rfl⟩, ⟨by kernel_rfl, by kernel_rfl, by kernel_rfl, by kernel_rfl⟩, ⟨by kernel_rfl, by kernel_rfl, by kernel_rfl, by kernel_rfl⟩, by kernel_rfl, (fun n hn => by cases hn), ⟨_, WideRow.started_initial, calm _⟩, [], rfl, ?_⟩
  intro os st _ H enc _
  rw [OpenClaim.post_not_still rfl, OpenClaim.pre_eq_preRow]
  intro F
  exact lifted os st H enc F (by kernel_rfl)

theorem looksAt : ∀ f fn, Tryz.pinned.checked.prog.funcNamed Rows.decodesUptoRow.func = some f → Tryz.pinned.checked.prog.funcs[f]? = some fn → true = Tryz.pinned.checked.prog.looks [] ∧ ∀ (j : Nat) t, fn.params[j]? = some t → Tryz.pinned.checked.prog.wantsStandIn t = false := fun f fn hf hfn => by
  obtain rfl : f = 3 := Option.some.inj ((show Tryz.prog.funcNamed "cairn/cairnlaw.Decodes" = some 3 by kernel_rfl).symm.trans hf) |>.symm
  obtain rfl : fn = Tryz.f3 := (Option.some.inj (Tryz.func3.symm.trans hfn)).symm
  exact ⟨by kernel_rfl, fun j t ht => by
    rw [Tryz.params3] at ht
    have hm : t ∈ [22] := by simpa using Array.mem_of_getElem? ht
    have hall : ([22].all fun u => !Tryz.prog.wantsStandIn u) = true := by kernel_rfl
    exact (show Tryz.prog.wantsStandIn t = false by simpa using List.all_eq_true.1 hall t hm)⟩

theorem proved : Rows.DecodesUptoCardSaid :=
  ⟨Claim7.tied_new_at .later [.data, .data, .data, .data, .handle, .sentinel] true (Claim7.new_of_sixth over Rows.decodesUptoCard.stood.harness true rfl ⟨rfl, rfl⟩ (by kernel_rfl) (by kernel_rfl) looksAt) (by kernel_rfl), (fun _ h => by cases h), decodesUpto_row_tie, (fun h => by cases h), by kernel_rfl⟩
end Go.Proofs.YtlghjjennhpjeaaGreatDoor.decodes
