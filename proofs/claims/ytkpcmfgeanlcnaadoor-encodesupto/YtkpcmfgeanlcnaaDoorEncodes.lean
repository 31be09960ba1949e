/-
  For every list of blobs (each a name and bytes, of bulk at most 1048576) and all numbers K, N, Chunk the call Encodes of the program's statements returns true, whatever the schedule, without a data race, and leaves its arguments as they were; the table of sixteen numbers of the sum is tied to the program's own text (the card).
-/
import Derived.Test.YtkpcmfgeanlcnaaDoorRows
import Derived.Test.YtkpcmfgeanlcnaaDoorCards
import Derived.Test.YtkpcmfgeanlcnaaDoorTie
import Derived.Test.YtkpcmfgeanlcnaaDoorEoA
import Derived.Conc.LeavingOf
import Derived.WalkKit
import Derived.ProofKit
import Derived.OpenShut
import Derived.ChangeOld
import Derived.Below
import Derived.Carry
import Derived.LaidMore
import Derived.Stop.Joined
import Derived.SevenTiedAt
import Derived.Lib.LaidTab
import Derived.Conc.Holds
import Derived.Leaving
namespace Go.Proofs.YtkpcmfgeanlcnaaDoor.encodes
open Go.ChangeShapes Go.WideShapes Go.ChangeAt Go.RowKit Go.Conc Go.Deep

theorem own : ownKnob Tryd.prog.godebug = none := by kernel_rfl
theorem laidOut : laidOutB Tryd.prog = true := by kernel_rfl
theorem gTab : Tryd.prog.globalNamed "cairn/sum.fourSteps" = some 0 := by kernel_rfl
theorem tTab : (Tryd.prog.globals[0]?).map (·.type) = some 80 := by kernel_rfl

/-- What the row's condition says of the table. -/
theorem tab_of {W : World} (h : laidMetH Tryd.prog Rows.encodesUptoRow.laid W) : Tab W := by
  rw [MakeChecks.laidMetH_plain _ _ _ (by kernel_rfl)] at h
  have hT : Lib.TabIs Tryd.prog W "cairn/sum.fourSteps" .u64 (crcTab.map fun (n : Nat) => (n : Int)) :=
    Lib.tabIs_of_head gTab tTab Tryd.underlying80 Tryd.underlying22 (by kernel_rfl) (by kernel_rfl) h
  have hc : ∀ i, i < 16 → W.cell? ⟨0, i, none⟩ = some (.int .u64 ((crcTab.getD i 0 : Nat) : Int)) := by
    intro i hi
    have := hT.cell gTab i (by simpa [crcTab] using hi)
    rw [this]
    simp only [List.getD_eq_getElem?_getD, List.getElem?_map]
    cases crcTab[i]? <;> simp
  exact ⟨cell_lt (hc 0 (by omega)), hc⟩

/-- The door's own heap meets the condition. -/
theorem door_met (os : Os) (args : Array Value) : laidMetH Tryd.prog Rows.encodesUptoRow.laid ((World.doorLaid Tryd.prog 400 os).forCall (fun _ _ => 0) ⟨#[], args, []⟩).memory :=
  laidMetH_of_parts3 (fuel := 8) (laidMet_of_run' 8 (by kernel_rfl) (by kernel_rfl)) (by kernel_rfl) (by kernel_rfl)

/-- So many values, so much bulk. -/
theorem bulk_pos {H : Type} (d : DataW H) : 1 ≤ Rows.uptoBulk d := by
  cases d with
  | lit l => cases l <;> simp [Rows.uptoBulk]
  | _ => simp [Rows.uptoBulk]
theorem bulk_len {H : Type} : ∀ l : List (DataW H), l.length ≤ Rows.uptoBulkAll l
  | [] => Nat.zero_le _
  | d :: l => by
    have h1 := bulk_pos d
    have h2 := bulk_len l
    simp only [List.length_cons, Rows.uptoBulkAll]
    omega

theorem two {H : Type} {enc : TypeId × Value → H} {P : Program} {w : World} {t t1 : TypeId} {args : Array Value} {ds : List (DataW H)} {ps : List MemPlace} {base : Nat} {spare : Nat → Bool} {held : Bool} (h : DataW.TrodAll enc P w base spare held [t, t1] args.toList ds ps) :
    ∃ v v1 d d1 p p1, args = #[v, v1] ∧ ds = [d, d1] ∧ ps = p ++ p1 ∧ DataW.Trod enc P w base spare held t v d p ∧ DataW.Trod enc P w base spare held t1 v1 d1 p1 := by
  obtain ⟨v, vs, d, ds', p, q, hargs, rfl, rfl, hd, hrest⟩ := trodAll_cons h
  obtain ⟨v1, vs1, d1, ds1, p1, q1, rfl, rfl, rfl, hd1, hrest1⟩ := trodAll_cons hrest
  obtain ⟨rfl, rfl, rfl⟩ := trodAll_nil hrest1
  exact ⟨v, v1, d, d1, p, p1, by cases args; simp_all, rfl, by simp, hd, hd1⟩

/-- There is an input that fits. -/
theorem fits (os : Os) (H : Type) (enc : TypeId × Value → H) : ∃ (w : World) (tape : Tape) (i : Input), w.os = os ∧ (w.forCall tape i).Shaped Tryd.prog ∧ i.vars = [] ∧ Input.okWide Tryd.prog (w.forCall tape i) .any w.heap.size 4 i ∧
    (Rows.OpenSpec.upto Rows.encodesSpec).preRow enc Tryd.prog Tryd.f4 Rows.encodesUptoRow.domain false Rows.encodesUptoRow.laid (w.forCall tape i).memory i.args ∧ ({} : Assume).holds Tryd.prog (lone (Frame.enter Tryd.prog 4 i.args .normal) [] (w.forCall tape i)) := by
  have hok : Input.okWideB Tryd.prog ((World.doorLaid Tryd.prog 400 os).forCall (fun _ _ => 0) ⟨#[], #[.slice none 0 0, .agg #[.int .i64 0, .int .i64 0, .int .i64 0]], []⟩) 4 ⟨#[], #[.slice none 0 0, .agg #[.int .i64 0, .int .i64 0, .int .i64 0]], []⟩ = true := by kernel_rfl
  have hx : DataW.whole enc Tryd.prog ((World.doorLaid Tryd.prog 400 os).forCall (fun _ _ => 0) ⟨#[], #[.slice none 0 0, .agg #[.int .i64 0, .int .i64 0, .int .i64 0]], []⟩).memory Tryd.f4.params.toList (Rows.OpenSpec.upto Rows.encodesSpec).vars false #[Value.slice none 0 0, .agg #[.int .i64 0, .int .i64 0, .int .i64 0]].toList 8 = some ([.nil, .agg [.lit (.int .i64 0), .lit (.int .i64 0), .lit (.int .i64 0)]], [], []) := by kernel_rfl
  refine ⟨World.doorLaid Tryd.prog 400 os, fun _ _ => 0, ⟨#[], #[.slice none 0 0, .agg #[.int .i64 0, .int .i64 0, .int .i64 0]], []⟩, rfl, World.shaped_of_RefB (by kernel_rfl) (by kernel_rfl), (Input.okWide_of_okWideB (base := 0) hok).1, (Input.okWide_of_okWideB hok).2, OpenSpec.preRow_of_cond 8 hx (by kernel_rfl) (fun k hk => by cases hk; kernel_rfl) (by kernel_rfl) (door_met os _), ?_⟩
  simp only [Assume.holds]
  exact ⟨by simp, by simp, fun _ => Modest.zero, by simp, by simp⟩

set_option maxRecDepth 100000 in
theorem lifted (os : Os) (started : os.Started) (H : Type) (enc : TypeId × Value → H) (F : Stop.Interp) :
    ReturnsInLeavingWide {} Tryd.checked os 4 .any ((Rows.OpenSpec.upto Rows.encodesSpec).preRow enc Tryd.prog Tryd.f4 Rows.encodesUptoRow.domain false Rows.encodesUptoRow.laid) (((Rows.OpenSpec.upto Rows.encodesSpec).at F).post enc Tryd.prog Tryd.f4 false true false false) := by
  refine returnsInLeavingWide_of_good own started (fits os H enc) ?_
  intro w tape i _ _ _ hok hpre _
  obtain ⟨_, _, _, fn', hfn', _, _, _, _, hval0⟩ := hok
  obtain rfl : fn' = Tryd.f4 := Option.some.inj (hfn'.symm.trans Tryd.func4)
  obtain ⟨⟨hp, hl⟩, _⟩ := hpre
  obtain ⟨ds, gs, before, hw0, _, hk⟩ := OpenSpec.pre_parts hp
  have hW := DataW.Whole.of_heap (w' := w.forCall tape i) (by rfl) hw0
  have hL : laidMetH Tryd.prog Rows.encodesUptoRow.laid (w.forCall tape i) := hl.of_heap (by rfl)
  have hbulk : Rows.uptoBulkAll (ds ++ gs) ≤ 1048576 := of_decide_eq_true (hk _ rfl)
  clear hk hp hl hw0
  generalize hargs : i.args = args at *
  have hval : ∀ (j : Nat) t v, Tryd.f4.params[j]? = some t → args[j]? = some v → Value.okWide Tryd.prog (w.forCall tape i) .any w.heap.size t v := fun j t v h1 h2 => hval0 j t v h1 h2
  clear hval0
  generalize w.heap.size = base at *
  suffices ∀ W : World, (∀ (j : Nat) t v, Tryd.f4.params[j]? = some t → args[j]? = some v → Value.okWide Tryd.prog W .any base t v) → DataW.Whole enc Tryd.prog Tryd.f4.params.toList (Rows.OpenSpec.upto Rows.encodesSpec).vars false W args.toList ds gs before → laidMetH Tryd.prog Rows.encodesUptoRow.laid W →
      ∃ M last o w' t', runNT Tryd.prog (M + 1) (solo (G (Frame.enter Tryd.prog 4 args .normal) []) W) #[] = (.ended o w', t') ∧ runN Tryd.prog M (solo (G (Frame.enter Tryd.prog 4 args .normal) []) W) = .next last ∧ step Tryd.prog last = .ended o w' ∧ Conc.Good Tryd.prog (fun v W' => Rows.encodesSpec.post enc Tryd.prog Tryd.f4 false true false false W args v W') last o w' t' by
    obtain ⟨M, last, o, w', t', h1, h2, h3, h4⟩ := this (w.forCall tape i) hval hW hL
    exact ⟨M, last, o, w', t', h1, h2, h3, h4.mono fun v hp => ChangeSpec.post_blind hp⟩
  clear hval hW hL
  intro W hval hW hL
  have hW' := hW
  obtain ⟨p, q, hA0, hV, rfl, _, _⟩ := hW
  have hA : DataW.TrodAll enc Tryd.prog W 0 (fun _ => true) true Tryd.f4.params.toList args.toList ds p := hA0
  rw [Tryd.params4] at hA hval
  obtain ⟨v0, v1, d0, d1, p0, p1, rfl, rfl, rfl, h0, h1⟩ := two hA
  obtain ⟨rfl, rfl⟩ := trodVars_none hV
  clear hA0 hA
  simp only [List.append_nil] at hW'
  have hlt : ∀ x ∈ p0 ++ p1, x.block < W.heap.size := fun x hx => by simpa using hW'.lt x hx
  obtain ⟨bo, m, cap, f, dd, rfl, hArgs⟩ := open_blobs Tryd.underlying26 Tryd.underlying87 (by kernel_rfl) rfl rfl (by kernel_rfl) (by kernel_rfl) Tryd.underlying9 Tryd.underlying24 Tryd.underlying5 (by kernel_rfl) (fun a len cap _ l1 l2 e => by
    subst e
    have e1 := bulk_len l1
    simp only [List.append_nil, Rows.uptoBulkAll, Rows.uptoBulk] at hbulk
    omega) (hval 0 26 v0 rfl rfl) h0
  obtain ⟨k, n, c, rfl⟩ := open_three Tryd.underlying28 (by kernel_rfl) (by kernel_rfl) Tryd.underlying3 Tryd.underlying3 Tryd.underlying3 (hval 1 28 v1 rfl rfl) h1
  obtain ⟨M, last, o, w', t', r1, r2, r3, r4⟩ := encodes_ok k n c hArgs (tab_of hL)
  refine ⟨M, last, o, w', t', r1, r2, r3, r4.mono fun v hF => ?_⟩
  obtain ⟨rfl, hkp⟩ := hF
  have bel : Below W.heap.size W { w' with tape := W.tape } := ⟨hkp.os, rfl, hkp.output, hkp.size, hkp.block⟩
  have stays : ∀ {t : TypeId} {v : Value} {d : DataW H} {ps : List MemPlace}, Tryd.prog.readableRec t = true → t < Tryd.prog.types.size → DataW.Trod enc Tryd.prog W 0 (fun _ => true) true t v d ps → (∀ x ∈ ps, x.block < W.heap.size) → DataW.Trod enc Tryd.prog w' 0 (fun b => decide (b < W.heap.size)) true t v d ps :=
    fun hr hrow h hl => WideElems.Trod_stays laidOut hr hrow h (fun x hx => bel.same (hl x hx)) (fun x hx => by simpa using hl x hx)
  have fr : ∀ may, W.keptBut w' may := fun may => by
    have h := bel.frame may
    exact ⟨h.1, h.2.1, h.2.2⟩
  have s0 := stays (by kernel_rfl) (of_decide_eq_true (by kernel_rfl)) h0 (fun x hx => hlt x (by simp [hx]))
  have s1 := stays (by kernel_rfl) (of_decide_eq_true (by kernel_rfl)) h1 (fun x hx => hlt x (by simp [hx]))
  exact ⟨_, _, _, [], _, [], hW', trodAll_mk1 (shut_bool Tryd.underlying4 _), ⟨_, _, s0, trodAll_mk1 s1, rfl⟩, rfl, fr _, fun h => by cases h⟩

theorem reads : (∀ t ∈ Tryd.f4.params, Tryd.prog.readableRec t = true) ∧ ∀ t ∈ Tryd.f4.resultTypes, Tryd.prog.readableRec t = true ∧ t < Tryd.prog.types.size := by
  have h1 : (Tryd.f4.params.toList.all fun t => Tryd.prog.readableRec t) = true := by kernel_rfl
  have h2 : (Tryd.f4.resultTypes.toList.all fun t => Tryd.prog.readableRec t && decide (t < Tryd.prog.types.size)) = true := by kernel_rfl
  exact ⟨fun t ht => List.all_eq_true.1 h1 t (by simpa using ht), fun t ht => by
    have := List.all_eq_true.1 h2 t (by simpa using ht)
    simpa using this⟩
theorem calm (os : Os) : Stop.quiet Tryd.prog os := fun k hk => by
  have e : Tryd.prog.stopKnobs = [] := by kernel_rfl
  rw [e] at hk
  cases hk

set_option maxRecDepth 100000 in
theorem over : Rows.EncodesUptoSaid := by
  unfold Rows.EncodesUptoSaid OpenClaim.holds
  refine ⟨by kernel_rfl, rfl, rfl, rfl, laidOut, by kernel_rfl, (show Tryd.prog.mayEnter = true by kernel_rfl), ⟨rfl, rfl, rfl, rfl, rfl, rfl, rfl⟩, 4, Tryd.f4, by kernel_rfl, Tryd.func4, reads, (fun h => by cases h), by kernel_rfl,
    of_decide_eq_true (by kernel_rfl), (by unfold Func.isWrapper; first | (rw [if_pos (by decide +kernel)]; kernel_rfl) | (rw [if_neg (by decide +kernel)]; exact ⟨rfl, rfl⟩)),
    by kernel_rfl, ⟨by kernel_rfl, by kernel_rfl, by kernel_rfl⟩, by kernel_rfl, by kernel_rfl, by kernel_rfl, by kernel_rfl, by kernel_rfl, ⟨by kernel_rfl, by kernel_rfl, by kernel_rfl⟩, ⟨by kernel_rfl, by kernel_rfl⟩, ⟨by kernel_rfl, by kernel_rfl, by kernel_rfl, by kernel_rfl⟩, ⟨by kernel_rfl, by kernel_rfl, by kernel_rfl, by kernel_rfl⟩, by kernel_rfl, (fun n hn => by cases hn), ⟨_, WideRow.started_initial, calm _⟩, [], rfl, ?_⟩
  intro os st _ H enc _
  rw [OpenClaim.post_not_still rfl, OpenClaim.pre_eq_preRow]
  intro F
  exact lifted os st H enc F (by kernel_rfl)

theorem looksAt : ∀ f fn, Tryd.pinned.checked.prog.funcNamed Rows.encodesUptoRow.func = some f → Tryd.pinned.checked.prog.funcs[f]? = some fn → true = Tryd.pinned.checked.prog.looks [] ∧ ∀ (j : Nat) t, fn.params[j]? = some t → Tryd.pinned.checked.prog.wantsStandIn t = false := fun f fn hf hfn => by
  obtain rfl : f = 4 := Option.some.inj ((show Tryd.prog.funcNamed "cairn/cairnlaw.Encodes" = some 4 by kernel_rfl).symm.trans hf) |>.symm
  obtain rfl : fn = Tryd.f4 := (Option.some.inj (Tryd.func4.symm.trans hfn)).symm
  exact ⟨by kernel_rfl, fun j t ht => by
    rw [Tryd.params4] at ht
    have hm : t ∈ [26, 28] := by simpa using Array.mem_of_getElem? ht
    have hall : ([26, 28].all fun u => !Tryd.prog.wantsStandIn u) = true := by kernel_rfl
    exact (show Tryd.prog.wantsStandIn t = false by simpa using List.all_eq_true.1 hall t hm)⟩

theorem proved : Rows.EncodesUptoCardSaid :=
  ⟨Claim7.tied_new_at .later [.data] true (Claim7.new_of_sixth over Rows.encodesUptoCard.stood.harness true rfl ⟨rfl, rfl⟩ (by kernel_rfl) (by kernel_rfl) looksAt) (by kernel_rfl), (fun _ h => by cases h), encodesUpto_row_tie, (fun h => by cases h), by kernel_rfl⟩
#print axioms proved
end Go.Proofs.YtkpcmfgeanlcnaaDoor.encodes
