/-
  For every shard (any numbers, names, sizes and bytes) the call Writes of the program's statements returns true and leaves its argument as it was; the table of sixteen numbers of the sum is tied to the program's own text (the card).
-/
import Derived.Test.YtkpcmfgeanlcnaaDoorRows
import Derived.Test.YtkpcmfgeanlcnaaDoorCards
import Derived.Test.YtkpcmfgeanlcnaaDoorTie
import Derived.Test.YtkpcmfgeanlcnaaDoorWrT
import Derived.WalkKit
import Derived.ProofKit
import Derived.OpenShut
import Derived.ChangeOld
import Derived.Below
import Derived.Carry
import Derived.LaidMore
import Derived.Stop.Joined
import Derived.SevenTiedAt
import Derived.Lib.LaidTab
import Derived.Conc.Holds
import Derived.Leaving
namespace Go.Proofs.YtkpcmfgeanlcnaaDoor.writes
open Go.ChangeShapes Go.WideShapes Go.ChangeAt Go.RowKit

theorem own : ownKnob Tryd.prog.godebug = none := by kernel_rfl
theorem laidOut : laidOutB Tryd.prog = true := by kernel_rfl
theorem gTab : Tryd.prog.globalNamed "cairn/sum.fourSteps" = some 0 := by kernel_rfl
theorem tTab : (Tryd.prog.globals[0]?).map (·.type) = some 80 := by kernel_rfl

/-- A call that starts no goroutine leaves none behind. -/
theorem leaving_of {a : Assume} {C : Checked} {os : Os} {f : FuncId} {r : Reach} {Pre : World → Array Value → Prop} {Post : World → Array Value → Value → World → Prop} (h : ReturnsInHanded a C os f r Pre Post) : ReturnsInLeavingWide a C os f r Pre Post := fun enter => by
  obtain ⟨g0, g1, g2, g3, all⟩ := h enter
  refine ⟨g0, g1, g2, g3, fun w tape i hf => ?_⟩
  obtain ⟨n, v, w', h1, h2, h3, h4, ⟨j, last, h5, h6, h7, h8, h9⟩, h10⟩ := all w tape i hf
  exact ⟨n, v, w', h1, h2, h3, h4, ⟨j, last, h5, h6, h8, onlyLeaving_of_quiet h7, h9⟩, h10⟩

/-- What the row's condition says of the table. -/
theorem tab_of {W : World} (h : laidMetH Tryd.prog Rows.writesRow.laid W) : Tab W := by
  rw [MakeChecks.laidMetH_plain _ _ _ (by kernel_rfl)] at h
  have hT : Lib.TabIs Tryd.prog W "cairn/sum.fourSteps" .u64 (crcTab.map fun (n : Nat) => (n : Int)) :=
    Lib.tabIs_of_head gTab tTab Tryd.underlying80 Tryd.underlying22 (by kernel_rfl) (by kernel_rfl) h
  have hc : ∀ i, i < 16 → W.cell? ⟨0, i, none⟩ = some (.int .u64 ((crcTab.getD i 0 : Nat) : Int)) := by
    intro i hi
    have := hT.cell gTab i (by simpa [crcTab] using hi)
    rw [this]
    simp only [List.getD_eq_getElem?_getD, List.getElem?_map]
    cases crcTab[i]? <;> simp
  exact ⟨cell_lt (hc 0 (by omega)), hc⟩

/-- The door's own heap meets the condition. -/
theorem door_met (os : Os) (args : Array Value) : laidMetH Tryd.prog Rows.writesRow.laid ((World.doorLaid Tryd.prog 400 os).forCall (fun _ _ => 0) ⟨#[], args, []⟩).memory :=
  laidMetH_of_parts3 (fuel := 8) (laidMet_of_run' 8 (by kernel_rfl) (by kernel_rfl)) (by kernel_rfl) (by kernel_rfl)

set_option maxRecDepth 100000 in
theorem lifted (os : Os) (started : os.Started) (H : Type) (enc : TypeId × Value → H) :
    ReturnsInHanded {} Tryd.checked os 6 .any (fun w args => (Rows.writesSpec.pre enc Tryd.prog Tryd.f6 [] false w args ∧ laidMetH Tryd.prog Rows.writesRow.laid w) ∧ sizedMet enc Tryd.prog Tryd.f6 (OpenSpec.ofChange Rows.writesSpec) false w args)
      (Rows.writesSpec.post enc Tryd.prog Tryd.f6 false true false false) := by
  refine returnsInHanded_of_change_and (C := Tryd.checked) (X := fun w _ => laidMetH Tryd.prog Rows.writesRow.laid w) (fun _ _ _ hh h => h.of_heap hh) own started (by kernel_rfl) Tryd.func6
    (ChangeSpec.witness_shaped (enc := enc) (C := Tryd.checked) (os := os) (X := fun w _ => laidMetH Tryd.prog Rows.writesRow.laid w) false (World.doorLaid Tryd.prog 400 os) #[.agg #[.int .i64 0, .int .i64 0, .int .i64 0, .int .i64 0, .slice none 0 0, .slice none 0 0, .slice none 0 0]] 8 rfl (World.shaped_of_RefB (by kernel_rfl) (by kernel_rfl)) (by kernel_rfl) (by kernel_rfl) (by kernel_rfl) (door_met os _)) ?_
  intro W base args ds gs before hval0 hW _ _ hL _
  have hval : ∀ (j : Nat) t v, Tryd.f6.params[j]? = some t → args[j]? = some v → Value.okWide Tryd.prog W .any base t v := hval0
  have hW' := hW
  obtain ⟨p, q, hA0, hV, rfl, hfz, hnd⟩ := hW
  have hA : DataW.TrodAll enc Tryd.prog W 0 (fun _ => true) true Tryd.f6.params.toList args.toList ds p := hA0
  rw [Tryd.params6] at hA hval
  have hlt := hA.lt
  obtain ⟨v0, d0, rfl, rfl, h0⟩ := trodAll_one hA
  obtain ⟨rfl, rfl⟩ := trodVars_none hV
  have hv0 := hval 0 36 v0 rfl rfl
  have h0k := h0
  obtain ⟨u0, u1, u2, u3, u4, u5, u6, y0, y1, y2, y3, y4, y5, y6, n, rfl, t0, t1, t2, t3, t4, t5, t6⟩ := open_seven Tryd.underlying36 (by kernel_rfl) (by kernel_rfl) hv0 h0
  obtain ⟨K, e0, _, _⟩ := DataW.trod_int Tryd.underlying3 t0
  obtain ⟨N, e1, _, _⟩ := DataW.trod_int Tryd.underlying3 t1
  obtain ⟨I, e2, _, _⟩ := DataW.trod_int Tryd.underlying3 t2
  obtain ⟨C, e3, _, _⟩ := DataW.trod_int Tryd.underlying3 t3
  cases e0
  cases e1
  cases e2
  cases e3
  obtain ⟨ns, l4, b4, b4'⟩ := open_names Tryd.underlying33 Tryd.underlying9 (by kernel_rfl) t4
  obtain ⟨zs, l5, b5, b5'⟩ := open_sizes Tryd.underlying34 Tryd.underlying3 (by kernel_rfl) t5
  obtain ⟨col, l6, b6⟩ := open_bytes8 Tryd.underlying24 Tryd.underlying5 (by kernel_rfl) t6
  have hT := tab_of hL
  clear hA0 hval0
  simp only [List.append_nil] at hW'
  refine (writes_any ⟨K, N, I, C, ns, zs, col⟩ u4 u5 u6 W ⟨l4, l5, l6, b4, b5, b6, b4'⟩ b5' hT).mono fun e W' ⟨he, bel⟩ => ?_
  subst he
  exact ⟨_, rfl, _, _, _, [], _, [], hW', trodAll_mk1 (shut_bool Tryd.underlying4 _), trodAll_mk1 (Below.trod laidOut (by kernel_rfl) (of_decide_eq_true (by kernel_rfl)) h0k bel (by simpa using hlt)), rfl, bel.frame _, fun h => by cases h⟩

theorem over : Rows.WritesSaid :=
  OpenClaim.holds_of_wide_leaving 6 Tryd.f6 rfl rfl rfl rfl rfl rfl rfl ⟨rfl, rfl, rfl, rfl, rfl⟩ rfl rfl rfl rfl rfl (by kernel_rfl) Tryd.func6 (by kernel_rfl)
    (of_decide_eq_true (by kernel_rfl)) (by unfold Func.isWrapper; first | (rw [if_pos (by decide +kernel)]; kernel_rfl) | (rw [if_neg (by decide +kernel)]; exact ⟨rfl, rfl⟩))
    (fun os started H enc _ => leaving_of (lifted os started H enc))

theorem looksAt : ∀ f fn, Tryd.pinned.checked.prog.funcNamed Rows.writesRow.func = some f → Tryd.pinned.checked.prog.funcs[f]? = some fn → true = Tryd.pinned.checked.prog.looks [] ∧ ∀ (j : Nat) t, fn.params[j]? = some t → Tryd.pinned.checked.prog.wantsStandIn t = false := fun f fn hf hfn => by
  obtain rfl : f = 6 := Option.some.inj ((show Tryd.prog.funcNamed "cairn/cairnlaw.Writes" = some 6 by kernel_rfl).symm.trans hf) |>.symm
  obtain rfl : fn = Tryd.f6 := (Option.some.inj (Tryd.func6.symm.trans hfn)).symm
  exact ⟨by kernel_rfl, fun j t ht => by
    rw [Tryd.params6] at ht
    have hm : t ∈ [36] := by simpa using Array.mem_of_getElem? ht
    have hall : ([36].all fun u => !Tryd.prog.wantsStandIn u) = true := by kernel_rfl
    exact (show Tryd.prog.wantsStandIn t = false by simpa using List.all_eq_true.1 hall t hm)⟩

theorem proved : Rows.WritesCardSaid :=
  ⟨Claim7.tied_new_at .later [.data] true (Claim7.new_of_sixth over Rows.writesCard.stood.harness true rfl ⟨rfl, rfl⟩ (by kernel_rfl) (by kernel_rfl) looksAt) (by kernel_rfl), (fun _ h => by cases h), writes_row_tie, (fun h => by cases h), by kernel_rfl⟩
end Go.Proofs.YtkpcmfgeanlcnaaDoor.writes
