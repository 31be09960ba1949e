/-
  For every list of strings the call Readers of the program's statements returns true and leaves its argument as it was; the six variables that it reads are tied to the program's own text (the card).
-/
import Derived.Test.YtkpcmfgeanlcnaaDoorRows
import Derived.Test.YtkpcmfgeanlcnaaDoorCards
import Derived.Test.YtkpcmfgeanlcnaaDoorTie
import Derived.Test.YtkpcmfgeanlcnaaDoorRdG
import Derived.Test.YtkpcmfgeanlcnaaDoorLdA
import Derived.WalkKit
import Derived.ProofKit
import Derived.OpenShut
import Derived.SliceStrings
import Derived.ChangeSlices
import Derived.Deep.Fields
import Derived.WideShapes
import Derived.ChangeOld
import Derived.Below
import Derived.LaidMore
import Derived.SizedLaws
import Derived.Stop.Joined
import Derived.SevenTiedAt
import Derived.Conc.Holds
import Derived.Leaving
namespace Go.Proofs.YtkpcmfgeanlcnaaDoor.readers
open Go.ChangeShapes Go.WideShapes Go.ChangeAt Go.RowKit Go.Deep

theorem own : ownKnob Tryd.prog.godebug = none := by kernel_rfl
theorem laidOut : laidOutB Tryd.prog = true := by kernel_rfl

/-- A call that starts no goroutine leaves none behind. -/
theorem leaving_of {a : Assume} {C : Checked} {os : Os} {f : FuncId} {r : Reach} {Pre : World → Array Value → Prop} {Post : World → Array Value → Value → World → Prop} (h : ReturnsInHanded a C os f r Pre Post) : ReturnsInLeavingWide a C os f r Pre Post := fun enter => by
  obtain ⟨g0, g1, g2, g3, all⟩ := h enter
  refine ⟨g0, g1, g2, g3, fun w tape i hf => ?_⟩
  obtain ⟨n, v, w', h1, h2, h3, h4, ⟨j, last, h5, h6, h7, h8, h9⟩, h10⟩ := all w tape i hf
  exact ⟨n, v, w', h1, h2, h3, h4, ⟨j, last, h5, h6, h8, onlyLeaving_of_quiet h7, h9⟩, h10⟩

section
variable {H : Type} {enc : TypeId × Value → H} {P : Program} {w : World} {base : Nat} {spare : Nat → Bool} {held : Bool}
theorem lies_at {a : Addr} {len cap : Nat} {xs : List Value} (hl : xs.length = len) (hc : len ≤ cap) (h : ∀ j u, xs[j]? = some u → w.cell? (a.add j) = some u) : Lies w (.slice (some a) len cap) xs := by
  subst hl
  refine ⟨some a, cap, rfl, hc, fun j u hj => ?_⟩
  obtain ⟨b, off, sp⟩ := a
  have h0 : ∃ u0, xs[0]? = some u0 := by
    have : j < xs.length := (List.getElem?_eq_some_iff.1 hj).1
    exact ⟨_, List.getElem?_eq_getElem (by omega)⟩
  obtain ⟨u0, hu0⟩ := h0
  have hspot : sp = none := by simpa [Addr.add] using World.cell?_spot (h 0 u0 hu0)
  subst hspot
  refine ⟨b, off, rfl, ?_⟩
  rw [← add_off]
  exact h j u hj
theorem lies_none : Lies w (.slice none 0 0) [] := ⟨none, 0, rfl, by simp, fun j u hj => by simp at hj⟩

theorem open_parts {t e : TypeId} {fuel : Nat} {v : Value} {x : DataW H × List MemPlace} (ht : P.underlying t = some (.slice e)) (he : P.underlying e = some .string) (hc : P.cellsOf e = 1) (h : DataW.trod enc P w base (fun _ => true) held fuel t [v] = some x) :
    ∃ ns : List (List UInt8), Lies w v (strV ns) ∧ ns.length ≤ 9223372036854775807 ∧ ∀ n ∈ ns, n.length ≤ 9223372036854775807 := by
  rcases open_strings ht he hc h with ⟨e1, _⟩ | ⟨a, len, cap, ss, e1, _, h1, h2, h3, _, h4, h5⟩
  · cases e1
    exact ⟨[], lies_none, by simp, by simp⟩
  · cases e1
    have hss : ss.length = cap := by simpa using h3
    refine ⟨(ss.take len).map fun s => s.data.toList, lies_at (by simp [strV]; omega) h1 (fun j u hj => ?_), by simp [maxLen] at h2 ⊢; omega, fun n hn => ?_⟩
    · have hj' : j < len := by
        have := (List.getElem?_eq_some_iff.1 hj).1
        simp [strV] at this
        omega
      rw [h4 j (by omega)]
      rw [strV_at (by simp; omega)] at hj
      rw [← hj]
      congr 2
      simp [List.getD_eq_getElem?_getD, hj', List.getElem?_eq_getElem (show j < ss.length by omega)]
    · obtain ⟨s, hs, rfl⟩ := List.mem_map.1 hn
      have h6 : s.size ≤ 9223372036854775807 := h5 s (List.mem_of_mem_take hs)
      have e : s.data.toList.length = s.size := Array.length_toList
      show s.data.toList.length ≤ _
      rw [e]
      exact h6

end
/-- The door's own heap meets the condition. -/
theorem door_met (os : Os) (args : Array Value) : laidMetH Tryd.prog Rows.readersRow.laid ((World.doorLaid Tryd.prog 400 os).forCall (fun _ _ => 0) ⟨#[], args, []⟩).memory :=
  laidMetH_of_parts3 (fuel := 8) (laidMet_of_run' 8 (by kernel_rfl) (by kernel_rfl)) (by kernel_rfl) (by kernel_rfl)

set_option maxRecDepth 100000 in
theorem lifted (os : Os) (started : os.Started) (H : Type) (enc : TypeId × Value → H) :
    ReturnsInHanded {} Tryd.checked os 7 .any (fun w args => (Rows.readersSpec.pre enc Tryd.prog Tryd.f7 [] false w args ∧ laidMetH Tryd.prog Rows.readersRow.laid w) ∧ sizedMet enc Tryd.prog Tryd.f7 (OpenSpec.ofChange Rows.readersSpec) false w args)
      (Rows.readersSpec.post enc Tryd.prog Tryd.f7 false true false false) := by
  refine returnsInHanded_of_change_and (C := Tryd.checked) (X := fun w _ => laidMetH Tryd.prog Rows.readersRow.laid w) (fun _ _ _ hh h => h.of_heap hh) own started (by kernel_rfl) Tryd.func7
    (ChangeSpec.witness_shaped (enc := enc) (C := Tryd.checked) (os := os) (X := fun w _ => laidMetH Tryd.prog Rows.readersRow.laid w) false (World.doorLaid Tryd.prog 400 os) #[.slice none 0 0] 8 rfl (World.shaped_of_RefB (by kernel_rfl) (by kernel_rfl)) (by kernel_rfl) (by kernel_rfl) (by kernel_rfl) (door_met os _)) ?_
  intro W base args ds gs before hval0 hW _ _ hL _
  have hval : ∀ (j : Nat) t v, Tryd.f7.params[j]? = some t → args[j]? = some v → Value.okWide Tryd.prog W .any base t v := hval0
  have hW' := hW
  obtain ⟨p, q, hA0, hV, rfl, hfz, hnd⟩ := hW
  have hA : DataW.TrodAll enc Tryd.prog W 0 (fun _ => true) true Tryd.f7.params.toList args.toList ds p := hA0
  rw [Tryd.params7] at hA hval
  have hlt := hA.lt
  obtain ⟨v0, d0, rfl, rfl, h0⟩ := trodAll_one hA
  obtain ⟨rfl, rfl⟩ := trodVars_none hV
  have h0k := h0
  obtain ⟨ad, len, cp, ev⟩ := okWide_slice Tryd.underlying33 (hval 0 33 v0 rfl rfl)
  subst ev
  obtain ⟨fuel, hf⟩ := h0
  obtain ⟨ps, l4, b4, b4'⟩ := open_parts Tryd.underlying33 Tryd.underlying9 (by kernel_rfl) hf
  have hP := pow_laid hL
  obtain ⟨a, hE⟩ := early_laid hL
  clear hA0 hval0
  simp only [List.append_nil] at hW'
  refine (readers_any ps b4 b4' _ W l4 (tab_laid hL) hP.1 hP.2 a hE (errT_laid hL)).mono fun e W' ⟨he, bel⟩ => ?_
  subst he
  exact ⟨_, rfl, _, _, _, [], _, [], hW', trodAll_mk1 (shut_bool Tryd.underlying4 _), trodAll_mk1 (Below.trod laidOut (by kernel_rfl) (of_decide_eq_true (by kernel_rfl)) h0k bel (by simpa using hlt)), rfl, bel.frame _, fun h => by cases h⟩

theorem over : Rows.ReadersSaid :=
  OpenClaim.holds_of_wide_leaving 7 Tryd.f7 rfl rfl rfl rfl rfl rfl rfl ⟨rfl, rfl, rfl, rfl, rfl⟩ rfl rfl rfl rfl rfl (by kernel_rfl) Tryd.func7 (by kernel_rfl)
    (of_decide_eq_true (by kernel_rfl)) (by unfold Func.isWrapper; first | (rw [if_pos (by decide +kernel)]; kernel_rfl) | (rw [if_neg (by decide +kernel)]; exact ⟨rfl, rfl⟩))
    (fun os started H enc _ => leaving_of (lifted os started H enc))

theorem looksAt : ∀ f fn, Tryd.pinned.checked.prog.funcNamed Rows.readersRow.func = some f → Tryd.pinned.checked.prog.funcs[f]? = some fn → true = Tryd.pinned.checked.prog.looks [] ∧ ∀ (j : Nat) t, fn.params[j]? = some t → Tryd.pinned.checked.prog.wantsStandIn t = false := fun f fn hf hfn => by
  obtain rfl : f = 7 := Option.some.inj ((show Tryd.prog.funcNamed "cairn/cairnlaw.Readers" = some 7 by kernel_rfl).symm.trans hf) |>.symm
  obtain rfl : fn = Tryd.f7 := (Option.some.inj (Tryd.func7.symm.trans hfn)).symm
  exact ⟨by kernel_rfl, fun j t ht => by
    rw [Tryd.params7] at ht
    have hm : t ∈ [33] := by simpa using Array.mem_of_getElem? ht
    have hall : ([33].all fun u => !Tryd.prog.wantsStandIn u) = true := by kernel_rfl
    exact (show Tryd.prog.wantsStandIn t = false by simpa using List.all_eq_true.1 hall t hm)⟩

theorem proved : Rows.ReadersCardSaid :=
  ⟨Claim7.tied_new_at .later [.data, .data, .data, .data, .handle, .sentinel] true (Claim7.new_of_sixth over Rows.readersCard.stood.harness true rfl ⟨rfl, rfl⟩ (by kernel_rfl) (by kernel_rfl) looksAt) (by kernel_rfl), (fun _ h => by cases h), readers_row_tie, (fun h => by cases h), by kernel_rfl⟩
end Go.Proofs.YtkpcmfgeanlcnaaDoor.readers
