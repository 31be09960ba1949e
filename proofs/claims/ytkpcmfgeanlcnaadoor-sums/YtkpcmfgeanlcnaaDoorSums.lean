/-
  For every string the call Sums of the program's statements returns true and leaves its argument as it was; the table of sixteen numbers is tied to the program's own text (the card).
-/
import Derived.Test.YtkpcmfgeanlcnaaDoorRows
import Derived.Test.YtkpcmfgeanlcnaaDoorCards
import Derived.Test.YtkpcmfgeanlcnaaDoorTie
import Derived.Test.YtkpcmfgeanlcnaaDoorSumW
import Derived.WalkKit
import Derived.ProofKit
import Derived.OpenShut
import Derived.ShutString
import Derived.ChangeOld
import Derived.Below
import Derived.LaidMore
import Derived.Stop.Joined
import Derived.SevenTiedAt
import Derived.Lib.LaidTab
namespace Go.Proofs.YtkpcmfgeanlcnaaDoor.sums
open Go.ChangeShapes Go.WideShapes Go.ChangeAt Go.RowKit
open Go.ChangeMaps (open_string shut_string)

theorem own : ownKnob Tryd.prog.godebug = none := by kernel_rfl
theorem laidOut : laidOutB Tryd.prog = true := by kernel_rfl
theorem gTab : Tryd.prog.globalNamed "cairn/sum.fourSteps" = some 0 := by kernel_rfl
theorem tTab : (Tryd.prog.globals[0]?).map (·.type) = some 80 := by kernel_rfl

def bytesOf (s : ByteArray) : List Nat := s.data.toList.map UInt8.toNat
theorem bytesOf_length (s : ByteArray) : (bytesOf s).length = s.size := by simp [bytesOf]
theorem bytesOf_lt (s : ByteArray) (i : Nat) : (bytesOf s).getD i 0 < 256 := by
  rw [List.getD_eq_getElem?_getD]
  unfold bytesOf
  rw [List.getElem?_map]
  cases s.data.toList[i]? with
  | none => simp
  | some b => simpa using b.toNat_lt

/-- '[]byte(s)': a new row that holds the string's bytes; nothing old has turned. -/
theorem bytes_new (s : ByteArray) (w : World) : ∃ cap w', (convert 9 24 (.string s)).run Tryd.prog w = .ok (.slice (some ⟨w.heap.size, 0, none⟩) s.size cap) w' ∧ Below w.heap.size w w' ∧ w'.heap.size = w.heap.size + 1 ∧
    ∀ i, i < s.size → w'.cell? ⟨w.heap.size, 0 + i, none⟩ = some (.int .u8 (((bytesOf s).getD i 0 : Nat) : Int)) := by
  refine ⟨_, _, run_bytes_of_string w _ _ 5 s Tryd.underlying9 Tryd.underlying24 Tryd.underlying5, ((Below.refl _ _).drew).alloc (Nat.le_refl _) _, ?_, ?_⟩
  · simp
  · intro i hi
    have h := World.cell?_alloc_mark w.drew (bytesRow s (grownCap w s.size 0 5)) 5 ((bytesRow s (grownCap w s.size 0 5)).size, (bytesRow s (grownCap w s.size 0 5)).size + 1) i
    rw [Nat.zero_add]
    refine Eq.trans h ?_
    unfold bytesRow
    rw [Array.getElem?_append_left (by simpa using hi)]
    simp [bytesOf, hi]

set_option maxHeartbeats 400000 in
set_option maxRecDepth 100000 in
theorem walk (s : ByteArray) (hs : s.size ≤ maxLen) (w : World) (hpos : 0 < w.heap.size)
    (ht : ∀ i, i < 16 → w.cell? ⟨0, i, none⟩ = some (.int .u64 ((crcTab.getD i 0 : Nat) : Int))) :
    Calls Tryd.prog 3 #[.string s] w fun e w' => e = .returned (.bool true) ∧ Below w.heap.size w w' := by
  have hz : s.size ≤ 9223372036854775807 := hs
  obtain ⟨c1, w1, hr1, hb1, hz1, hc1⟩ := bytes_new s w
  obtain ⟨c2, w2, hr2, hb2, hz2, hc2⟩ := bytes_new s w1
  have ht1 : ∀ i, i < 16 → w1.cell? ⟨0, i, none⟩ = some (.int .u64 ((crcTab.getD i 0 : Nat) : Int)) := fun i hi => (hb1.cell (p := ⟨0, i, none⟩) hpos).trans (ht i hi)
  have k1 := csum_row _ _ _ c1 (bytesOf s) (bytesOf_length s) (fun i _ => bytesOf_lt s i) hz w1 hc1 ht1
  have k2 := rsum_row _ _ _ c2 (bytesOf s) (bytesOf_length s) (fun i _ => bytesOf_lt s i) hz w2 hc2
  have hb : Below w.heap.size w w2 := hb1.trans (hb2.mono (by omega))
  clear hc1 hc2 ht ht1 hz1 hz2
  go_enter Tryd.func3, Tryd.ntmps3
  go_wp2_with (first | (go_at_call 8; with_reducible refine k1.mono ?_; rintro e w' ⟨rfl, rfl⟩) | (go_at_call 9; with_reducible refine k2.mono ?_; rintro e w' ⟨rfl, rfl⟩))
  go_ret
  exact ⟨rfl, hb⟩

/-- What the row's condition says of the table. -/
theorem tab_of {W : World} (h : laidMetH Tryd.prog Rows.sumsRow.laid W) : 0 < W.heap.size ∧ ∀ i, i < 16 → W.cell? ⟨0, i, none⟩ = some (.int .u64 ((crcTab.getD i 0 : Nat) : Int)) := by
  rw [MakeChecks.laidMetH_plain _ _ _ (by kernel_rfl)] at h
  have hT : Lib.TabIs Tryd.prog W "cairn/sum.fourSteps" .u64 (crcTab.map fun (n : Nat) => (n : Int)) :=
    Lib.tabIs_of_head gTab tTab Tryd.underlying80 Tryd.underlying22 (by kernel_rfl) (by kernel_rfl) h
  have hc : ∀ i, i < 16 → W.cell? ⟨0, i, none⟩ = some (.int .u64 ((crcTab.getD i 0 : Nat) : Int)) := by
    intro i hi
    have := hT.cell gTab i (by simpa [crcTab] using hi)
    rw [this]
    simp only [List.getD_eq_getElem?_getD, List.getElem?_map]
    cases crcTab[i]? <;> simp
  refine ⟨?_, hc⟩
  have h0 := hc 0 (by omega)
  rcases Nat.eq_zero_or_pos W.heap.size with e | e
  · rw [World.cell?] at h0
    have : W.heap[0]? = none := by simp [e]
    simp [this] at h0
  · exact e

/-- The door's own heap meets the condition. -/
theorem door_met (os : Os) (args : Array Value) : laidMetH Tryd.prog Rows.sumsRow.laid ((World.doorLaid Tryd.prog 400 os).forCall (fun _ _ => 0) ⟨#[], args, []⟩).memory :=
  laidMetH_of_parts3 (fuel := 8) (laidMet_of_run' 8 (by kernel_rfl) (by kernel_rfl)) (by kernel_rfl) (by kernel_rfl)

set_option maxRecDepth 100000 in
theorem lifted (os : Os) (started : os.Started) (H : Type) (enc : TypeId × Value → H) :
    ReturnsInHanded {} Tryd.checked os 3 .any (fun w args => (Rows.sumsSpec.pre enc Tryd.prog Tryd.f3 [] false w args ∧ laidMetH Tryd.prog Rows.sumsRow.laid w) ∧ sizedMet enc Tryd.prog Tryd.f3 (OpenSpec.ofChange Rows.sumsSpec) false w args)
      (Rows.sumsSpec.post enc Tryd.prog Tryd.f3 false true false false) := by
  refine returnsInHanded_of_change_and (C := Tryd.checked) (X := fun w _ => laidMetH Tryd.prog Rows.sumsRow.laid w) (fun _ _ _ hh h => h.of_heap hh) own started (by kernel_rfl) Tryd.func3
    (ChangeSpec.witness_shaped (enc := enc) (C := Tryd.checked) (os := os) (X := fun w _ => laidMetH Tryd.prog Rows.sumsRow.laid w) false (World.doorLaid Tryd.prog 400 os) #[.string ByteArray.empty] 8 rfl (World.shaped_of_RefB (by kernel_rfl) (by kernel_rfl)) (by kernel_rfl) (by kernel_rfl) (by kernel_rfl) (door_met os _)) ?_
  intro W base args ds gs before hval0 hW _ _ hL _
  have hval : ∀ (j : Nat) t v, Tryd.f3.params[j]? = some t → args[j]? = some v → Value.okWide Tryd.prog W .any base t v := hval0
  have hW' := hW
  obtain ⟨p, q, hA0, hV, rfl, hfz, hnd⟩ := hW
  have hA : DataW.TrodAll enc Tryd.prog W 0 (fun _ => true) true Tryd.f3.params.toList args.toList ds p := hA0
  rw [Tryd.params3] at hA hval
  obtain ⟨v0, d0, rfl, rfl, h0⟩ := trodAll_one hA
  obtain ⟨rfl, rfl⟩ := trodVars_none hV
  obtain ⟨s, rfl, rfl, rfl, hs⟩ := open_string Tryd.underlying9 (hval 0 9 v0 rfl rfl) h0
  obtain ⟨hpos, htab⟩ := tab_of hL
  clear hA0 hval0
  simp only [List.append_nil] at hW'
  refine (walk s hs W hpos htab).mono fun e W' ⟨he, bel⟩ => ?_
  subst he
  exact ⟨_, rfl, _, _, _, [], [], [], hW', trodAll_mk1 (shut_bool Tryd.underlying4 _), trodAll_mk1 (shut_string Tryd.underlying9 hs), rfl, bel.frame _, fun h => by cases h⟩

theorem over : Rows.SumsSaid :=
  OpenClaim.holds_of_wide 3 Tryd.f3 rfl rfl rfl rfl rfl rfl rfl ⟨rfl, rfl, rfl, rfl, rfl⟩ rfl rfl rfl rfl rfl (by kernel_rfl) Tryd.func3 (by kernel_rfl)
    (of_decide_eq_true (by kernel_rfl)) (by unfold Func.isWrapper; first | (rw [if_pos (by decide +kernel)]; kernel_rfl) | (rw [if_neg (by decide +kernel)]; exact ⟨rfl, rfl⟩))
    (fun os started H enc _ => lifted os started H enc)

theorem proved : Rows.SumsCardSaid :=
  Claim7.holds_tied_plain_at .later [] [.data] true Rows.sumsCard.stood.harness Rows.sumsCard.stood.looks
    over (fun _ h => by cases h) (by kernel_rfl) (fun _ h => by cases h) sums_row_tie rfl ⟨rfl, rfl⟩ (by kernel_rfl) rfl
    (fun f fn hf hfn => by
      obtain rfl : f = 3 := Option.some.inj ((show Tryd.prog.funcNamed "cairn/cairnlaw.Sums" = some 3 by kernel_rfl).symm.trans hf) |>.symm
      obtain rfl : fn = Tryd.f3 := (Option.some.inj (Tryd.func3.symm.trans hfn)).symm
      exact ⟨by kernel_rfl, fun j t ht => by
        rw [Tryd.params3] at ht
        have hm : t ∈ [9] := by simpa using Array.mem_of_getElem? ht
        have hall : ([9].all fun u => !Tryd.prog.wantsStandIn u) = true := by kernel_rfl
        exact (show Tryd.prog.wantsStandIn t = false by simpa using List.all_eq_true.1 hall t hm)⟩)
    (by kernel_rfl)
end Go.Proofs.YtkpcmfgeanlcnaaDoor.sums
