/-
  DERIVED. GIVEN WITH THE SEED: THE CARDS: each row of YtlghjjennhpjeaaGreatDoorRows.lean that lists a variable, with what it lists TIED to the program's text (the seventh form; the later family's looks); each row that meets fmt, with fmt's text TOLD by the authors' own Lean function (tested against real Go, not proved from fmt's source: count such statements apart). THE CARD IS WHAT COUNTS. Prove the row's statement (the work); the ties are given (YtlghjjennhpjeaaGreatDoorTie.lean); close each card by the builder's one call (the guide's Derived/Test/ToyasCard.lean, 'card_holds'). Laid BY PROGRAM, IN A SANDBOX (cutbox-door.mjs). By AI agents, Wed Nov 11 2026. No macro, syntax, notation, axiom, sorry.
-/
import Derived.Test.YtlghjjennhpjeaaGreatDoorRows
import GoSem.ClaimSeven
namespace Go.Proofs.YtlghjjennhpjeaaGreatDoor
namespace Rows

/-- THE TIED CARD OF 'cairnlaw.Decodes'. -/
def decodesCard : Claim7 := { stood := { row := decodesRow, standIns := [], harness := (true, "9ff5f91ac7befd79232cf8106dc787175db8df149b51134073137a4f07cfd425"), looks := true }, kinds := [], alts := [], goes := true, laidByText := true, laidKinds := [.data, .data, .data, .data, .handle, .sentinel], laidTests := true, laidLooks := .later }
def DecodesCardSaid : Prop := Claim7.holds Tryz.pinned (.plain (OpenSpec.ofChange decodesSpec)) decodesCard

/-- THE SECOND FORM's CARD OF 'cairnlaw.Decodes'. -/
def decodesUptoCard : Claim7 := { stood := { row := decodesUptoRow, standIns := [], harness := (true, "9ff5f91ac7befd79232cf8106dc787175db8df149b51134073137a4f07cfd425"), looks := true }, kinds := [], alts := [], goes := true, laidByText := true, laidKinds := [.data, .data, .data, .data, .handle, .sentinel], laidTests := true, laidLooks := .later }
def DecodesUptoCardSaid : Prop := Claim7.holds Tryz.pinned (.plain (OpenSpec.upto decodesSpec)) decodesUptoCard
end Rows
end Go.Proofs.YtlghjjennhpjeaaGreatDoor
