/-
  DERIVED. GIVEN WITH THE SEED: THE CARDS: each row of YtnbflnamlpodcaaGreatDoorRows.lean that lists a variable, with what it lists TIED to the program's text (the seventh form; the later family's looks); each row that meets fmt, with fmt's text TOLD by the authors' own Lean function (tested against real Go, not proved from fmt's source: count such statements apart). THE CARD IS WHAT COUNTS. Prove the row's statement (the work); the ties are given (YtnbflnamlpodcaaGreatDoorTie.lean); close each card by the builder's one call (the guide's Derived/Test/ToyasCard.lean, 'card_holds'). Laid BY PROGRAM, IN A SANDBOX (cutbox-door.mjs). By AI agents, Wed Nov 11 2026. No macro, syntax, notation, axiom, sorry.
-/
import Derived.Test.YtnbflnamlpodcaaGreatDoorRows
import GoSem.ClaimSeven
namespace Go.Proofs.YtnbflnamlpodcaaGreatDoor
namespace Rows

/-- THE TIED CARD OF 'cairnkeep.Any'. -/
def anyCard : Claim7 := { stood := { row := anyRow, standIns := [], harness := (true, "74fb48279c74eedf2827367c35ee219466a82c8671277867c0c6fda9cbc5fb5c"), looks := true }, kinds := [], alts := [], goes := true, laidByText := true, laidKinds := [.data, .data, .data, .data, .handle, .sentinel], laidTests := true, laidLooks := .later }
def AnyCardSaid : Prop := Claim7.holds Tryz.pinned (.plain (OpenSpec.ofChange anySpec)) anyCard

/-- THE TIED CARD OF 'cairnkeep.Damaged'. -/
def damagedCard : Claim7 := { stood := { row := damagedRow, standIns := [], harness := (true, "74fb48279c74eedf2827367c35ee219466a82c8671277867c0c6fda9cbc5fb5c"), looks := true }, kinds := [], alts := [], goes := true, laidByText := true, laidKinds := [.data, .data, .data, .data, .handle, .sentinel], laidTests := true, laidLooks := .later }
def DamagedCardSaid : Prop := Claim7.holds Tryz.pinned (.plain (OpenSpec.ofChange damagedSpec)) damagedCard

/-- THE TIED CARD OF 'cairnkeep.Honest'. -/
def honestCard : Claim7 := { stood := { row := honestRow, standIns := [], harness := (true, "74fb48279c74eedf2827367c35ee219466a82c8671277867c0c6fda9cbc5fb5c"), looks := true }, kinds := [], alts := [], goes := true, laidByText := true, laidKinds := [.data, .data, .data, .data, .handle, .sentinel], laidTests := true, laidLooks := .later }
def HonestCardSaid : Prop := Claim7.holds Tryz.pinned (.plain (OpenSpec.ofChange honestSpec)) honestCard

/-- THE SECOND FORM's CARD OF 'cairnkeep.Any'. -/
def anyUptoCard : Claim7 := { stood := { row := anyUptoRow, standIns := [], harness := (true, "74fb48279c74eedf2827367c35ee219466a82c8671277867c0c6fda9cbc5fb5c"), looks := true }, kinds := [], alts := [], goes := true, laidByText := true, laidKinds := [.data, .data, .data, .data, .handle, .sentinel], laidTests := true, laidLooks := .later }
def AnyUptoCardSaid : Prop := Claim7.holds Tryz.pinned (.plain (OpenSpec.upto anySpec)) anyUptoCard

/-- THE SECOND FORM's CARD OF 'cairnkeep.Damaged'. -/
def damagedUptoCard : Claim7 := { stood := { row := damagedUptoRow, standIns := [], harness := (true, "74fb48279c74eedf2827367c35ee219466a82c8671277867c0c6fda9cbc5fb5c"), looks := true }, kinds := [], alts := [], goes := true, laidByText := true, laidKinds := [.data, .data, .data, .data, .handle, .sentinel], laidTests := true, laidLooks := .later }
def DamagedUptoCardSaid : Prop := Claim7.holds Tryz.pinned (.plain (OpenSpec.upto damagedSpec)) damagedUptoCard

/-- THE SECOND FORM's CARD OF 'cairnkeep.Honest'. -/
def honestUptoCard : Claim7 := { stood := { row := honestUptoRow, standIns := [], harness := (true, "74fb48279c74eedf2827367c35ee219466a82c8671277867c0c6fda9cbc5fb5c"), looks := true }, kinds := [], alts := [], goes := true, laidByText := true, laidKinds := [.data, .data, .data, .data, .handle, .sentinel], laidTests := true, laidLooks := .later }
def HonestUptoCardSaid : Prop := Claim7.holds Tryz.pinned (.plain (OpenSpec.upto honestSpec)) honestUptoCard
end Rows
end Go.Proofs.YtnbflnamlpodcaaGreatDoor
