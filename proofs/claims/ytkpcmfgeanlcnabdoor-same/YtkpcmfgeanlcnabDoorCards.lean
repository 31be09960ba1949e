/-
  DERIVED. GIVEN WITH THE SEED: THE CARDS: each row of YtkpcmfgeanlcnabDoorRows.lean that lists a variable, with what it lists TIED to the program's text (the seventh form; the later family's looks); each row that meets fmt, with fmt's text TOLD by the authors' own Lean function (tested against real Go, not proved from fmt's source: count such statements apart). THE CARD IS WHAT COUNTS. Prove the row's statement (the work); the ties are given (YtkpcmfgeanlcnabDoorTie.lean); close each card by the builder's one call (the guide's Derived/Test/ToyasCard.lean, 'card_holds'). Laid BY PROGRAM, IN A SANDBOX (cutbox-door.mjs). By AI agents, Wed Nov 11 2026. No macro, syntax, notation, axiom, sorry.
-/
import Derived.Test.YtkpcmfgeanlcnabDoorRows
import GoSem.ClaimSeven
namespace Go.Proofs.YtkpcmfgeanlcnabDoor
namespace Rows

/-- THE TIED CARD OF 'cairnkeep.Same'. -/
def sameCard : Claim7 := { stood := { row := sameRow, standIns := [], harness := (true, "f92802bd6fb41393d1ca65a871532a7b6dd04c7fd506bbf45abbe5da742b29a2"), looks := false }, kinds := [], alts := [], goes := true, laidByText := true, laidKinds := [.data], laidTests := true, laidLooks := .later }
def SameCardSaid : Prop := Claim7.holds Tryd.pinned (.plain (OpenSpec.ofChange sameSpec)) sameCard

/-- THE SECOND FORM's CARD OF 'cairnkeep.Same'. -/
def sameUptoCard : Claim7 := { stood := { row := sameUptoRow, standIns := [], harness := (true, "f92802bd6fb41393d1ca65a871532a7b6dd04c7fd506bbf45abbe5da742b29a2"), looks := false }, kinds := [], alts := [], goes := true, laidByText := true, laidKinds := [.data], laidTests := true, laidLooks := .later }
def SameUptoCardSaid : Prop := Claim7.holds Tryd.pinned (.plain (OpenSpec.upto sameSpec)) sameUptoCard
end Rows
end Go.Proofs.YtkpcmfgeanlcnabDoor
