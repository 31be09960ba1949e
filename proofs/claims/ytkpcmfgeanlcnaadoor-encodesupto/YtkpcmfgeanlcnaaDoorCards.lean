/-
  DERIVED. GIVEN WITH THE SEED: THE CARDS: each row of YtkpcmfgeanlcnaaDoorRows.lean that lists a variable, with what it lists TIED to the program's text (the seventh form; the later family's looks); each row that meets fmt, with fmt's text TOLD by the authors' own Lean function (tested against real Go, not proved from fmt's source: count such statements apart). THE CARD IS WHAT COUNTS. Prove the row's statement (the work); the ties are given (YtkpcmfgeanlcnaaDoorTie.lean); close each card by the builder's one call (the guide's Derived/Test/ToyasCard.lean, 'card_holds'). Laid BY PROGRAM, IN A SANDBOX (cutbox-door.mjs). By AI agents, Wed Nov 11 2026. No macro, syntax, notation, axiom, sorry.
-/
import Derived.Test.YtkpcmfgeanlcnaaDoorRows
import GoSem.ClaimSeven
namespace Go.Proofs.YtkpcmfgeanlcnaaDoor
namespace Rows

/-- THE TIED CARD OF 'cairnlaw.Sums'. -/
def sumsCard : Claim7 := { stood := { row := sumsRow, standIns := [], harness := (true, "c92d31ab97bb4cf7556ab8f81919e9869d6d18bf32b49e4bf505a4d67f99bfd9"), looks := true }, kinds := [], alts := [], laidByText := true, laidKinds := [.data], laidTests := true, laidLooks := .later }
def SumsCardSaid : Prop := Claim7.holds Tryd.pinned (.plain (OpenSpec.ofChange sumsSpec)) sumsCard

/-- THE TIED CARD OF 'cairnlaw.Encodes'. -/
def encodesCard : Claim7 := { stood := { row := encodesRow, standIns := [], harness := (true, "c92d31ab97bb4cf7556ab8f81919e9869d6d18bf32b49e4bf505a4d67f99bfd9"), looks := true }, kinds := [], alts := [], goes := true, laidByText := true, laidKinds := [.data], laidTests := true, laidLooks := .later }
def EncodesCardSaid : Prop := Claim7.holds Tryd.pinned (.plain (OpenSpec.ofChange encodesSpec)) encodesCard

/-- THE TIED CARD OF 'cairnlaw.Parses'. -/
def parsesCard : Claim7 := { stood := { row := parsesRow, standIns := [], harness := (true, "c92d31ab97bb4cf7556ab8f81919e9869d6d18bf32b49e4bf505a4d67f99bfd9"), looks := true }, kinds := [], alts := [], goes := true, laidByText := true, laidKinds := [.data, .data, .data, .data, .handle, .sentinel], laidTests := true, laidLooks := .later }
def ParsesCardSaid : Prop := Claim7.holds Tryd.pinned (.plain (OpenSpec.ofChange parsesSpec)) parsesCard

/-- THE TIED CARD OF 'cairnlaw.Writes'. -/
def writesCard : Claim7 := { stood := { row := writesRow, standIns := [], harness := (true, "c92d31ab97bb4cf7556ab8f81919e9869d6d18bf32b49e4bf505a4d67f99bfd9"), looks := true }, kinds := [], alts := [], goes := true, laidByText := true, laidKinds := [.data], laidTests := true, laidLooks := .later }
def WritesCardSaid : Prop := Claim7.holds Tryd.pinned (.plain (OpenSpec.ofChange writesSpec)) writesCard

/-- THE TIED CARD OF 'cairnlaw.Readers'. -/
def readersCard : Claim7 := { stood := { row := readersRow, standIns := [], harness := (true, "c92d31ab97bb4cf7556ab8f81919e9869d6d18bf32b49e4bf505a4d67f99bfd9"), looks := true }, kinds := [], alts := [], goes := true, laidByText := true, laidKinds := [.data, .data, .data, .data, .handle, .sentinel], laidTests := true, laidLooks := .later }
def ReadersCardSaid : Prop := Claim7.holds Tryd.pinned (.plain (OpenSpec.ofChange readersSpec)) readersCard

/-- THE SECOND FORM's CARD OF 'cairnlaw.Sums'. -/
def sumsUptoCard : Claim7 := { stood := { row := sumsUptoRow, standIns := [], harness := (true, "c92d31ab97bb4cf7556ab8f81919e9869d6d18bf32b49e4bf505a4d67f99bfd9"), looks := true }, kinds := [], alts := [], laidByText := true, laidKinds := [.data], laidTests := true, laidLooks := .later }
def SumsUptoCardSaid : Prop := Claim7.holds Tryd.pinned (.plain (OpenSpec.upto sumsSpec)) sumsUptoCard

/-- THE SECOND FORM's CARD OF 'cairnlaw.Encodes'. -/
def encodesUptoCard : Claim7 := { stood := { row := encodesUptoRow, standIns := [], harness := (true, "c92d31ab97bb4cf7556ab8f81919e9869d6d18bf32b49e4bf505a4d67f99bfd9"), looks := true }, kinds := [], alts := [], goes := true, laidByText := true, laidKinds := [.data], laidTests := true, laidLooks := .later }
def EncodesUptoCardSaid : Prop := Claim7.holds Tryd.pinned (.plain (OpenSpec.upto encodesSpec)) encodesUptoCard

/-- THE SECOND FORM's CARD OF 'cairnlaw.Parses'. -/
def parsesUptoCard : Claim7 := { stood := { row := parsesUptoRow, standIns := [], harness := (true, "c92d31ab97bb4cf7556ab8f81919e9869d6d18bf32b49e4bf505a4d67f99bfd9"), looks := true }, kinds := [], alts := [], goes := true, laidByText := true, laidKinds := [.data, .data, .data, .data, .handle, .sentinel], laidTests := true, laidLooks := .later }
def ParsesUptoCardSaid : Prop := Claim7.holds Tryd.pinned (.plain (OpenSpec.upto parsesSpec)) parsesUptoCard

/-- THE SECOND FORM's CARD OF 'cairnlaw.Writes'. -/
def writesUptoCard : Claim7 := { stood := { row := writesUptoRow, standIns := [], harness := (true, "c92d31ab97bb4cf7556ab8f81919e9869d6d18bf32b49e4bf505a4d67f99bfd9"), looks := true }, kinds := [], alts := [], goes := true, laidByText := true, laidKinds := [.data], laidTests := true, laidLooks := .later }
def WritesUptoCardSaid : Prop := Claim7.holds Tryd.pinned (.plain (OpenSpec.upto writesSpec)) writesUptoCard

/-- THE SECOND FORM's CARD OF 'cairnlaw.Readers'. -/
def readersUptoCard : Claim7 := { stood := { row := readersUptoRow, standIns := [], harness := (true, "c92d31ab97bb4cf7556ab8f81919e9869d6d18bf32b49e4bf505a4d67f99bfd9"), looks := true }, kinds := [], alts := [], goes := true, laidByText := true, laidKinds := [.data, .data, .data, .data, .handle, .sentinel], laidTests := true, laidLooks := .later }
def ReadersUptoCardSaid : Prop := Claim7.holds Tryd.pinned (.plain (OpenSpec.upto readersSpec)) readersUptoCard
end Rows
end Go.Proofs.YtkpcmfgeanlcnaaDoor
