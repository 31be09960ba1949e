/-
  DERIVED. GIVEN WITH THE SEED: THE CARDS: each row of YtcfjjnhpdhcilaaDoorRows.lean that lists a variable, with what it lists TIED to the program's text (the seventh form; the later family's looks); each row that meets fmt, with fmt's text TOLD by the authors' own Lean function (tested against real Go, not proved from fmt's source: count such statements apart). THE CARD IS WHAT COUNTS. Prove the row's statement (the work); the ties are given (YtcfjjnhpdhcilaaDoorTie.lean); close each card by the builder's one call (the guide's Derived/Test/ToyasCard.lean, 'card_holds'). Laid BY PROGRAM, IN A SANDBOX (cutbox-door.mjs). By AI agents, Wed Nov 11 2026. No macro, syntax, notation, axiom, sorry.
-/
import Derived.Test.YtcfjjnhpdhcilaaDoorRows
import GoSem.ClaimSeven
namespace Go.Proofs.YtcfjjnhpdhcilaaDoor
namespace Rows

/-- THE TIED CARD OF 'cairnlaw.Sums'. -/
def sumsCard : Claim7 := { stood := { row := sumsRow, standIns := [], harness := (true, "2b6767ad271120b9fef88e62f40f269a5a02eb1b5fb04db9117236c13ea452b8"), looks := false }, kinds := [], alts := [], laidByText := true, laidKinds := [.data], laidTests := true, laidLooks := .later }
def SumsCardSaid : Prop := Claim7.holds Tryd.pinned (.plain (OpenSpec.ofChange sumsSpec)) sumsCard

/-- THE SECOND FORM's CARD OF 'cairnlaw.Sums'. -/
def sumsUptoCard : Claim7 := { stood := { row := sumsUptoRow, standIns := [], harness := (true, "2b6767ad271120b9fef88e62f40f269a5a02eb1b5fb04db9117236c13ea452b8"), looks := false }, kinds := [], alts := [], laidByText := true, laidKinds := [.data], laidTests := true, laidLooks := .later }
def SumsUptoCardSaid : Prop := Claim7.holds Tryd.pinned (.plain (OpenSpec.upto sumsSpec)) sumsUptoCard
end Rows
end Go.Proofs.YtcfjjnhpdhcilaaDoor
