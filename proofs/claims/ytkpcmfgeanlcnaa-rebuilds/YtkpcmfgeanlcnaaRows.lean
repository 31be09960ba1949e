/-
  No cell of these rows narrows 'for every input' (looked for: loops, veiled, ifaces, maps, wideKeys, modest, calm, conditions, laid).
  DERIVED. THE GIVEN ROWS OF THIS SEAT. 5 by the template 'for every input the law returns true; each argument reads behind the call as it read before'; 0 by the template 'total and deterministic' (their statements: YtkpcmfgeanlcnaaTotals.lean).
  GIVEN WITH THE SEED: the statements are not yours to turn. If you find one false, say at which input.
  Laid BY PROGRAM, IN A SANDBOX (cutbox-rows.mjs): the forced cells as the released guide's own fill.sh prints them over the translation 30f28fecc3ad4f98… (all of the seat's roots in one cut). By AI agents, Wed Nov 11 2026. No macro, syntax, notation, axiom, sorry.
-/
import Derived.Test.YtkpcmfgeanlcnaaChecked
import GoSem.Claim
import GoSem.ClaimJoined
import GoSem.ClaimMapViews
import Derived.JoinedTies
import Derived.KernelRfl
namespace Go.Proofs.Ytkpcmfgeanlcnaa
/- THE CELL 'sum', in the pinned program and in every row, IS THE sha256 OF THE DUMP (.gsa) THAT YtkpcmfgeanlcnaaProg.lean LOADS. Nothing in Lean hashes anything: it is a label: what it is worth is what the hold of that sum in a sandbox is worth. -/
noncomputable def Try.pinned : Pinned := { name := "ytkpcmfgeanlcnaa", sum := "30f28fecc3ad4f9850687684c1183d140b0ee0aebcec33bc37fb5bf47b6e1332", checked := Try.checked }
namespace Rows
def none {H : Type} : Left H := { results := [], args := [] }

/-- 'cairnlaw.Bytes': WHATEVER THE INPUT: true; the input reads as it did. -/
def bytesSpec : ChangeSpec := { name := "bytes", fn := fun _ => fun
  | [d1, d2] => { results := [.lit (.bool true)], args := [d1, d2] }
  | _ => none }
def bytesRow : OpenClaim := { program := "ytkpcmfgeanlcnaa", sum := "30f28fecc3ad4f9850687684c1183d140b0ee0aebcec33bc37fb5bf47b6e1332", func := "cairn/cairnlaw.Bytes", spec := "bytes", apart := false }
def BytesSaid : Prop := bytesRow.holds Try.pinned (OpenSpec.ofChange bytesSpec)

/-- ITS FALSE NEIGHBOUR: 'it returns false'. Refute it at one input. -/
def bytesWrong : ChangeSpec := { name := "bytes", fn := fun _ => fun
  | [d1, d2] => { results := [.lit (.bool false)], args := [d1, d2] }
  | _ => none }
def BytesWrongFalsely : Prop := bytesRow.holds Try.pinned (OpenSpec.ofChange bytesWrong)

/-- 'cairnlaw.Lines': WHATEVER THE INPUT: true; the input reads as it did. -/
def linesSpec : ChangeSpec := { name := "lines", fn := fun _ => fun
  | [d1, d2] => { results := [.lit (.bool true)], args := [d1, d2] }
  | _ => none }
def linesRow : OpenClaim := { program := "ytkpcmfgeanlcnaa", sum := "30f28fecc3ad4f9850687684c1183d140b0ee0aebcec33bc37fb5bf47b6e1332", func := "cairn/cairnlaw.Lines", spec := "lines", apart := false }
def LinesSaid : Prop := linesRow.holds Try.pinned (OpenSpec.ofChange linesSpec)

/-- ITS FALSE NEIGHBOUR: 'it returns false'. Refute it at one input. -/
def linesWrong : ChangeSpec := { name := "lines", fn := fun _ => fun
  | [d1, d2] => { results := [.lit (.bool false)], args := [d1, d2] }
  | _ => none }
def LinesWrongFalsely : Prop := linesRow.holds Try.pinned (OpenSpec.ofChange linesWrong)

/-- 'cairnlaw.Rebuilds': WHATEVER THE INPUT: true; the input reads as it did. -/
def rebuildsSpec : ChangeSpec := { name := "rebuilds", fn := fun _ => fun
  | [d1, d2, d3] => { results := [.lit (.bool true)], args := [d1, d2, d3] }
  | _ => none }
def rebuildsRow : OpenClaim := { program := "ytkpcmfgeanlcnaa", sum := "30f28fecc3ad4f9850687684c1183d140b0ee0aebcec33bc37fb5bf47b6e1332", func := "cairn/cairnlaw.Rebuilds", spec := "rebuilds", inPlace := ["(*sync.WaitGroup).Add", "internal/race.ReleaseMerge", "internal/race.Disable", "internal/race.Enable", "internal/synctest.IsInBubble", "internal/synctest.Associate[sync.WaitGroup]", "sync.fatal", "sync/atomic.OrUint64", "sync/atomic.AddUint64", "internal/race.Read", "sync/atomic.LoadUint64", "sync/atomic.StoreUint64", "internal/synctest.Disassociate[sync.WaitGroup]", "sync.runtime_Semrelease", "(*sync.WaitGroup).Done", "(*sync.WaitGroup).Wait", "internal/race.Acquire", "internal/synctest.IsAssociated[sync.WaitGroup]", "sync/atomic.CompareAndSwapUint64", "internal/race.Write", "sync.runtime_SemacquireWaitGroup"], unfollowed := true, recurses := true, leaving := true, apart := false }
def RebuildsSaid : Prop := rebuildsRow.holds Try.pinned (OpenSpec.ofChange rebuildsSpec)

/-- ITS FALSE NEIGHBOUR: 'it returns false'. Refute it at one input. -/
def rebuildsWrong : ChangeSpec := { name := "rebuilds", fn := fun _ => fun
  | [d1, d2, d3] => { results := [.lit (.bool false)], args := [d1, d2, d3] }
  | _ => none }
def RebuildsWrongFalsely : Prop := rebuildsRow.holds Try.pinned (OpenSpec.ofChange rebuildsWrong)

/-- 'cairnkeep.Ring': WHATEVER THE INPUT: true; the input reads as it did. -/
def ringSpec : ChangeSpec := { name := "ring", fn := fun _ => fun
  | [d1, d2, d3] => { results := [.lit (.bool true)], args := [d1, d2, d3] }
  | _ => none }
def ringRow : OpenClaim := { program := "ytkpcmfgeanlcnaa", sum := "30f28fecc3ad4f9850687684c1183d140b0ee0aebcec33bc37fb5bf47b6e1332", func := "cairn/cairnkeep.Ring", spec := "ring", apart := false }
def RingSaid : Prop := ringRow.holds Try.pinned (OpenSpec.ofChange ringSpec)

/-- ITS FALSE NEIGHBOUR: 'it returns false'. Refute it at one input. -/
def ringWrong : ChangeSpec := { name := "ring", fn := fun _ => fun
  | [d1, d2, d3] => { results := [.lit (.bool false)], args := [d1, d2, d3] }
  | _ => none }
def RingWrongFalsely : Prop := ringRow.holds Try.pinned (OpenSpec.ofChange ringWrong)

/-- 'cairnkeep.Solved': WHATEVER THE INPUT: true; the input reads as it did. -/
def solvedSpec : ChangeSpec := { name := "solved", fn := fun _ => fun
  | [d1, d2, d3, d4, d5] => { results := [.lit (.bool true)], args := [d1, d2, d3, d4, d5] }
  | _ => none }
def solvedRow : OpenClaim := { program := "ytkpcmfgeanlcnaa", sum := "30f28fecc3ad4f9850687684c1183d140b0ee0aebcec33bc37fb5bf47b6e1332", func := "cairn/cairnkeep.Solved", spec := "solved", inPlace := ["(*sync.WaitGroup).Add", "internal/race.ReleaseMerge", "internal/race.Disable", "internal/race.Enable", "internal/synctest.IsInBubble", "internal/synctest.Associate[sync.WaitGroup]", "sync.fatal", "sync/atomic.OrUint64", "sync/atomic.AddUint64", "internal/race.Read", "sync/atomic.LoadUint64", "sync/atomic.StoreUint64", "internal/synctest.Disassociate[sync.WaitGroup]", "sync.runtime_Semrelease", "(*sync.WaitGroup).Done", "(*sync.WaitGroup).Wait", "internal/race.Acquire", "internal/synctest.IsAssociated[sync.WaitGroup]", "sync/atomic.CompareAndSwapUint64", "internal/race.Write", "sync.runtime_SemacquireWaitGroup"], unfollowed := true, recurses := true, leaving := true, apart := false }
def SolvedSaid : Prop := solvedRow.holds Try.pinned (OpenSpec.ofChange solvedSpec)

/-- ITS FALSE NEIGHBOUR: 'it returns false'. Refute it at one input. -/
def solvedWrong : ChangeSpec := { name := "solved", fn := fun _ => fun
  | [d1, d2, d3, d4, d5] => { results := [.lit (.bool false)], args := [d1, d2, d3, d4, d5] }
  | _ => none }
def SolvedWrongFalsely : Prop := solvedRow.holds Try.pinned (OpenSpec.ofChange solvedWrong)

/- THE SECOND FORM. 'bulk': how many values and letters a reading holds, each counted each time it is reached (what is shared counts as often as it is met; a slice's spare places count too). A statement '..UptoSaid' is the law's where the arguments, and the package variables that the reading takes, are together of bulk at most 1048576: NARROWER than '..Said'. Prove '..Said' where nothing that the law and all that it calls make is longer than what came in: it says more and counts as full. Else prove '..UptoSaid'. A law counts once. -/
mutual
def uptoBulk {H : Type} : DataW H → Nat
  | .lit (.string bytes) => bytes.length + 1
  | .lit _ => 1
  | .nil => 1
  | .ptr d => uptoBulk d + 1
  | .slice elems spare => uptoBulkAll elems + uptoBulkAll spare + 1
  | .agg parts => uptoBulkAll parts + 1
  | .iface _ d => uptoBulk d + 1
  | .map entries => uptoBulkEntries entries + 1
  | .held _ => 1
def uptoBulkAll {H : Type} : List (DataW H) → Nat
  | [] => 0
  | d :: r => uptoBulk d + uptoBulkAll r
def uptoBulkEntries {H : Type} : List (Lit × DataW H) → Nat
  | [] => 0
  | x :: r => uptoBulkEntry x + uptoBulkEntries r
def uptoBulkEntry {H : Type} : Lit × DataW H → Nat
  | (.string bytes, d) => bytes.length + uptoBulk d + 1
  | (_, d) => uptoBulk d + 1
 end
def uptoSmall : (H : Type) → List (DataW H) → Bool := fun _ ds => decide (uptoBulkAll ds ≤ 1048576)
def OpenSpec.upto (s : _root_.Go.ChangeSpec) : _root_.Go.OpenSpec := { _root_.Go.OpenSpec.ofChange s with cond := some uptoSmall }

/-- 'cairnlaw.Bytes', WHERE WHAT IT READS IS OF BULK AT MOST 1048576: true; the input reads as it did. -/
def bytesUptoRow : OpenClaim := { program := "ytkpcmfgeanlcnaa", sum := "30f28fecc3ad4f9850687684c1183d140b0ee0aebcec33bc37fb5bf47b6e1332", func := "cairn/cairnlaw.Bytes", spec := "bytes", apart := false, narrowed := true }
def BytesUptoSaid : Prop := bytesUptoRow.holds Try.pinned (OpenSpec.upto bytesSpec)

/-- 'cairnlaw.Lines', WHERE WHAT IT READS IS OF BULK AT MOST 1048576: true; the input reads as it did. -/
def linesUptoRow : OpenClaim := { program := "ytkpcmfgeanlcnaa", sum := "30f28fecc3ad4f9850687684c1183d140b0ee0aebcec33bc37fb5bf47b6e1332", func := "cairn/cairnlaw.Lines", spec := "lines", apart := false, narrowed := true }
def LinesUptoSaid : Prop := linesUptoRow.holds Try.pinned (OpenSpec.upto linesSpec)

/-- 'cairnlaw.Rebuilds', WHERE WHAT IT READS IS OF BULK AT MOST 1048576: true; the input reads as it did. -/
def rebuildsUptoRow : OpenClaim := { program := "ytkpcmfgeanlcnaa", sum := "30f28fecc3ad4f9850687684c1183d140b0ee0aebcec33bc37fb5bf47b6e1332", func := "cairn/cairnlaw.Rebuilds", spec := "rebuilds", inPlace := ["(*sync.WaitGroup).Add", "internal/race.ReleaseMerge", "internal/race.Disable", "internal/race.Enable", "internal/synctest.IsInBubble", "internal/synctest.Associate[sync.WaitGroup]", "sync.fatal", "sync/atomic.OrUint64", "sync/atomic.AddUint64", "internal/race.Read", "sync/atomic.LoadUint64", "sync/atomic.StoreUint64", "internal/synctest.Disassociate[sync.WaitGroup]", "sync.runtime_Semrelease", "(*sync.WaitGroup).Done", "(*sync.WaitGroup).Wait", "internal/race.Acquire", "internal/synctest.IsAssociated[sync.WaitGroup]", "sync/atomic.CompareAndSwapUint64", "internal/race.Write", "sync.runtime_SemacquireWaitGroup"], unfollowed := true, recurses := true, leaving := true, apart := false, narrowed := true }
def RebuildsUptoSaid : Prop := rebuildsUptoRow.holds Try.pinned (OpenSpec.upto rebuildsSpec)

/-- 'cairnkeep.Ring', WHERE WHAT IT READS IS OF BULK AT MOST 1048576: true; the input reads as it did. -/
def ringUptoRow : OpenClaim := { program := "ytkpcmfgeanlcnaa", sum := "30f28fecc3ad4f9850687684c1183d140b0ee0aebcec33bc37fb5bf47b6e1332", func := "cairn/cairnkeep.Ring", spec := "ring", apart := false, narrowed := true }
def RingUptoSaid : Prop := ringUptoRow.holds Try.pinned (OpenSpec.upto ringSpec)

/-- 'cairnkeep.Solved', WHERE WHAT IT READS IS OF BULK AT MOST 1048576: true; the input reads as it did. -/
def solvedUptoRow : OpenClaim := { program := "ytkpcmfgeanlcnaa", sum := "30f28fecc3ad4f9850687684c1183d140b0ee0aebcec33bc37fb5bf47b6e1332", func := "cairn/cairnkeep.Solved", spec := "solved", inPlace := ["(*sync.WaitGroup).Add", "internal/race.ReleaseMerge", "internal/race.Disable", "internal/race.Enable", "internal/synctest.IsInBubble", "internal/synctest.Associate[sync.WaitGroup]", "sync.fatal", "sync/atomic.OrUint64", "sync/atomic.AddUint64", "internal/race.Read", "sync/atomic.LoadUint64", "sync/atomic.StoreUint64", "internal/synctest.Disassociate[sync.WaitGroup]", "sync.runtime_Semrelease", "(*sync.WaitGroup).Done", "(*sync.WaitGroup).Wait", "internal/race.Acquire", "internal/synctest.IsAssociated[sync.WaitGroup]", "sync/atomic.CompareAndSwapUint64", "internal/race.Write", "sync.runtime_SemacquireWaitGroup"], unfollowed := true, recurses := true, leaving := true, apart := false, narrowed := true }
def SolvedUptoSaid : Prop := solvedUptoRow.holds Try.pinned (OpenSpec.upto solvedSpec)

end Rows
end Go.Proofs.Ytkpcmfgeanlcnaa
