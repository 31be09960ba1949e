/-
  What the document's Padding, Number and manifest answer.
-/
import Derived.Test.YtkpcmfgeanlcnabDoorWrM
import Derived.Test.YtkpcmfgeanlcnabDoorWrG
namespace Go.Proofs.YtkpcmfgeanlcnabDoor
open Go.RowKit Go.Deep

/-- A byte that fills a column up and is not 0. -/
def PadBad (k i t : Nat) (col : List UInt8) : Prop := i < k ∧ ∃ m, m < col.length ∧ t ≤ i * lenC k t + m ∧ bAt col m ≠ 0
def PadTold (r : Ending) (p : Prop) : Prop := ∃ x : Int, r = .returned (.int .i64 x) ∧ -1 ≤ x ∧ x ≤ 9223372036854775807 ∧ (0 ≤ x ↔ p)

end Go.Proofs.YtkpcmfgeanlcnabDoor

/-
  What the document's manifest answers.
-/
namespace Go.Proofs.YtkpcmfgeanlcnabDoor
open Go.RowKit Go.Deep

/-- Two rows lie apart. -/
def Apt (u v : Value) : Prop := ∀ g, u.ownBlock = some g → v.ownBlock ≠ some g
theorem Apt.symm {u v : Value} (h : Apt u v) : Apt v u := fun g h1 h2 => h g h2 h1
theorem OwnB.bnd {B : Nat} {w : World} {v : Value} {l : List UInt8} (h : OwnB B w v l) (k : Nat) (hk : v.ownBlock = some k) : B ≤ k ∧ k < w.heap.size := World.ownsRow.lt h k hk
theorem Apt.new {B B' : Nat} {w w' : World} {u v : Value} {l l' : List UInt8} (h1 : OwnB B w u l) (h2 : OwnB B' w' v l') (hB : w.heap.size ≤ B') : Apt u v := fun g e1 e2 => by
  have a := (h1.bnd g e1).2
  have b := (h2.bnd g e2).1
  omega
theorem OwnB.below {B : Nat} {w w' : World} {v : Value} {l : List UInt8} (h : OwnB B w v l) (hb : Below w.heap.size w w') : OwnB B w' v l := by
  refine ⟨h.1, ?_⟩
  rcases h.2 with x | ⟨g, cap, cur, h1, h2, h3, h4⟩
  · exact .inl x
  · exact .inr ⟨g, cap, cur, h1, h2, (hb.block g (Array.getElem?_eq_some_iff.1 h3).1).trans h3, h4⟩
theorem OwnB.step {B : Nat} {w w' : World} {u v v' : Value} {l : List UInt8} (h : OwnB B w u l) (ha : Apt u v) (hg : w.grownBy w' v.ownBlock) (hb : v'.ownBlock = v.ownBlock ∨ v'.ownBlock = some w.heap.size) : OwnB B w' u l ∧ Apt u v' := by
  refine ⟨?_, fun g e1 e2 => ?_⟩
  · refine ⟨h.1, ?_⟩
    rcases h.2 with x | ⟨g, cap, cur, rfl, h2, h3, h4⟩
    · exact .inl x
    · exact .inr ⟨g, cap, cur, rfl, h2, (hg.block g (Array.getElem?_eq_some_iff.1 h3).1 (fun e => ha g rfl e.symm)).trans h3, h4⟩
  · rcases hb with x | x
    · exact ha g e1 (x.symm.trans e2)
    · have := (h.bnd g e1).2
      rw [x] at e2
      cases e2
      omega
theorem OwnB.kept {B : Nat} {w w' : World} {u v : Value} {l : List UInt8} (h : OwnB B w u l) (ha : Apt u v) (hg : w.grownBy w' v.ownBlock) : OwnB B w' u l :=
  (h.step (v' := v) ha hg (.inl rfl)).1

end Go.Proofs.YtkpcmfgeanlcnabDoor
