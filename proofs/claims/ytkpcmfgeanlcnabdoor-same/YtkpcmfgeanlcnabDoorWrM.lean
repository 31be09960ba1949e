/-
  What the document's small calls for writing answer.
-/
import Derived.Test.YtkpcmfgeanlcnabDoorWrE
import Derived.BigQuiet
namespace Go.Proofs.YtkpcmfgeanlcnabDoor
open Go.RowKit Go.Deep

theorem below_drewN' {B : Nat} {a w : World} (h : Below B a w) (n : Nat) : Below B a (w.drewN n) := h.trans ⟨rfl, rfl, rfl, Nat.le_refl _, fun _ _ => rfl⟩
/-- Up to a place all names may be. -/
def NamedTo (ns : List (List UInt8)) (c : Nat) : Prop := ∀ i, i < c → (1 ≤ (ns.getD i []).length ∧ (ns.getD i []).length ≤ 255) ∧ (0 < i → notAfter (ns.getD i []) (ns.getD (i - 1) []) = false)
theorem NamedTo.next {ns : List (List UInt8)} {c : Nat} (h : NamedTo ns c) (h1 : 1 ≤ (ns.getD c []).length ∧ (ns.getD c []).length ≤ 255) (h2 : 0 < c → notAfter (ns.getD c []) (ns.getD (c - 1) []) = false) : NamedTo ns (c + 1) := by
  intro i hi
  rcases Nat.lt_or_ge i c with x | x
  · exact h i x
  · obtain rfl : i = c := by omega
    exact ⟨h1, h2⟩

end Go.Proofs.YtkpcmfgeanlcnabDoor

/-
  What the document's calls on sizes answer: Total, Length, fitMany, Padding.
-/
namespace Go.Proofs.YtkpcmfgeanlcnabDoor
open Go.RowKit Go.Deep

/-- The sizes together; above 65536: 65537. -/
def totI (zs : List Int) : Nat := if tot zs ≤ 65536 then tot zs else 65537

theorem lenC_eq {k : Nat} (hk : 1 ≤ k) (t : Nat) : lenC k t = if t / k * k < t then t / k + 1 else t / k := by
  unfold lenC
  have h1 := Nat.div_add_mod t k
  have h2 := Nat.mod_lt t (show 0 < k by omega)
  rw [Nat.mul_comm] at h1
  split
  · rename_i h
    rw [Nat.div_eq_of_lt_le]
    · rw [Nat.add_mul]; omega
    · rw [Nat.add_mul, Nat.add_mul]; omega
  · rename_i h
    rw [Nat.div_eq_of_lt_le]
    · omega
    · rw [Nat.add_mul]; omega

end Go.Proofs.YtkpcmfgeanlcnabDoor
