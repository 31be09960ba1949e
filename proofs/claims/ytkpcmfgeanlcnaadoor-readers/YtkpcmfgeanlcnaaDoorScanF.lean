/-
  How the document reads a shard: the small calls once more, what is wrong said by one thing: nothing, or the first error and its place.
-/
import Derived.Test.YtkpcmfgeanlcnaaDoorScanE
namespace Go.Proofs.YtkpcmfgeanlcnaaDoor
open Go.RowKit Go.Deep

def eR : Option (Nat × Nat) → Nat
  | none => 0
  | some x => x.1
def pR : Option (Nat × Nat) → Nat
  | none => 0
  | some x => x.2
def orE (r s : Option (Nat × Nat)) : Option (Nat × Nat) := match r with | none => s | some x => some x
/-- No error's number is 0. -/
def Errs (r : Option (Nat × Nat)) : Prop := ∀ x, r = some x → x.1 ≠ 0
theorem errs_none : Errs none := fun _ h => by cases h
theorem errs_some {x y : Nat} (h : x ≠ 0) : Errs (some (x, y)) := fun _ e => by cases e; exact h
theorem Errs.or {r s : Option (Nat × Nat)} (h : Errs r) (h' : Errs s) : Errs (orE r s) := by
  cases r with
  | none => exact h'
  | some x => exact h
theorem Errs.zero {r : Option (Nat × Nat)} (h : Errs r) : eR r = 0 ↔ r = none := by
  cases r with
  | none => simp [eR]
  | some x => simp [eR, h x rfl]
theorem eOf_eR {r s : Option (Nat × Nat)} (h : Errs r) : eOf s (eR r) = eR (orE r s) := by
  cases r with
  | none => cases s <;> simp [eOf, eR, orE, first]
  | some x => rw [eOf_err (by exact h x rfl)]; rfl
theorem pOf_pR {r s : Option (Nat × Nat)} (h : Errs r) : pOf s (eR r) (pR r) = pR (orE r s) := by
  cases r with
  | none => cases s <;> simp [pOf, eR, pR, orE, firstP]
  | some x => rw [pOf_err (by exact h x rfl)]; rfl
theorem errs_fixE (l : List UInt8) : ∀ (ws : List UInt8) (a : Nat), Errs (fixE l a ws)
  | [], _ => errs_none
  | c :: ws, a => by
    unfold fixE
    split
    · exact errs_some (by decide)
    · split
      · exact errs_fixE l ws (a + 1)
      · exact errs_some (by decide)
theorem errs_sealE (l : List UInt8) (a n : Nat) : Errs (sealE l a n) := by
  unfold sealE
  split
  · exact errs_some (by decide)
  · split
    · exact errs_none
    · exact errs_some (by decide)
/-- What a test finds. -/
def mustE (ok : Bool) (x y : Nat) : Option (Nat × Nat) := if ok then none else some (x, y)
theorem errs_mustE {ok : Bool} {x y : Nat} (h : x ≠ 0) : Errs (mustE ok x y) := by
  unfold mustE
  split
  · exact errs_none
  · exact errs_some h

structure ScR (w : World) (sb : Nat) (v : Value) (at_ : Nat) (r : Option (Nat × Nat)) : Prop where
  scn : Scn w sb v at_ (eR r) (pR r)
  errs : Errs r
theorem ScR.later {w w' : World} {sb : Nat} {v : Value} {at_ B : Nat} {r : Option (Nat × Nat)} {S : Nat → Prop} (h : ScR w sb v at_ r) (hb : But B S w w') (h1 : sb < B) (h2 : ¬ S sb) : ScR w' sb v at_ r := ⟨h.scn.later hb h1 h2, h.errs⟩
theorem ScR.heap {w w' : World} {sb : Nat} {v : Value} {at_ : Nat} {r : Option (Nat × Nat)} (h : ScR w sb v at_ r) (hh : w'.heap = w.heap) : ScR w' sb v at_ r := ⟨h.scn.heap hh, h.errs⟩
theorem ScR.lt {w : World} {sb : Nat} {v : Value} {at_ : Nat} {r : Option (Nat × Nat)} (h : ScR w sb v at_ r) : sb < w.heap.size := RowAt.lt h.scn

section
variable {sb : Nat} {v : Value} {at_ : Nat} {r : Option (Nat × Nat)} {w : World}
theorem err_r (X Y : Int) (x y : Nat) (hX : X = x) (hY : Y = y) (hx : x ≠ 0) (h : ScR w sb v at_ r) :
    Calls Tryd.prog 73 #[.pointer (some ⟨sb, 0, none⟩), .int .i64 X, .int .i64 Y] w fun q w' => q = .returned (.tuple #[]) ∧ ScR w' sb v at_ (orE r (some (x, y))) ∧ But w.heap.size (· = sb) w w' := by
  refine (err_any sb X Y x y hX hY v at_ _ _ w h.scn).mono ?_
  rintro q w' ⟨h1, h2, h3⟩
  refine ⟨h1, ⟨?_, h.errs.or (errs_some hx)⟩, h3⟩
  have e1 := eOf_eR (s := some (x, y)) h.errs
  have e2 := pOf_pR (s := some (x, y)) h.errs
  rw [← e1, ← e2]
  exact h2
theorem must_r (ok : Bool) (X Y : Int) (x y : Nat) (hX : X = x) (hY : Y = y) (hx : x ≠ 0) (h : ScR w sb v at_ r) :
    Calls Tryd.prog 42 #[.pointer (some ⟨sb, 0, none⟩), .bool ok, .int .i64 X, .int .i64 Y] w fun q w' => q = .returned (.tuple #[]) ∧ ScR w' sb v at_ (orE r (mustE ok x y)) ∧ But w.heap.size (· = sb) w w' := by
  refine (must_any sb ok X Y x y hX hY v at_ _ _ w h.scn).mono ?_
  rintro q w' ⟨h1, h2, h3⟩
  refine ⟨h1, ⟨?_, h.errs.or (errs_mustE hx)⟩, h3⟩
  rw [← eOf_eR h.errs, ← pOf_pR h.errs]
  cases ok <;> exact h2
end
section
variable {sb bb bo cap : Nat} {l : List UInt8} {at_ : Nat} {r : Option (Nat × Nat)} {w : World}
theorem fixed_r (ws : List UInt8) (hws : ws.length < 100) (hbs : bb ≠ sb) (hl : l.length < 2 ^ 60) (ha : at_ < 2 ^ 60) (h : ScR w sb (.slice (some ⟨bb, bo, none⟩) l.length cap) at_ r) (hb : Byt w bb bo l) (hbb : bb < w.heap.size) :
    Calls Tryd.prog 45 #[.pointer (some ⟨sb, 0, none⟩), .string ⟨ws.toArray⟩] w fun q w' => q = .returned (.tuple #[]) ∧ ScR w' sb (.slice (some ⟨bb, bo, none⟩) l.length cap) at_ (orE r (fixE l at_ ws)) ∧ But w.heap.size (· = sb) w w' := by
  refine (fixed_any sb ws hws bb bo cap hbs l hl at_ _ _ ha w h.scn hb hbb).mono ?_
  rintro q w' ⟨h1, h2, h3⟩
  refine ⟨h1, ⟨?_, h.errs.or (errs_fixE _ _ _)⟩, h3⟩
  rw [← eOf_eR h.errs, ← pOf_pR h.errs]
  exact h2
theorem seal_r (N : Int) (n : Nat) (hN : N = n) (hn : n < 2 ^ 30) (hbs : bb ≠ sb) (hl : l.length < 2 ^ 60) (hcap : l.length ≤ cap) (ha : at_ < 2 ^ 59) (h : ScR w sb (.slice (some ⟨bb, bo, none⟩) l.length cap) at_ r) (hb : Byt w bb bo l) (hbb : bb < w.heap.size) :
    Calls Tryd.prog 72 #[.pointer (some ⟨sb, 0, none⟩), .int .i64 N] w fun q w' => q = .returned (.tuple #[]) ∧ ScR w' sb (.slice (some ⟨bb, bo, none⟩) l.length cap) at_ (orE r (sealE l at_ n)) ∧ But w.heap.size (· = sb) w w' := by
  refine (seal_any sb N n hN hn bb bo cap hbs l hl hcap at_ _ _ ha w h.scn hb hbb).mono ?_
  rintro q w' ⟨h1, h2, h3⟩
  refine ⟨h1, ⟨?_, h.errs.or (errs_sealE _ _ _)⟩, h3⟩
  rw [← eOf_eR h.errs, ← pOf_pR h.errs]
  exact h2
theorem num_ok (A N : Int) (a n : Nat) (hA : A = a) (hN : N = n) (hn : n ≤ 4) (hl : l.length < 2 ^ 60) (h : ScR w sb (.slice (some ⟨bb, bo, none⟩) l.length cap) at_ none) (hb : Byt w bb bo l) (hr : a + n ≤ l.length) :
    Calls Tryd.prog 40 #[.pointer (some ⟨sb, 0, none⟩), .int .i64 A, .int .i64 N] w fun q w' => q = .returned (.int .i64 (le l a n : Nat)) ∧ w' = w :=
  num_any sb A N a n hA hN hn bb bo cap l hl at_ 0 0 w h.scn hb (fun _ => hr)
theorem num_err (A N : Int) (a n : Nat) (hA : A = a) (hN : N = n) (hn : n ≤ 4) (hl : l.length < 2 ^ 60) (x : Nat × Nat) (h : ScR w sb (.slice (some ⟨bb, bo, none⟩) l.length cap) at_ (some x)) (hb : Byt w bb bo l) :
    Calls Tryd.prog 40 #[.pointer (some ⟨sb, 0, none⟩), .int .i64 A, .int .i64 N] w fun q w' => q = .returned (.int .i64 0) ∧ w' = w := by
  have hx : x.1 ≠ 0 := h.errs x rfl
  refine (num_any sb A N a n hA hN hn bb bo cap l hl at_ x.1 x.2 w h.scn hb (fun e => absurd e hx)).mono ?_
  rintro q w' ⟨h1, h2⟩
  rw [if_neg hx] at h1
  exact ⟨h1, h2⟩
end
end Go.Proofs.YtkpcmfgeanlcnaaDoor
