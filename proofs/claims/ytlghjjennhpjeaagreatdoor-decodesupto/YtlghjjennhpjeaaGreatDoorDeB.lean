/-
  slices.Chunk's function beside goroutines that leave: it hands out the frames, one behind the other.
-/
import Derived.Test.YtlghjjennhpjeaaGreatDoorEnN
import Derived.BigQuiet
import Derived.Test.YtlghjjennhpjeaaGreatDoorEnS
import Derived.Test.YtlghjjennhpjeaaGreatDoorDeA
namespace Go.Proofs.YtlghjjennhpjeaaGreatDoor
open Go.RowKit Go.Deep Go.Lf Go.Conc

def TKi (l sb nb : Nat) (x : Int) (T : Array Value) : Prop := ∃ f : Nat → Value, T = #[.func (.yield l) #[] #[], .pointer (some ⟨sb, 0, none⟩), .pointer (some ⟨nb, 0, none⟩), f 3, .int .i64 x, f 5, f 6, f 7, f 8, f 9, f 10, f 11, f 12, f 13, f 14, f 15, f 16, f 17, f 18, f 19, f 20, f 21, f 22, f 23, f 24, f 25, f 26, f 27, f 28, f 29, f 30]
theorem tk_mk {l sb nb : Nat} {x : Int} {T : Array Value} (h : T = #[.func (.yield l) #[] #[], .pointer (some ⟨sb, 0, none⟩), .pointer (some ⟨nb, 0, none⟩), T.getD 3 undef, .int .i64 x, T.getD 5 undef, T.getD 6 undef, T.getD 7 undef, T.getD 8 undef, T.getD 9 undef, T.getD 10 undef, T.getD 11 undef, T.getD 12 undef, T.getD 13 undef, T.getD 14 undef, T.getD 15 undef, T.getD 16 undef, T.getD 17 undef, T.getD 18 undef, T.getD 19 undef, T.getD 20 undef, T.getD 21 undef, T.getD 22 undef, T.getD 23 undef, T.getD 24 undef, T.getD 25 undef, T.getD 26 undef, T.getD 27 undef, T.getD 28 undef, T.getD 29 undef, T.getD 30 undef]) : TKi l sb nb x T := ⟨fun i => T.getD i undef, h⟩
def TK (l sb nb p : Nat) (T : Array Value) : Prop := TKi l sb nb ((p : Nat) : Int) T

def TK5 (l sb nb p m : Nat) (T : Array Value) : Prop := ∃ f : Nat → Value, T = #[.func (.yield l) #[] #[], .pointer (some ⟨sb, 0, none⟩), .pointer (some ⟨nb, 0, none⟩), f 3, .int .i64 ((p : Nat) : Int), .int .i64 ((m : Nat) : Int), f 6, f 7, f 8, f 9, f 10, f 11, f 12, f 13, f 14, f 15, f 16, f 17, f 18, f 19, f 20, f 21, f 22, f 23, f 24, f 25, f 26, f 27, f 28, f 29, f 30]
theorem tk5_mk {l sb nb p m : Nat} {T : Array Value} (h : T = #[.func (.yield l) #[] #[], .pointer (some ⟨sb, 0, none⟩), .pointer (some ⟨nb, 0, none⟩), T.getD 3 undef, .int .i64 ((p : Nat) : Int), .int .i64 ((m : Nat) : Int), T.getD 6 undef, T.getD 7 undef, T.getD 8 undef, T.getD 9 undef, T.getD 10 undef, T.getD 11 undef, T.getD 12 undef, T.getD 13 undef, T.getD 14 undef, T.getD 15 undef, T.getD 16 undef, T.getD 17 undef, T.getD 18 undef, T.getD 19 undef, T.getD 20 undef, T.getD 21 undef, T.getD 22 undef, T.getD 23 undef, T.getD 24 undef, T.getD 25 undef, T.getD 26 undef, T.getD 27 undef, T.getD 28 undef, T.getD 29 undef, T.getD 30 undef]) : TK5 l sb nb p m T := ⟨fun i => T.getD i undef, h⟩
section
variable {X : Nat → Prop} {Y : Nat → Option Obj} {D : Nat → World → Array Event → Prop} {Stop : Goroutine → World → Prop} {v : World} {cs : List Frame} {cfr : Frame}
end
end Go.Proofs.YtlghjjennhpjeaaGreatDoor

/-
  layout.Write beside goroutines that leave: up to its loop.
-/
namespace Go.Proofs.YtlghjjennhpjeaaGreatDoor
open Go.RowKit Go.Deep Go.Lf Go.Conc

def TWr (row lb : Nat) (T : Array Value) : Prop := ∃ f : Nat → Value, T = #[f 0, f 1, .pointer (some ⟨row, 0, none⟩), f 3, f 4, f 5, .pointer (some ⟨lb, 0, none⟩), f 7, f 8, f 9, f 10, f 11, f 12, f 13, f 14, f 15, f 16, f 17, f 18, f 19, f 20, f 21, f 22, f 23, f 24, f 25, f 26, f 27, f 28, f 29, f 30, f 31, f 32, f 33, f 34, f 35, f 36, f 37, f 38, f 39, f 40, f 41, f 42, f 43, f 44, f 45, f 46, f 47, f 48, f 49, f 50, f 51, f 52]
theorem twr_mk {row lb : Nat} {T : Array Value} (h : T = #[T.getD 0 undef, T.getD 1 undef, .pointer (some ⟨row, 0, none⟩), T.getD 3 undef, T.getD 4 undef, T.getD 5 undef, .pointer (some ⟨lb, 0, none⟩), T.getD 7 undef, T.getD 8 undef, T.getD 9 undef, T.getD 10 undef, T.getD 11 undef, T.getD 12 undef, T.getD 13 undef, T.getD 14 undef, T.getD 15 undef, T.getD 16 undef, T.getD 17 undef, T.getD 18 undef, T.getD 19 undef, T.getD 20 undef, T.getD 21 undef, T.getD 22 undef, T.getD 23 undef, T.getD 24 undef, T.getD 25 undef, T.getD 26 undef, T.getD 27 undef, T.getD 28 undef, T.getD 29 undef, T.getD 30 undef, T.getD 31 undef, T.getD 32 undef, T.getD 33 undef, T.getD 34 undef, T.getD 35 undef, T.getD 36 undef, T.getD 37 undef, T.getD 38 undef, T.getD 39 undef, T.getD 40 undef, T.getD 41 undef, T.getD 42 undef, T.getD 43 undef, T.getD 44 undef, T.getD 45 undef, T.getD 46 undef, T.getD 47 undef, T.getD 48 undef, T.getD 49 undef, T.getD 50 undef, T.getD 51 undef, T.getD 52 undef]) : TWr row lb T := ⟨fun i => T.getD i undef, h⟩

theorem Kept.refl (w : World) : Kept w w := ⟨rfl, rfl, Nat.le_refl _, fun _ _ => rfl⟩
theorem Kept.trans {a b c : World} (h : Kept a b) (h' : Kept b c) : Kept a c := ⟨h'.os.trans h.os, h'.output.trans h.output, Nat.le_trans h.size h'.size, fun x hx => (h'.block x (Nat.lt_of_lt_of_le hx h.size)).trans (h.block x hx)⟩
theorem below_kept {w w' : World} (h : Below w.heap.size w w') : Kept w w' := ⟨h.os, h.output, h.size, h.block⟩
theorem Kept.tape {w w' : World} (h : Kept w w') (τ : Nat → Question → Nat) (d : Nat) : Kept w { w' with tape := τ, drawn := d } := ⟨h.os, h.output, h.size, h.block⟩
theorem Kept.below {a b c : World} (h : Kept a b) (h' : Below a.heap.size b c) : Kept a c := ⟨h'.os.trans h.os, h'.output.trans h.output, Nat.le_trans h.size h'.size, fun x hx => (h'.block x hx).trans (h.block x hx)⟩
theorem Kept.cell {w w' : World} (h : Kept w w') {b o : Nat} {v : Value} (hc : w.cell? ⟨b, o, none⟩ = some v) : w'.cell? ⟨b, o, none⟩ = some v := by
  have hb := cell_lt hc
  have e := h.block b hb
  simp only [World.cell?, e] at hc ⊢
  exact hc
theorem Kept.byt {w w' : World} (h : Kept w w') {b o : Nat} {l : List UInt8} (hb : Byt w b o l) : Byt w' b o l := fun j hj => h.cell (hb j hj)
theorem Kept.tab {w w' : World} (h : Kept w w') (ht : Tab w) : Tab w' := ⟨Nat.lt_of_lt_of_le ht.1 h.size, fun i hi => h.cell (ht.2 i hi)⟩

section
variable {X : Nat → Prop} {Y : Nat → Option Obj} {D : Nat → World → Array Event → Prop} {Stop : Goroutine → World → Prop} {v : World} {cs : List Frame}
end
end Go.Proofs.YtlghjjennhpjeaaGreatDoor

/-
  layout.Write beside goroutines that leave: its loop, and its end.
-/
namespace Go.Proofs.YtlghjjennhpjeaaGreatDoor
open Go.RowKit Go.Deep Go.Lf Go.Conc

def TWx (row lb : Nat) (x : Value) (T : Array Value) : Prop := ∃ f : Nat → Value, T = #[f 0, f 1, .pointer (some ⟨row, 0, none⟩), f 3, f 4, f 5, .pointer (some ⟨lb, 0, none⟩), f 7, f 8, f 9, f 10, f 11, f 12, f 13, f 14, f 15, f 16, f 17, f 18, f 19, f 20, f 21, f 22, f 23, f 24, f 25, f 26, f 27, f 28, f 29, f 30, f 31, f 32, f 33, f 34, f 35, f 36, f 37, f 38, f 39, f 40, f 41, f 42, f 43, x, f 45, f 46, f 47, f 48, f 49, f 50, f 51, f 52]
theorem twx_mk {row lb : Nat} {x : Value} {T : Array Value} (h : T = #[T.getD 0 undef, T.getD 1 undef, .pointer (some ⟨row, 0, none⟩), T.getD 3 undef, T.getD 4 undef, T.getD 5 undef, .pointer (some ⟨lb, 0, none⟩), T.getD 7 undef, T.getD 8 undef, T.getD 9 undef, T.getD 10 undef, T.getD 11 undef, T.getD 12 undef, T.getD 13 undef, T.getD 14 undef, T.getD 15 undef, T.getD 16 undef, T.getD 17 undef, T.getD 18 undef, T.getD 19 undef, T.getD 20 undef, T.getD 21 undef, T.getD 22 undef, T.getD 23 undef, T.getD 24 undef, T.getD 25 undef, T.getD 26 undef, T.getD 27 undef, T.getD 28 undef, T.getD 29 undef, T.getD 30 undef, T.getD 31 undef, T.getD 32 undef, T.getD 33 undef, T.getD 34 undef, T.getD 35 undef, T.getD 36 undef, T.getD 37 undef, T.getD 38 undef, T.getD 39 undef, T.getD 40 undef, T.getD 41 undef, T.getD 42 undef, T.getD 43 undef, x, T.getD 45 undef, T.getD 46 undef, T.getD 47 undef, T.getD 48 undef, T.getD 49 undef, T.getD 50 undef, T.getD 51 undef, T.getD 52 undef]) : TWx row lb x T := ⟨fun i => T.getD i undef, h⟩
theorem twr_set {row lb : Nat} {T : Array Value} (h : TWr row lb T) (x : Value) : TWx row lb x (T.setIfInBounds 44 x) := by
  obtain ⟨f, rfl⟩ := h
  exact twx_mk rfl

section
variable {v : World} {lb sb nb D l : Nat} {ba : Option Addr} {len cap c : Nat} {M col : List UInt8} {T : Array Value} {st st' : LoopState} {j : Nat} {W : World}
theorem boxed_put {W : World} {B r : Nat} {t : TypeId} {u : Value} {o : Obj} (h : Boxed W B t u) (hr : B ≠ r) : Boxed (W.putObj r o) B t u := (World.putObj_heap_other hr).trans h
end

section
variable {X : Nat → Prop} {Y : Nat → Option Obj} {D : Nat → World → Array Event → Prop} {Stop : Goroutine → World → Prop} {v : World} {cs : List Frame} {cfr : Frame}
end
end Go.Proofs.YtlghjjennhpjeaaGreatDoor

/-
  layout.Write beside goroutines that leave: the whole of it.
-/
namespace Go.Proofs.YtlghjjennhpjeaaGreatDoor
open Go.RowKit Go.Deep Go.Lf Go.Conc

section
variable {X : Nat → Prop} {Y : Nat → Option Obj} {D : Nat → World → Array Event → Prop} {Stop : Goroutine → World → Prop} {v : World} {cs : List Frame} {cfr : Frame}
end
end Go.Proofs.YtlghjjennhpjeaaGreatDoor

/-
  archive.Encode's region that draws its order: up to the call of coding.Columns, whatever the order.
-/
namespace Go.Proofs.YtlghjjennhpjeaaGreatDoor
open Go.RowKit Go.Deep Go.Lf Go.Conc Go.Hp

theorem mixedA : Tryz.prog.follows .mixedOrders = true := by kernel_rfl
def T6 (f : Nat → Value) (pc K N : Nat) (vb vn vs vm vh vj : Value) (b0 b1 b2 b3 b4 b5 b8 : Bool) : Array Value := #[vb, f 1, f 2, .pointer (some ⟨pc, 0, none⟩), f 4, f 5, vn, vs, vm, vh, f 10, f 11, f 12, f 13, f 14, f 15, f 16, f 17, f 18, f 19, f 20, f 21, f 22, f 23, f 24, f 25, f 26, f 27, (if b0 then .pointer (some ⟨pc, 0, none⟩) else f 28), (if b1 then .int .i64 ((K : Nat) : Int) else f 29), (if b2 then .pointer (some ⟨pc, 1, none⟩) else f 30), (if b3 then .int .i64 ((N : Nat) : Int) else f 31), (if b4 then vb else f 32), (if b5 then vj else f 33), f 34, f 35, (if b8 then .int .i64 0 else f 36), f 37, f 38, f 39, f 40, f 41, f 42, f 43, f 44, f 45, f 46, f 47, f 48, f 49, f 50, f 51, f 52, f 53, f 54, f 55, f 56, f 57, f 58, f 59]
/-- The frame of archive.Encode at the call. -/
def TA (pc : Nat) (vn vs vm vh x : Value) (T : Array Value) : Prop := ∃ f : Nat → Value, T = #[f 0, f 1, f 2, .pointer (some ⟨pc, 0, none⟩), f 4, f 5, vn, vs, vm, vh, f 10, f 11, f 12, f 13, f 14, f 15, f 16, f 17, f 18, f 19, f 20, f 21, f 22, f 23, f 24, f 25, f 26, f 27, f 28, f 29, f 30, f 31, f 32, f 33, f 34, f 35, x, f 37, f 38, f 39, f 40, f 41, f 42, f 43, f 44, f 45, f 46, f 47, f 48, f 49, f 50, f 51, f 52, f 53, f 54, f 55, f 56, f 57, f 58, f 59]
theorem ta_mk {pc : Nat} {vn vs vm vh x : Value} {T : Array Value} (h : T = #[T.getD 0 undef, T.getD 1 undef, T.getD 2 undef, .pointer (some ⟨pc, 0, none⟩), T.getD 4 undef, T.getD 5 undef, vn, vs, vm, vh, T.getD 10 undef, T.getD 11 undef, T.getD 12 undef, T.getD 13 undef, T.getD 14 undef, T.getD 15 undef, T.getD 16 undef, T.getD 17 undef, T.getD 18 undef, T.getD 19 undef, T.getD 20 undef, T.getD 21 undef, T.getD 22 undef, T.getD 23 undef, T.getD 24 undef, T.getD 25 undef, T.getD 26 undef, T.getD 27 undef, T.getD 28 undef, T.getD 29 undef, T.getD 30 undef, T.getD 31 undef, T.getD 32 undef, T.getD 33 undef, T.getD 34 undef, T.getD 35 undef, x, T.getD 37 undef, T.getD 38 undef, T.getD 39 undef, T.getD 40 undef, T.getD 41 undef, T.getD 42 undef, T.getD 43 undef, T.getD 44 undef, T.getD 45 undef, T.getD 46 undef, T.getD 47 undef, T.getD 48 undef, T.getD 49 undef, T.getD 50 undef, T.getD 51 undef, T.getD 52 undef, T.getD 53 undef, T.getD 54 undef, T.getD 55 undef, T.getD 56 undef, T.getD 57 undef, T.getD 58 undef, T.getD 59 undef]) : TA pc vn vs vm vh x T := ⟨fun i => T.getD i undef, h⟩
/-- What is left of the region behind the call. -/
def Left (x : Value) (rest : List Nat) : Prop := (rest = [7] ∧ x = .int .i64 0) ∨ rest = [7, 8] ∨ rest = [8, 7]
section
variable {X : Nat → Prop} {Y : Nat → Option Obj} {D : Nat → World → Array Event → Prop} {Stop : Goroutine → World → Prop} {cs : List Frame}
/-- How the memory stands: join has been called, or not yet. -/
def J5 (v0 : World) (l : List UInt8) (b5 : Bool) (vj : Value) (v : World) : Prop := (b5 = false ∧ v = v0) ∨ (b5 = true ∧ Bel v0.heap.size v0 v ∧ OwnB v0.heap.size v vj l)
theorem J5.bel {v0 v : World} {l : List UInt8} {b5 : Bool} {vj : Value} (h : J5 v0 l b5 vj v) : Bel v0.heap.size v0 v := by
  rcases h with ⟨_, rfl⟩ | ⟨_, h, _⟩
  · exact Bel.refl _ _
  · exact h
/-- What was waited for has come up. -/
def DC6 (b0 b1 b2 b3 b4 b5 : Bool) : Prop := (b1 = true → b0 = true) ∧ (b3 = true → b2 = true) ∧ (b5 = true → b4 = true)
end
end Go.Proofs.YtlghjjennhpjeaaGreatDoor

/-
  The statement calls encoded, encoded calls Encode, Encode the one within, that one Columns: alone, up to the fork.
-/
namespace Go.Proofs.YtlghjjennhpjeaaGreatDoor
open Go.RowKit Go.Deep Go.Lf Go.Conc Go.Hp

theorem BC.bel {w w' : World} {bo : Option Addr} {n B : Nat} {f : Nat → Ent} (h : BC w bo n f) (hb : Bel B w w') (hB : w.heap.size ≤ B) : BC w' bo n f := BC.below (w := { w with tape := w'.tape }) ⟨h.here⟩ hb hB
theorem DataAt.bel {w w' : World} {e : Ent} {d : List UInt8} {B : Nat} (h : DataAt w e d) (hb : Bel B w w') (hB : w.heap.size ≤ B) : DataAt w' e d := DataAt.below (w := { w with tape := w'.tape }) h hb hB
theorem Tab.bel {w w' : World} {B : Nat} (h : Tab w) (hb : Bel B w w') (hB : 3 < B) : Tab w' := Tab.below (w := { w with tape := w'.tape }) h hb hB
theorem Args.bel {w w' : World} {bo : Option Addr} {m cap : Nat} {f : Nat → Ent} {d : Ent → List UInt8} (h : Args w bo m cap f d) (hb : Bel w.heap.size w w') : Args w' bo m cap f d := Args.below (w := { w with tape := w'.tape }) ⟨h.hm, h.hcap, h.hbo, h.hk, h.hl, ⟨h.bc.here⟩, h.dat⟩ hb
/-- What stands where archive.Encode calls Columns. -/
structure FA (K N C m : Nat) (g : Nat → Ent) (l : List UInt8) (pc gm bh : Nat) (vn vs vj : Value) (w u w' : World) : Prop where
  par : RowAt u pc [.int .i64 ((K : Nat) : Int), .int .i64 ((N : Nat) : Int), .int .i64 ((C : Nat) : Int)] 60
  nm : Lies u vn (nameV (namesOf m g))
  sz : Lies u vs (intV (sizesOf m g))
  man : Byt u gm 0 (sealB (manTo (namesOf m g) (sizesOf m g) (namesOf m g).length))
  gml : gm < u.heap.size
  tab : Tab u
  us : u.heap.size = bh
  wu : Bel w.heap.size w u
  bel : Bel bh u w'
  sh : w'.heap[bh]? = some (.cells (madeCells #[.slice none 0 0] N) 24)
  dat : Lies w' vj (u8V l)
/-- The manifest's length. -/
def mlen (m : Nat) (g : Nat → Ent) : Nat := (sealB (manTo (namesOf m g) (sizesOf m g) (namesOf m g).length)).length

section
variable {X : Nat → Prop} {Y : Nat → Option Obj} {D : Nat → World → Array Event → Prop} {Stop : Goroutine → World → Prop} {w : World} {K N C m cap : Nat} {bo : Option Addr} {g : Nat → Ent} {d : Ent → List UInt8}
end
end Go.Proofs.YtlghjjennhpjeaaGreatDoor

/-
  The statement calls encoded, encoded calls Encode, Encode the one within: alone.
-/
namespace Go.Proofs.YtlghjjennhpjeaaGreatDoor
open Go.RowKit Go.Deep Go.Lf Go.Conc Go.Hp

def T28 (T : Array Value) : Prop := ∃ f : Nat → Value, T = #[f 0, f 1, f 2, f 3, f 4, f 5, f 6, f 7, f 8, f 9, f 10, f 11, f 12, f 13, f 14, f 15, f 16, f 17, f 18, f 19, f 20, f 21, f 22, f 23, f 24, f 25, f 26, f 27]
theorem t28_mk {T : Array Value} (h : T = #[T.getD 0 undef, T.getD 1 undef, T.getD 2 undef, T.getD 3 undef, T.getD 4 undef, T.getD 5 undef, T.getD 6 undef, T.getD 7 undef, T.getD 8 undef, T.getD 9 undef, T.getD 10 undef, T.getD 11 undef, T.getD 12 undef, T.getD 13 undef, T.getD 14 undef, T.getD 15 undef, T.getD 16 undef, T.getD 17 undef, T.getD 18 undef, T.getD 19 undef, T.getD 20 undef, T.getD 21 undef, T.getD 22 undef, T.getD 23 undef, T.getD 24 undef, T.getD 25 undef, T.getD 26 undef, T.getD 27 undef]) : T28 T := ⟨fun i => T.getD i undef, h⟩
def T32 (vb : Value) (pb : Nat) (T : Array Value) : Prop := ∃ f : Nat → Value, T = #[vb, f 1, f 2, .pointer (some ⟨pb, 0, none⟩), f 4, f 5, f 6, f 7, f 8, f 9, f 10, f 11, f 12, f 13, f 14, f 15, f 16, f 17, f 18, f 19, f 20, f 21, f 22, f 23, f 24, f 25, f 26, f 27, f 28, f 29, f 30, f 31]
theorem t32_mk {vb : Value} {pb : Nat} {T : Array Value} (h : T = #[vb, T.getD 1 undef, T.getD 2 undef, .pointer (some ⟨pb, 0, none⟩), T.getD 4 undef, T.getD 5 undef, T.getD 6 undef, T.getD 7 undef, T.getD 8 undef, T.getD 9 undef, T.getD 10 undef, T.getD 11 undef, T.getD 12 undef, T.getD 13 undef, T.getD 14 undef, T.getD 15 undef, T.getD 16 undef, T.getD 17 undef, T.getD 18 undef, T.getD 19 undef, T.getD 20 undef, T.getD 21 undef, T.getD 22 undef, T.getD 23 undef, T.getD 24 undef, T.getD 25 undef, T.getD 26 undef, T.getD 27 undef, T.getD 28 undef, T.getD 29 undef, T.getD 30 undef, T.getD 31 undef]) : T32 vb pb T := ⟨fun i => T.getD i undef, h⟩
def T14 (T : Array Value) : Prop := ∃ f : Nat → Value, T = #[f 0, f 1, f 2, f 3, f 4, f 5, f 6, f 7, f 8, f 9, f 10, f 11, f 12, f 13]
theorem t14_mk {T : Array Value} (h : T = #[T.getD 0 undef, T.getD 1 undef, T.getD 2 undef, T.getD 3 undef, T.getD 4 undef, T.getD 5 undef, T.getD 6 undef, T.getD 7 undef, T.getD 8 undef, T.getD 9 undef, T.getD 10 undef, T.getD 11 undef, T.getD 12 undef, T.getD 13 undef]) : T14 T := ⟨fun i => T.getD i undef, h⟩

section
variable {X : Nat → Prop} {Y : Nat → Option Obj} {D : Nat → World → Array Event → Prop} {Stop : Goroutine → World → Prop} {w : World} {K N C m cap : Nat} {bo : Option Addr} {f : Nat → Ent} {d : Ent → List UInt8}
end
end Go.Proofs.YtlghjjennhpjeaaGreatDoor

/-
  A column as the program's worker makes it is a column as the document mixes it.
-/
namespace Go.Proofs.YtlghjjennhpjeaaGreatDoor
open Go.RowKit Go.Deep Go.Hp

theorem zip_range (a : Nat → Nat) (b : Nat → List Nat) (n : Nat) : ((List.range n).map a).zip ((List.range n).map b) = (List.range n).map fun j => (a j, b j) := by
  rw [List.zip_map']
theorem rec_dotN (r x : Nat → Nat) (hr : ∀ j, r j < 256) (hx : ∀ j, x j < 256) : ∀ n, Nat.rec (motive := fun _ => Nat) 0 (fun j s => s ^^^ mul (x j) (r j)) n = dotN r x n
  | 0 => rfl
  | n + 1 => by
    show _ ^^^ _ = dotN r x n ^^^ mul (r n) (x n)
    rw [rec_dotN r x hr hx n, mul_comm (hx n) (hr n)]
theorem res_eq (k L : Nat) (l : List UInt8) (bk bd P F ba : Nat) (h0 : Nat → Option Obj) (t : Nat) : (envK k L l bk bd P F ba h0).res k L t = (List.range L).map fun m => dotN (rowV k t) (fun j => xAt l L j m) k := by
  have hz : zsOf ((List.range k).map (rowV k t)) (envK k L l bk bd P F ba h0).cs = (List.range k).map fun j => (rowV k t j, (List.range L).map fun m => bAt l (j * L + m)) := by
    unfold zsOf envK
    simp only [List.map_map]
    exact zip_range _ _ _
  have hlen : ((envK k L l bk bd P F ba h0).res k L t).length = L := by
    unfold EnvC.res
    rw [comb_length]
    simp
  apply List.ext_getElem?
  intro m
  by_cases hm : m < L
  · have key := comb_get (rowV k t) (fun j => (List.range L).map fun m => bAt l (j * L + m)) L m hm (fun j => by simp) k
    rw [← hz] at key
    have e : ∀ j, ((List.range L).map fun m => bAt l (j * L + m)).getD m 0 = xAt l L j m := fun j => by
      simp [List.getD_eq_getElem?_getD, hm, xAt]
    simp only [e] at key
    rw [rec_dotN (rowV k t) (fun j => xAt l L j m) (fun _ => rowV_lt) (fun j => bAt_lt _ _)] at key
    have h1 : ((envK k L l bk bd P F ba h0).res k L t).getD m 0 = dotN (rowV k t) (fun j => xAt l L j m) k := key
    rw [List.getD_eq_getElem?_getD] at h1
    rw [List.getElem?_eq_getElem (by rw [hlen]; exact hm)] at h1 ⊢
    simp only [Option.getD_some] at h1
    rw [h1]
    simp [hm]
  · rw [List.getElem?_eq_none (by rw [hlen]; omega), List.getElem?_eq_none (by simp; omega)]
end Go.Proofs.YtlghjjennhpjeaaGreatDoor

/-
  archive.Encode behind the join: the loop that writes the shards.
-/
namespace Go.Proofs.YtlghjjennhpjeaaGreatDoor
open Go.RowKit Go.Deep Go.Lf Go.Conc Go.Hp

/-- All that is cells stands. -/
def Sub (u v : World) : Prop := u.heap.size ≤ v.heap.size ∧ ∀ (b : Nat) (c : Array Value) (t : TypeId) (fr : Nat × Nat), u.heap[b]? = some (.cells c t fr) → v.heap[b]? = some (.cells c t fr)
section
variable {u v : World}
theorem Sub.cell (h : Sub u v) {b o : Nat} {x : Value} (hc : u.cell? ⟨b, o, none⟩ = some x) : v.cell? ⟨b, o, none⟩ = some x := by
  have h' := hc
  unfold World.cell? at h'
  cases e : u.heap[b]? with
  | none => simp only [e] at h'; cases h'
  | some y =>
    cases y with
    | cells c t fr =>
      have := h.2 b c t fr e
      simp only [World.cell?, e] at hc
      simp only [World.cell?, this]
      exact hc
    | _ => simp only [e] at h'; cases h'
theorem Sub.row (h : Sub u v) {b : Nat} {cs : List Value} {t : TypeId} (hr : RowAt u b cs t) : RowAt v b cs t := h.2 _ _ _ _ hr
theorem Sub.lies (h : Sub u v) {x : Value} {xs : List Value} (hl : Lies u x xs) : Lies v x xs := by
  obtain ⟨ba, cap, e, h1, h2⟩ := hl
  exact ⟨ba, cap, e, h1, fun j y hj => by
    obtain ⟨b, off, h3, h4⟩ := h2 j y hj
    exact ⟨b, off, h3, h.cell h4⟩⟩
theorem Sub.byt (h : Sub u v) {b o : Nat} {l : List UInt8} (hb : Byt u b o l) : Byt v b o l := fun j hj => h.cell (hb j hj)
theorem Sub.tab (h : Sub u v) (ht : Tab u) : Tab v := ⟨Nat.lt_of_lt_of_le ht.1 h.1, fun i hi => h.cell (ht.2 i hi)⟩
theorem Sub.args {bo : Option Addr} {m cap : Nat} {f : Nat → Ent} {d : Ent → List UInt8} (h : Sub u v) (ha : Args u bo m cap f d) : Args v bo m cap f d :=
  ⟨ha.hm, ha.hcap, ha.hbo, ha.hk, ha.hl, ha.bc.up h.1 h.cell, fun i hi => (ha.dat i hi).grow h.1 h.cell⟩
end
/-- All but one block stands. -/
structure KX (bh : Nat) (a b : World) : Prop where
  os : b.os = a.os
  output : b.output = a.output
  size : a.heap.size ≤ b.heap.size
  block : ∀ x, x < a.heap.size → x ≠ bh → b.heap[x]? = a.heap[x]?
theorem KX.refl (bh : Nat) (a : World) : KX bh a a := ⟨rfl, rfl, Nat.le_refl _, fun _ _ _ => rfl⟩
theorem KX.kept {bh : Nat} {a b c : World} (h : KX bh a b) (h' : Kept b c) : KX bh a c := ⟨h'.os.trans h.os, h'.output.trans h.output, Nat.le_trans h.size h'.size, fun x hx hn => (h'.block x (Nat.lt_of_lt_of_le hx h.size)).trans (h.block x hx hn)⟩
theorem KX.set {bh i : Nat} {a b : World} (h : KX bh a b) (y : Value) : KX bh a (b.setCell ⟨bh, i, none⟩ y) := ⟨h.os, h.output, by rw [World.size_setCell]; exact h.size, fun x hx hn => (Below.heap_setCell _ _ _ x hn).trans (h.block x hx hn)⟩
theorem KX.sub {bh : Nat} {u a b : World} (h : KX bh a b) (hs : Sub u a) (hu : u.heap.size ≤ bh) : Sub u b := ⟨Nat.le_trans hs.1 h.size, fun x c t fr hx => by
  have hlt := (Array.getElem?_eq_some_iff.1 hx).1
  rw [h.block x (Nat.lt_of_lt_of_le hlt hs.1) (by omega)]
  exact hs.2 x c t fr hx⟩

/-- What stands right behind the join. -/
structure VA (K N L Cc bh : Nat) (dN : Nat → Nat) (l : List UInt8) (v : World) : Prop where
  col : ∀ t, t < N → v.cell? ⟨Cc, t, none⟩ = some (.slice (some ⟨dN t, 0, none⟩) L L)
  byt : ∀ t, t < N → v.heap[dN t]? = some (.cells (u8V (colB K L l t)).toArray 5)
  ne : Cc ≠ bh
/-- Between two rounds: so many shards are written. -/
structure LA (K N C m L bh : Nat) (g : Nat → Ent) (l : List UInt8) (v0 : World) (i : Nat) (ov : Nat → Value) (v : World) : Prop where
  kx : KX bh v0 v
  sh : ∃ cur : Array Value, v.heap[bh]? = some (.cells cur 24) ∧ cur.size = N ∧ ∀ t, t < i → cur[t]? = some (ov t)
  own : ∀ t, t < i → OwnB 0 v (ov t) (shardB K N C (namesOf m g) (sizesOf m g) t (colB K L l t))
section
variable {K N C m L Cc bh : Nat} {dN : Nat → Nat} {g : Nat → Ent} {l : List UInt8} {v0 v : World} {i : Nat} {ov : Nat → Value}
theorem LA.tape (h : LA K N C m L bh g l v0 i ov v) (τ : Nat → Question → Nat) (d : Nat) : LA K N C m L bh g l v0 i ov { v with tape := τ, drawn := d } := ⟨⟨h.kx.os, h.kx.output, h.kx.size, h.kx.block⟩, h.sh, h.own⟩
theorem LA.ne (_h : LA K N C m L bh g l v0 i ov v) (hV : VA K N L Cc bh dN l v0) (hb : ∃ cur : Array Value, v0.heap[bh]? = some (.cells cur 24)) {t : Nat} (ht : t < N) : dN t ≠ bh := by
  intro e
  obtain ⟨cur, hc⟩ := hb
  have := hV.byt t ht
  rw [e, hc] at this
  cases this
theorem LA.col (h : LA K N C m L bh g l v0 i ov v) (hV : VA K N L Cc bh dN l v0) {t : Nat} (ht : t < N) : v.cell? ⟨Cc, t, none⟩ = some (.slice (some ⟨dN t, 0, none⟩) L L) := by
  have h1 := hV.col t ht
  have h2 := h.kx.block Cc (cell_lt h1) hV.ne
  simp only [World.cell?, h2] at h1 ⊢
  exact h1
theorem LA.lies (h : LA K N C m L bh g l v0 i ov v) (hV : VA K N L Cc bh dN l v0) (hb : ∃ cur : Array Value, v0.heap[bh]? = some (.cells cur 24)) {t : Nat} (ht : t < N) : Lies v (.slice (some ⟨dN t, 0, none⟩) L L) (u8V (colB K L l t)) := by
  have h1 := hV.byt t ht
  have h2 := (h.kx.block (dN t) (Array.getElem?_eq_some_iff.1 h1).1 (h.ne hV hb ht)).trans h1
  refine ⟨some ⟨dN t, 0, none⟩, L, by rw [u8V_length, colB_length], by rw [u8V_length, colB_length]; exact Nat.le_refl _, fun j x hj => ⟨dN t, 0, rfl, ?_⟩⟩
  rw [Nat.zero_add]
  simp only [World.cell?, h2]
  simpa using hj
theorem LA.kept {w : World} (h : LA K N C m L bh g l v0 i ov v) (hk : Kept v w) : LA K N C m L bh g l v0 i ov w := by
  obtain ⟨cur, h1, h2, h3⟩ := h.sh
  refine ⟨h.kx.kept hk, ⟨cur, (hk.block bh (Array.getElem?_eq_some_iff.1 h1).1).trans h1, h2, h3⟩, fun t ht => owns_keep' (h.own t ht) fun b hb => hk.block b (World.ownsRow.lt (h.own t ht) b hb).2⟩
theorem LA.store (h : LA K N C m L bh g l v0 i ov v) (hi : i < N) {y : Value} (hy : OwnB 0 v y (shardB K N C (namesOf m g) (sizesOf m g) i (colB K L l i))) : LA K N C m L bh g l v0 (i + 1) (fun t => if t = i then y else ov t) (v.setCell ⟨bh, i, none⟩ y) := by
  obtain ⟨cur, h1, h2, h3⟩ := h.sh
  have kp : ∀ {z : Value} {q : List UInt8}, OwnB 0 v z q → OwnB 0 (v.setCell ⟨bh, i, none⟩ y) z q := fun {z q} hz => owns_keep' hz fun b hb => Below.heap_setCell _ _ _ b (fun e => by
    obtain ⟨c1, f1, e1⟩ := Lib.ownsRow_kind hz b hb
    rw [show b = bh from e, h1] at e1
    cases e1)
  refine ⟨h.kx.set y, ⟨cur.setIfInBounds i y, ?_, by simp [h2], fun t ht => ?_⟩, fun t ht => ?_⟩
  · have hlt := (Array.getElem?_eq_some_iff.1 h1).1
    have hk := (Array.getElem?_eq_some_iff.1 h1).2
    show (v.heap.modify bh _)[bh]? = _
    rw [Array.getElem?_eq_getElem (by rw [Array.size_modify]; exact hlt), Array.getElem_modify_self, hk]
    rfl
  · by_cases e : t = i
    · subst e
      simp [h2, hi]
    · rw [if_neg e, Array.getElem?_setIfInBounds_ne (Ne.symm e)]
      exact h3 t (by omega)
  · by_cases e : t = i
    · subst e
      rw [if_pos rfl]
      exact kp hy
    · rw [if_neg e]
      exact kp (h.own t (by omega))
end

def TL (pc bh Cc N : Nat) (vn vs vm : Value) (x : Int) (T : Array Value) : Prop := ∃ f : Nat → Value, T = #[f 0, f 1, f 2, .pointer (some ⟨pc, 0, none⟩), f 4, f 5, vn, vs, vm, .slice (some ⟨bh, 0, none⟩) N N, f 10, f 11, f 12, f 13, f 14, f 15, f 16, f 17, f 18, f 19, f 20, f 21, f 22, f 23, f 24, f 25, f 26, f 27, f 28, f 29, f 30, f 31, f 32, f 33, .slice (some ⟨Cc, 0, none⟩) N N, .int .i64 ((N : Nat) : Int), .int .i64 x, f 37, f 38, f 39, f 40, f 41, f 42, f 43, f 44, f 45, f 46, f 47, f 48, f 49, f 50, f 51, f 52, f 53, f 54, f 55, f 56, f 57, f 58, f 59]
theorem tl_mk {pc bh Cc N : Nat} {vn vs vm : Value} {x : Int} {T : Array Value} (h : T = #[T.getD 0 undef, T.getD 1 undef, T.getD 2 undef, .pointer (some ⟨pc, 0, none⟩), T.getD 4 undef, T.getD 5 undef, vn, vs, vm, .slice (some ⟨bh, 0, none⟩) N N, T.getD 10 undef, T.getD 11 undef, T.getD 12 undef, T.getD 13 undef, T.getD 14 undef, T.getD 15 undef, T.getD 16 undef, T.getD 17 undef, T.getD 18 undef, T.getD 19 undef, T.getD 20 undef, T.getD 21 undef, T.getD 22 undef, T.getD 23 undef, T.getD 24 undef, T.getD 25 undef, T.getD 26 undef, T.getD 27 undef, T.getD 28 undef, T.getD 29 undef, T.getD 30 undef, T.getD 31 undef, T.getD 32 undef, T.getD 33 undef, .slice (some ⟨Cc, 0, none⟩) N N, .int .i64 ((N : Nat) : Int), .int .i64 x, T.getD 37 undef, T.getD 38 undef, T.getD 39 undef, T.getD 40 undef, T.getD 41 undef, T.getD 42 undef, T.getD 43 undef, T.getD 44 undef, T.getD 45 undef, T.getD 46 undef, T.getD 47 undef, T.getD 48 undef, T.getD 49 undef, T.getD 50 undef, T.getD 51 undef, T.getD 52 undef, T.getD 53 undef, T.getD 54 undef, T.getD 55 undef, T.getD 56 undef, T.getD 57 undef, T.getD 58 undef, T.getD 59 undef]) : TL pc bh Cc N vn vs vm x T := ⟨fun i => T.getD i undef, h⟩

section
variable {X : Nat → Prop} {Y : Nat → Option Obj} {D : Nat → World → Array Event → Prop} {Stop : Goroutine → World → Prop} {cs : List Frame} {cfr : Frame}
end
end Go.Proofs.YtlghjjennhpjeaaGreatDoor

/-
  From the join back: archive.Encode, Encode, encoded, the statement: beside those that leave.
-/
namespace Go.Proofs.YtlghjjennhpjeaaGreatDoor
open Go.RowKit Go.Deep Go.Lf Go.Conc Go.Hp

section
variable {X : Nat → Prop} {Y : Nat → Option Obj} {D : Nat → World → Array Event → Prop} {Stop : Goroutine → World → Prop} {v : World} {cs : List Frame} {cfr : Frame}
end
end Go.Proofs.YtlghjjennhpjeaaGreatDoor

/-
  One call of cairn.Encode beside those that leave: up to its fork.
-/
namespace Go.Proofs.YtlghjjennhpjeaaGreatDoor
open Go.RowKit Go.Deep Go.Lf Go.Conc Go.ConcN Go.Gh Go.Hp
open Go.ConcR (Payload WgAt wgBlock)

/-- The places of some blocks. -/
def ShunX (X : Nat → Prop) (l : Loc) : Prop := ∃ a : Addr, l = .cell a ∧ X a.block
theorem dokX (X : Nat → Prop) : Dok X (DM (ShunX X)) := dok_dm fun _ h => h

theorem PFc.tp {k n L : Nat} {l : List UInt8} {bk bd P F ba C : Nat} {w : World} (h : PFc k n L l bk bd P F ba C w) (τ : Nat → Question → Nat) (d : Nat) : PFc k n L l bk bd P F ba C { w with tape := τ, drawn := d } := ⟨h.vk, h.vd, h.hP, h.hF, h.va, h.pay, h.new⟩
theorem PFc.alloc {k n L : Nat} {l : List UInt8} {bk bd P F ba C : Nat} {w : World} (h : PFc k n L l bk bd P F ba C w) (o : Obj) : PFc k n L l bk bd P F ba C (w.alloc o) := by
  obtain ⟨n1, n2, n3, n4, n5, n6⟩ := h.new
  exact ⟨cell_alloc o h.vk, cell_alloc o h.vd, fun j hj => cell_alloc o (h.hP j hj), fun i hi => cell_alloc o (h.hF i hi), cell_alloc o h.va, (Below.heap_alloc _ _ _ (by omega)).trans h.pay, ⟨n1, n2, n3, n4, n5, by simp; omega⟩⟩

theorem srt_of {m : Nat} {g : Nat → Ent} (h : ∀ i, i + 1 < m → Hp.lt (g i).k (g (i + 1)).k = true) : Srt m g := fun i hi => by
  have h1 := h i hi
  rcases Hp.lt_tri (g i).k (g (i + 1)).k with ⟨_, h2, _⟩ | ⟨_, h2, _⟩ | ⟨_, h2, _⟩
  · exact h2
  · rw [h1] at h2; cases h2
  · rw [h1] at h2; cases h2

/-- What is known at the fork. -/
structure FkD (K N C m : Nat) (f : Nat → Ent) (d : Ent → List UInt8) (v0 : World) (g : Nat → Ent) (T18 T32' T : Array Value) (rest : List Nat) (x vn vs vj : Value) (pc gm cm bh bk bd Pp Ff ba Cc : Nat) (wc u w2 v3 : World) : Prop where
  t18 : T28 T18
  ta : TA pc vn vs (.slice (some ⟨gm, 0, none⟩) (mlen m g) cm) (.slice (some ⟨bh, 0, none⟩) N N) x T32'
  lf : Left x rest
  tp : TPc bk bd ba T
  pf : PFc K N (lenC K (joinD (fun j => d (g j)) m).length) (joinD (fun j => d (g j)) m) bk bd Pp Ff ba Cc v3
  low : ∀ b, b < w2.heap.size → b < Cc
  ge : w2.heap.size ≤ bk ∧ w2.heap.size ≤ bd ∧ w2.heap.size ≤ Pp ∧ w2.heap.size ≤ Ff
  fa : FA K N C m g (joinD (fun j => d (g j)) m) pc gm bh vn vs vj wc u w2
  b3 : Bel w2.heap.size w2 v3
  vu : Bel v0.heap.size v0 u
  re : Rearr m f g
  lt : ∀ i, i + 1 < m → Hp.lt (g i).k (g (i + 1)).k = true
  nm : NamesOk (namesOf m g)
  fw : FewOk (namesOf m g) (sizesOf m g)
  jl : (joinD (fun j => d (g j)) m).length ≤ 65536

/-- The group is made: four own steps. -/
theorem make_group {D : Nat → World → Array Event → Prop} (hD0 : ∀ n w, n ≤ w.heap.size → D n w #[]) {cs : List Frame} {bk bd ba : Nat} {T : Array Value} (W : World) (hT : TPc bk bd ba T) :
    ∃ T', (∀ E : EnvC, E.bk = bk → E.bd = bd → E.ba = ba → TB E W.heap.size T') ∧ ∀ Stop : Goroutine → World → Prop, (∀ dd d', Stop (G ((base 53).at ⟨T', []⟩ [.code gTail]) cs) (((W.at dd).alloc (wgBlock link.tWg 0 0)).at d')) → GoesI Tryz.prog D Stop (G ((base 53).at ⟨T, []⟩ [.code gc3]) cs) W := by
  obtain ⟨f, rfl⟩ := hT
  rw [gc3_eq]
  have key : ∀ (Stop : Goroutine → World → Prop) (a : Act) (o : Oper) (u : Value), og3[0]? = some o → a.defers = [] → Region.wanted o (yielded og3 a.tmps) = true → (∀ z : World, z.heap.size = W.heap.size → (execOp a.eval o).run Tryz.prog z = .ok (.value u) (z.alloc (wgBlock link.tWg 0 0))) → (∀ z, listed Tryz.prog 53 a o z = #[]) →
      (∀ dd d', Stop (G ((base 53).at (a.put o.dst u) [.code gTail]) cs) (((W.at dd).alloc (wgBlock link.tWg 0 0)).at d')) → GoesI Tryz.prog D Stop (G ((base 53).at a [.code (.seq (.region 3 og3 false) gTail)]) cs) W := by
    intro Stop a o u ho ha hw hr hl hst
    refine .next rfl fun d1 => ⟨_, _, _, stepG_seq, hD0 _ _ (Nat.le_refl _), .next rfl fun d2 => ⟨_, _, _, stepG_region, hD0 _ _ (Nat.le_refl _), ?_⟩⟩
    rw [ng3]
    simp only [List.range, List.range.loop]
    refine .next rfl fun d3 => ⟨_, _, _, stepG_value (b := base _) ho hw (by intro h; cases h) (hr _ rfl), ?_, .next rfl fun d4 => ⟨_, _, _, stepG_region_end, hD0 _ _ (Nat.le_refl _), .stop fun d5 => hst d3 d5⟩⟩
    rw [show (base 53).fn = 53 from rfl, hl]
    exact hD0 _ _ (by simp [World.at])
  refine ⟨(#[f 0, f 1, f 2, .pointer (some ⟨bk, 0, none⟩), f 4, f 5, f 6, .pointer (some ⟨bd, 0, none⟩), .pointer (some ⟨ba, 0, none⟩), f 9, f 10, f 11, f 12, f 13, f 14, f 15, f 16, f 17, f 18, f 19, f 20, f 21, f 22, f 23, f 24, f 25] : Array Value).setIfInBounds 9 (.pointer (some ⟨W.heap.size, 0, none⟩)), fun E h1 h2 h3 => ?_, fun Stop hst => ?_⟩
  · subst h1 h2 h3
    exact ⟨fun i => if i = 9 then undef else f i, rfl⟩
  · refine key Stop _ _ (.pointer (some ⟨W.heap.size, 0, none⟩)) (by simp only [og3, qg3]; rfl) rfl rfl (fun z hz => by rw [← hz]; go_simp; rfl) (fun z => listed_nil (by go_simp)) ?_
    exact hst
end Go.Proofs.YtlghjjennhpjeaaGreatDoor

/-
  One call of cairn.Encode beside those that leave: through its fork, back to its caller.
-/
namespace Go.Proofs.YtlghjjennhpjeaaGreatDoor
open Go.RowKit Go.Deep Go.Lf Go.Conc Go.ConcN Go.Gh Go.Hp
open Go.ConcR (Payload WgAt wgBlock)

theorem bytes_res (k L : Nat) (l : List UInt8) (bk bd P F ba : Nat) (h0 : Nat → Option Obj) (t : Nat) : bytesA ((envK k L l bk bd P F ba h0).res k L t) = (u8V (colB k L l t)).toArray := by
  rw [res_eq, colB_V]
  unfold bytesA numsV
  rw [List.map_map]
  rfl

/-- What stands of the real world, but the old groups. -/
structure KpX (X : Nat → Prop) (w w' : World) : Prop where
  os : w'.os = w.os
  output : w'.output = w.output
  size : w.heap.size ≤ w'.heap.size
  block : ∀ b, b < w.heap.size → ¬ X b → w'.heap[b]? = w.heap[b]?

end Go.Proofs.YtlghjjennhpjeaaGreatDoor

/-
  In company: the starter from the fork's beginning.
-/
namespace Go.Proofs.YtlghjjennhpjeaaGreatDoor
open Go.Conc Go.ConcN Go.RowKit Go.Gh Go.Conc.Lib Go.ConcR.Gen Go.ConcN.Gen
open Go.ConcR (Payload)

theorem n13 : o13.size = 3 := by kernel_rfl
section
variable [Payload] [OldG] {Wg C k B L : Nat} {E : Env}

def TW (E : Env) (Wg k : Nat) (T : Array Value) : Prop := ∃ f : Nat → Value, T = #[f 0, f 1, f 2, f 3, f 4, .slice (some ⟨E.bp, E.op, none⟩) k E.cp, f 6, .pointer (some ⟨E.bd, 0, none⟩), f 8, f 9, .pointer (some ⟨E.bv, 0, none⟩), .pointer (some ⟨E.ba, 0, none⟩), .pointer (some ⟨Wg, 0, none⟩), f 13, f 14, f 15, f 16, f 17, f 18, f 19, f 20, f 21, f 22, f 23, f 24, f 25, f 26, f 27, f 28, f 29, f 30, f 31, f 32, f 33, f 34, f 35, f 36, f 37, f 38, f 39, f 40, f 41, f 42, f 43, f 44, f 45, f 46, f 47, f 48, f 49, f 50, f 51, f 52, f 53, f 54, f 55, f 56, f 57, f 58, f 59, f 60, f 61, f 62, f 63, f 64, f 65, f 66, f 67, f 68]

set_option maxRecDepth 100000 in
set_option maxHeartbeats 4000000 in
theorem sp_start (hE : EnvOk E k L) {cs : List Frame} {T : Array Value} {w : World} {s0 : Nat} (hT : TW E Wg k T) (hF : SF Wg C k B L E s0 0 w) :
    Sp Tryz.prog link.tWg Wg C k B (E.mis k) (WPr C L (E.res L)) (KR Wg C k B L E cs) (misN E 0 k) [] (G ((base 52).at ⟨T, []⟩ [.code rTail]) cs) w := by
  obtain ⟨m, hm⟩ := spj (Wg := Wg) (C := C) (k := k) (B := B) (L := L) (E := E) hE (cs := cs) k 0 (by omega)
  rw [sp_iff]
  co_apply Exists.intro
  obtain ⟨f, rfl⟩ := hT
  rw [rTail_eq]
  (co_apply Goes.step rfl; intro _ hRq; replace hF := SF.rely hF hRq; clear hRq; rw [stepG_seq]; simp only [goes_go]; refine ⟨Terms.idle termsG _, ?_⟩)
  (co_apply Goes.step rfl; intro _ hRq; replace hF := SF.rely hF hRq; clear hRq; rw [stepG_seq]; simp only [goes_go]; refine ⟨Terms.idle termsG _, ?_⟩)
  (co_apply Goes.step rfl; intro _ hRq; replace hF := SF.rely hF hRq; clear hRq; rw [stepG_region, n13]; simp only [goes_go, List.range, List.range.loop]; refine ⟨Terms.idle termsG _, ?_⟩; simp only [o13, q13])
  (co_apply Goes.step rfl; intro _ hRq; replace hF := SF.rely hF hRq; clear hRq
   refine goes_oper_k rfl rfl (by decide) (fun Kq hKq => ?_)
   (skip)
   go_simp
   try (unfold stored; go_simp)
   refine hKq _ _ ⟨?_, ?_⟩
   · (co_quiet termsG)
   clear hKq Kq
   try walk_nrm)
  (co_apply Goes.step rfl; intro _ hRq; replace hF := SF.rely hF hRq; clear hRq
   refine goes_oper_k rfl rfl (by decide) (fun Kq hKq => ?_)
   (skip)
   go_simp
   try (unfold stored; go_simp)
   refine hKq _ _ ⟨?_, ?_⟩
   · (co_quiet termsG)
   clear hKq Kq
   try walk_nrm)
  (co_apply Goes.step rfl; intro _ hRq; replace hF := SF.rely hF hRq; clear hRq
   refine goes_oper_k rfl rfl (by decide) (fun Kq hKq => ?_)
   (skip)
   go_simp
   try (unfold stored; go_simp)
   refine hKq _ _ ⟨?_, ?_⟩
   · (co_quiet termsG)
   clear hKq Kq
   try walk_nrm)
  (co_apply Goes.step rfl; intro _ hRq; replace hF := SF.rely hF hRq; clear hRq; rw [stepG_region_end]; simp only [goes_go]; refine ⟨Terms.idle termsG _, ?_⟩)
  (co_apply Goes.step rfl; intro _ hRq; replace hF := SF.rely hF hRq; clear hRq; rw [stepG_block]; simp only [goes_go]; refine ⟨Terms.idle termsG _, ?_⟩)
  (co_apply Goes.step rfl; intro _ hRq; replace hF := SF.rely hF hRq; clear hRq; rw [stepG_loop]; simp only [goes_go]; refine ⟨Terms.idle termsG _, ?_⟩)
  exact hm _ _ [] s0 ⟨_, _, _, _, _, _, _, _, _, _, _, _, _, _, _, _, _, _, _, _, _, _, _, _, _, _, _, _, _, _, _, _, _, _, _, _, _, _, _, _, _, _, _, _, _, _, _, _, _, _, _, _, _, _, _, _, _, _, _, _, _, _, rfl⟩ hF (fun x => ⟨fun h => by simp at h, fun h => absurd h.2 (by omega)⟩)
end
end Go.Proofs.YtlghjjennhpjeaaGreatDoor

/-
  The fork of coding.Rebuild, whatever is above it, beside those that leave.
-/
namespace Go.Proofs.YtlghjjennhpjeaaGreatDoor
open Go.RowKit Go.Deep Go.Lf Go.Conc Go.ConcN Go.Gh
open Go.ConcR (Payload WgAt wgBlock)

/-- The bytes in order, from any place of their lists on. -/
structure DO (w : World) (n : Nat) (q : CL) (bd od : Nat → Nat) (yv : Nat → Nat → Nat) : Prop where
  lt : ∀ i, i < n → bd i < w.heap.size
  here : ∀ i, i < n → 0 < q.L → q.db i = some ⟨bd i, od i, none⟩
  y : ∀ i m, i < n → m < q.L → w.cell? ⟨bd i, od i + m, none⟩ = some (.int .u8 ((yv i m : Nat) : Int))
  yl : ∀ i m, yv i m < 256
theorem DO.bel {w w' : World} {n B : Nat} {q : CL} {bd od : Nat → Nat} {yv : Nat → Nat → Nat} (h : DO w n q bd od yv) (hb : Bel B w w') (hB : w.heap.size ≤ B) : DO w' n q bd od yv :=
  ⟨fun i hi => Nat.lt_of_lt_of_le (h.lt i hi) hb.size', h.here, fun i m hi hm => (Below.cell (p := ⟨bd i, _, none⟩) hb (Nat.lt_of_lt_of_le (h.lt i hi) hB)).trans (h.y i m hi hm), h.yl⟩

noncomputable def q12 : {x : Array Oper // x = cOps7 (cFst7 c12)} := ⟨_, by simp only [c12, body31, cFst7, cSnd7, cOps7, Tryz.f52, Option.getD_some]; rfl⟩
noncomputable def o12 : Array Oper := q12.1
theorem c12_eq : c12 = .seq (.region 12 o12 false) rTail := by kernel_rfl
theorem n12 : o12.size = 1 := by kernel_rfl

section
variable {K L : Nat}
def colOf (q : CL) (bd od : Nat → Nat) (yv : Nat → Nat → Nat) (L i : Nat) : Col := ⟨q.db i, bd i, od i, q.dc i, (List.range L).map (yv i)⟩
def envS (K L : Nat) (q : CL) (σ bd od : Nat → Nat) (yv : Nat → Nat → Nat) (bp bdv bD bv h2 ba : Nat) (b2 : Nat → Nat) (B : Nat → Nat → F) (h0 : Nat → Option Obj) : Env :=
  { ba := ba, bv := bv, bW := h2, oW := 0, cW := K, bd := bdv, bD := bD, oD := 0, cD := K, bp := bp, op := 0, cp := K, br := b2, oR := fun _ => 0, cR := fun _ => K, ws := fun t => (List.range K).map fun j => (B t j).val, px := fun t => q.ix (σ t), cs := (List.range K).map fun t => colOf q bd od yv L (σ t), h0 := h0 }

/-- The group is made: four own steps. -/
theorem make_groupR {D : Nat → World → Array Event → Prop} (hD0 : ∀ n w, n ≤ w.heap.size → D n w #[]) {cs : List Frame} {bp bdv bv ba : Nat} {T : Array Value} (W : World) (hT : TPre bp K bdv bv ba T) :
    ∃ T', (∀ E : Env, E.bp = bp → E.op = 0 → E.cp = K → E.bd = bdv → E.bv = bv → E.ba = ba → TW E W.heap.size K T') ∧ ∀ Stop : Goroutine → World → Prop, (∀ dd d', Stop (G ((base 52).at ⟨T', []⟩ [.code rTail]) cs) (((W.at dd).alloc (wgBlock link.tWg 0 0)).at d')) → GoesI Tryz.prog D Stop (G ((base 52).at ⟨T, []⟩ [.code c12]) cs) W := by
  obtain ⟨f, hT⟩ := hT
  rw [c12_eq]
  have key : ∀ (Stop : Goroutine → World → Prop) (a : Act) (o : Oper) (u : Value), o12[0]? = some o → a.defers = [] → Region.wanted o (yielded o12 a.tmps) = true → (∀ z : World, z.heap.size = W.heap.size → (execOp a.eval o).run Tryz.prog z = .ok (.value u) (z.alloc (wgBlock link.tWg 0 0))) → (∀ z, listed Tryz.prog 52 a o z = #[]) →
      (∀ dd d', Stop (G ((base 52).at (a.put o.dst u) [.code rTail]) cs) (((W.at dd).alloc (wgBlock link.tWg 0 0)).at d')) → GoesI Tryz.prog D Stop (G ((base 52).at a [.code (.seq (.region 12 o12 false) rTail)]) cs) W := by
    intro Stop a o u ho ha hw hr hl hst
    refine .next rfl fun d1 => ⟨_, _, _, stepG_seq, hD0 _ _ (Nat.le_refl _), .next rfl fun d2 => ⟨_, _, _, stepG_region, hD0 _ _ (Nat.le_refl _), ?_⟩⟩
    rw [n12]
    simp only [List.range, List.range.loop]
    refine .next rfl fun d3 => ⟨_, _, _, stepG_value (b := base _) ho hw (by intro h; cases h) (hr _ rfl), ?_, .next rfl fun d4 => ⟨_, _, _, stepG_region_end, hD0 _ _ (Nat.le_refl _), .stop fun d5 => hst d3 d5⟩⟩
    rw [show (base 52).fn = 52 from rfl, hl]
    exact hD0 _ _ (by simp [World.at])
  refine ⟨T.setIfInBounds 12 (.pointer (some ⟨W.heap.size, 0, none⟩)), fun E h1 h2 h3 h4 h5 h6 => ?_, fun Stop hst => ?_⟩
  rotate_left
  · subst hT
    refine key Stop _ _ (.pointer (some ⟨W.heap.size, 0, none⟩)) (by simp only [o12, q12]; rfl) rfl rfl (fun z hz => by rw [← hz]; go_simp; rfl) (fun z => listed_nil (by go_simp)) ?_
    exact hst
  · subst hT h1 h3 h4 h5 h6
    refine ⟨fun i => if i = 12 then undef else f i, ?_⟩
    rw [h2]
    rfl

theorem PF31.tp {q : CL} {σ : Nat → Nat} {bp bdv bD bv h2 ba C : Nat} {b2 : Nat → Nat} {B : Nat → Nat → F} {w : World} (h : PF31 K q σ bp bdv bD bv h2 ba C b2 B w) (τ : Nat → Question → Nat) (d : Nat) : PF31 K q σ bp bdv bD bv h2 ba C b2 B { w with tape := τ, drawn := d } := ⟨h.p0, h.p1, h.vd, h.hD, h.vv, h.hW, h.hw, h.va, h.pay, h.new, h.gj, h.pl⟩
theorem PF31.alloc {q : CL} {σ : Nat → Nat} {bp bdv bD bv h2 ba C : Nat} {b2 : Nat → Nat} {B : Nat → Nat → F} {w : World} (h : PF31 K q σ bp bdv bD bv h2 ba C b2 B w) (o : Obj) : PF31 K q σ bp bdv bD bv h2 ba C b2 B (w.alloc o) := by
  obtain ⟨n1, n2, n3, n4, n5, n6, n7, n8⟩ := h.new
  exact ⟨fun t ht => cell_alloc o (h.p0 t ht), fun t ht => cell_alloc o (h.p1 t ht), cell_alloc o h.vd, fun t ht => cell_alloc o (h.hD t ht), cell_alloc o h.vv, fun t ht => cell_alloc o (h.hW t ht), fun t j ht hj => cell_alloc o (h.hw t j ht hj), cell_alloc o h.va, (Below.heap_alloc _ _ _ (by omega)).trans h.pay, ⟨n1, n2, n3, n4, n5, n6, n7, by simp; omega⟩, h.gj, h.pl⟩

theorem envS_ok {q : CL} {σ bd od : Nat → Nat} {yv : Nat → Nat → Nat} {bp bdv bD bv h2 ba : Nat} {b2 : Nat → Nat} {B : Nat → Nat → F} {h0 : Nat → Option Obj} (hn : 0 < K ∧ K ≤ 128) (hL : L ≤ 140737488355328) (hx : ∀ t, t < K → q.ix (σ t) < 128) (hy : ∀ i m, yv i m < 256) : EnvOk (envS K L q σ bd od yv bp bdv bD bv h2 ba b2 B h0) K L := by
  refine ⟨by omega, by omega, by omega, by simp [envS], fun t _ => ⟨by simp [envS, LenIs], fun x hx => ?_⟩, fun c hc => ?_, fun t ht => ?_⟩
  · simp only [envS, List.mem_map] at hx
    obtain ⟨j, _, rfl⟩ := hx
    exact (B t j).isLt
  · simp only [envS, List.mem_map] at hc
    obtain ⟨j, _, rfl⟩ := hc
    refine ⟨by simp [colOf, LenIs], fun y hy' => ?_⟩
    simp only [colOf, List.mem_map] at hy'
    obtain ⟨m, _, rfl⟩ := hy'
    exact hy _ _
  · have := hx t ht
    show q.ix (σ t) < 128
    omega

theorem sf_start [Payload] [OldG] (hpe : Payload.ety = 24) {X : Nat → Prop} {Y : Nat → Option Obj} {w2 v3 W : World} {lw C : Nat} {q : CL} {σ bd od : Nat → Nat} {yv : Nat → Nat → Nat} {bp bdv bD bv h2 ba : Nat} {b2 : Nat → Nat} {B : Nat → Nat → F} (hold : ∀ b, OldG.old b → b < lw) (hX : ∀ b, X b → b < lw) (hge : lw ≤ bp ∧ lw ≤ bdv ∧ lw ≤ bD ∧ lw ≤ bv ∧ lw ≤ h2 ∧ ∀ t, t < K → lw ≤ b2 t) (hs : Sim X Y W v3) (hS : DO w2 K q bd od yv) (hno : ∀ i, i < K → ¬ OldG.old (bd i)) (hqL : q.L = L) (hb : Bel w2.heap.size w2 v3) (hlow : ∀ b, b < w2.heap.size → b < C) (hP : PF31 K q σ bp bdv bD bv h2 ba C b2 B v3) {Wg : Nat} (hWg : W.heap.size = Wg + 1) (hba : ba < Wg) :
    SF Wg C K (Wg + 1) L (envS K L q σ bd od yv bp bdv bD bv h2 ba b2 B (fun b => W.heap[b]?)) (Wg + 1) 0 (gw W []) := by
  obtain ⟨n1, n2, n3, n4, n5, n6, n7, n8⟩ := hP.new
  obtain ⟨g1, g2, g3, g4, g5, g6⟩ := hge
  have hsz := hs.size
  have st : ∀ {b o : Nat} {u : Value}, v3.cell? ⟨b, o, none⟩ = some u → (gw W []).cell? ⟨b, o, none⟩ = some u := fun {b o u} h => (show W.cell? ⟨b, o, none⟩ = some u from sim_cell hs h)
  have lo : ∀ {b : Nat}, b < Wg → b ≠ C → lw ≤ b → Lo Wg C (Wg + 1) b := fun {b} h h' hl => ⟨by omega, by omega, h', fun ho => by have := hold b ho; omega⟩
  have lr : ∀ t, t < K → Lo Wg C (Wg + 1) (b2 t) := fun t ht => lo (by have := n6 t ht; omega) (by have := n6 t ht; omega) (g6 t ht)
  have hcs : ∀ {t : Nat} {c : Col}, ((List.range K).map fun t => colOf q bd od yv L (σ t))[t]? = some c → t < K ∧ c = colOf q bd od yv L (σ t) := fun {t c} e => by
    rw [List.getElem?_map] at e
    obtain ⟨j', hj', rfl⟩ := Option.map_eq_some_iff.1 e
    obtain ⟨h1, rfl⟩ := range_get hj'
    exact ⟨h1, rfl⟩
  have hsz1 : (gw W []).heap.size = Wg + 1 := hWg
  refine ⟨⟨?_, by omega, by omega, fun b hb => ?_⟩, ⟨madeCells #[.slice none 0 0] K, ?_, size_madeCells _ _⟩, ⟨lo (b := ba) (by omega) (by omega) (by omega), lo (b := bv) (by omega) (by omega) (by omega), lo (b := h2) (by omega) (by omega) (by omega), lo (b := bdv) (by omega) (by omega) (by omega), lo (b := bD) (by omega) (by omega) (by omega), lo (b := bp) (by omega) (by omega) (by omega), lr, st hP.va, st hP.vv, st hP.vd, fun t ht => ?_, fun t ht j x e => ?_, fun j c e => ?_, fun t ht => ?_, fun t c e => ?_, fun c hc => ?_, fun b _ _ _ => rfl⟩, ⟨by omega, by omega, by omega⟩, fun t c ht => absurd ht (by omega)⟩
  · unfold gw
    rw [tag_book]
    exact Nat.le_refl _
  · unfold gw at hb
    rw [own_book] at hb
    cases hb
  · rw [hpe]
    show W.heap[C]? = _
    exact sim_blockX hs (fun hx => by have := hX C hx; omega) hP.pay
  · simp only [envS, Nat.zero_add]
    exact st (hP.hW t ht)
  · simp only [envS, Nat.zero_add, List.getElem?_map] at e ⊢
    obtain ⟨j', hj', rfl⟩ := Option.map_eq_some_iff.1 e
    obtain ⟨h1, rfl⟩ := range_get hj'
    exact st (hP.hw t _ ht h1)
  · obtain ⟨h1, rfl⟩ := hcs e
    simp only [envS, colOf, Nat.zero_add]
    have := st (hP.hD j h1)
    rw [CL.d, hqL] at this
    exact this
  · simp only [envS, Nat.zero_add]
    exact st (hP.p0 t ht)
  · obtain ⟨h1, rfl⟩ := hcs e
    simp only [envS, colOf, Nat.zero_add]
    have := st (hP.p1 t h1)
    rw [CL.d, hqL] at this
    exact this
  · simp only [envS, List.mem_map, List.mem_range] at hc
    obtain ⟨t, ht, rfl⟩ := hc
    have hσ := hP.pl.lt t ht
    have d1 := hS.lt (σ t) hσ
    have d2 := hS.here (σ t) hσ
    have d3 := hS.y (σ t)
    rw [hqL] at d2 d3
    have := hlow _ d1
    refine ⟨⟨by show bd (σ t) < _; omega, by show bd (σ t) ≠ _; omega, by show bd (σ t) ≠ C; omega, hno _ hσ⟩, d2, fun i y e => ?_⟩
    simp only [colOf, List.getElem?_map] at e ⊢
    obtain ⟨j', hj', rfl⟩ := Option.map_eq_some_iff.1 e
    obtain ⟨h1, rfl⟩ := range_get hj'
    exact st ((Below.cell (p := ⟨bd (σ t), _, none⟩) hb d1).trans (d3 _ hσ h1))

def yF (yv : Nat → Nat → Nat) (σ : Nat → Nat) (m j : Nat) : F := Fin.ofNat 256 (yv (σ j) m)
theorem yF_val {yv : Nat → Nat → Nat} (h : ∀ i m, yv i m < 256) (σ : Nat → Nat) (m j : Nat) : (yF yv σ m j).val = yv (σ j) m := Nat.mod_eq_of_lt (h _ _)
/-- The bytes that come out. -/
def xF (K : Nat) (B : Nat → Nat → F) (yv : Nat → Nat → Nat) (σ : Nat → Nat) (t m : Nat) : F := F.dot K (B t) (yF yv σ m)

section
variable {q : CL} {σ bd od : Nat → Nat} {yv : Nat → Nat → Nat} {bp bdv bD bv h2 ba C : Nat} {b2 : Nat → Nat} {B : Nat → Nat → F} {h0 : Nat → Option Obj}
theorem res_val (hy : ∀ i m, yv i m < 256) (t m : Nat) (hm : m < L) : ((envS K L q σ bd od yv bp bdv bD bv h2 ba b2 B h0).res L t).getD m 0 = (xF K B yv σ t m).val := by
  have e : zsOf ((envS K L q σ bd od yv bp bdv bD bv h2 ba b2 B h0).ws t) (envS K L q σ bd od yv bp bdv bD bv h2 ba b2 B h0).cs = (List.range K).map fun j => ((B t j).val, (List.range L).map (yv (σ j))) := by
    simp only [zsOf, envS, List.map_map]
    exact List.zip_map'
  unfold Env.res
  rw [e, comb_get (fun j => (B t j).val) (fun j => (List.range L).map (yv (σ j))) L m hm (fun j => by simp) K]
  have e2 : (fun (j r : Nat) => r ^^^ mul (((List.range L).map (yv (σ j))).getD m 0) (B t j).val) = fun j r => r ^^^ mul (yF yv σ m j).val (B t j).val := by
    funext j r
    rw [yF_val hy]
    simp [hm]
  rw [e2, rec_dot K (B t) (yF yv σ m) K]
  rfl
theorem res_len (t : Nat) : ((envS K L q σ bd od yv bp bdv bD bv h2 ba b2 B h0).res L t).length = L := by
  unfold Env.res
  rw [comb_length]
  simp
theorem here_val (hK : K ≤ 128) (hx : ∀ i, i < K → q.ix i < 128) (hpl : Placed K q.ix σ) (hg : ∃ A, F.Gj K (mF K fun s => q.ix (σ s)) K A B) {t : Nat} (ht : t < K) (e : q.ix (σ t) = t) (m : Nat) : xF K B yv σ t m = yF yv σ m t := by
  obtain ⟨A, hg⟩ := hg
  have h1 := F.gj_end hg (yF yv σ m) t ht
  rw [F.dot_unit ht ((mF_sq hK hpl hx).unit t ht (by rw [show (Fin.ofNat 256 (q.ix (σ t))).val = q.ix (σ t) from Nat.mod_eq_of_lt (by have := hx _ (hpl.lt t ht); omega), e]; exact ht)).2] at h1
  exact h1
theorem mix_val (hpl : Placed K q.ix σ) (hg : ∃ A, F.Gj K (mF K fun s => q.ix (σ s)) K A B) {i m : Nat} (hi : i < K) : F.dot K (mF K q.ix i) (fun j => xF K B yv σ j m) = Fin.ofNat 256 (yv i m) := by
  obtain ⟨A, hg⟩ := hg
  obtain ⟨t, ht, rfl⟩ := hpl.all i hi
  exact F.gj_end hg (yF yv σ m) t ht

theorem suf_of [Payload] [OldG] {X : Nat → Prop} {Y : Nat → Option Obj} {w2 v3 W W' v' : World} {s0 : Nat} {l ids : List Nat} (hs : Sim X Y W v3) {Wg : Nat} (hWg : W.heap.size = Wg + 1) (hbaW : ba < Wg) (hn : 0 < K ∧ K ≤ 128) (hx : ∀ i, i < K → q.ix i < 128) (hS : DO w2 K q bd od yv) (hlow : ∀ b, b < w2.heap.size → b < C) (hP : PF31 K q σ bp bdv bD bv h2 ba C b2 B v3)
    (hk : ∀ b c t fr, ¬ (X b ∨ b = Wg) → W'.heap[b]? = some (.cells c t fr) → v'.heap[b]? = some (.cells c t fr)) (hX : ∀ b, X b → b < w2.heap.size)
    (hF : SF Wg C K (Wg + 1) L (envS K L q σ bd od yv bp bdv bD bv h2 ba b2 B (fun b => W.heap[b]?)) s0 K (gw W' l)) (hids : ∀ x, x ∈ ids ↔ (envS K L q σ bd od yv bp bdv bD bv h2 ba b2 B (fun b => W.heap[b]?)).mis K x)
    (hres : ∀ x ∈ ids, ∃ v l', Has C x v W' ∧ WPr C L ((envS K L q σ bd od yv bp bdv bD bv h2 ba b2 B (fun b => W.heap[b]?)).res L) x v (gw W' l') ∧ ∀ b ∈ l', Wg + 1 ≤ b) :
    (∃ dN : Nat → Nat, ∀ t, t < K → v'.cell? ⟨C, t, none⟩ = some (.slice (some ⟨dN t, 0, none⟩) L L) ∧ ∀ m, m < L → v'.cell? ⟨dN t, m, none⟩ = some (.int .u8 (((xF K B yv σ t m).val : Nat) : Int))) ∧ v'.cell? ⟨ba, 0, none⟩ = some (.slice (some ⟨C, 0, none⟩) K K) := by
  obtain ⟨n1, n2, n3, n4, n5, n6, n7, n8⟩ := hP.new
  have hsz := hs.size
  have up : ∀ {b o : Nat} {u : Value}, ¬ X b → b ≠ Wg → W'.cell? ⟨b, o, none⟩ = some u → v'.cell? ⟨b, o, none⟩ = some u := fun hx hb h => cell_up (X := fun b => X b ∨ b = Wg) hk (fun e => e.elim hx hb) h
  have lw : ∀ {b o : Nat} {u : Value}, b < Wg → b ≠ C → v3.cell? ⟨b, o, none⟩ = some u → v'.cell? ⟨b, o, none⟩ = some u := fun {b o u} h h' hc => by
    refine up (hs.notX hc).1 (by omega) ?_
    have e1 : W'.heap[b]? = W.heap[b]? := hF.low.std b (by omega) (by omega) h'
    have e2 := sim_cell hs hc
    simp only [World.cell?, e1] at e2 ⊢
    exact e2
  have hXC : ∀ b, X b → b < C := fun b hb => hlow b (hX b hb)
  have hmem : ∀ t, t < K → ∃ N', v'.cell? ⟨C, t, none⟩ = some (.slice (some ⟨N', 0, none⟩) L L) ∧ ∀ m, m < L → v'.cell? ⟨N', m, none⟩ = some (.int .u8 (((xF K B yv σ t m).val : Nat) : Int)) := by
    intro t ht
    have fin : ∀ (N' : Nat) (xs : List Nat), Wg + 1 ≤ N' → W'.heap[N']? = some (.cells (bytesA xs) 5) → xs.length = L → (∀ m, m < L → xs.getD m 0 = (xF K B yv σ t m).val) → ∀ m, m < L → v'.cell? ⟨N', m, none⟩ = some (.int .u8 (((xF K B yv σ t m).val : Nat) : Int)) := by
      intro N' xs h0 h1 h2 h3 m hm
      refine up (fun hx => by have := hXC N' hx; omega) (by omega) ?_
      simp only [World.cell?, h1]
      rw [bytesA_get, List.getElem?_eq_getElem (by omega), Option.map_some, ← h3 m hm, List.getD_eq_getElem?_getD, List.getElem?_eq_getElem (by omega)]
      rfl
    have upC : ∀ {o : Nat} {u : Value}, W'.cell? ⟨C, o, none⟩ = some u → v'.cell? ⟨C, o, none⟩ = some u := fun h => up (fun hx => by have := hXC C hx; omega) (by omega) h
    by_cases e : q.ix (σ t) = t
    · have hc : (envS K L q σ bd od yv bp bdv bD bv h2 ba b2 B (fun b => W.heap[b]?)).cs[t]? = some (colOf q bd od yv L (σ t)) := by
        show ((List.range K).map _)[t]? = _
        rw [List.getElem?_map, List.getElem?_range ht]
        rfl
      obtain ⟨N', _, _, hmn, h1, h2⟩ := hF.dn t _ ht (fun hm => hm.2 e) hc
      refine ⟨N', upC h1, fin N' _ hmn.2 h2 (by simp [colOf]) fun m hm => ?_⟩
      rw [here_val hn.2 hx hP.pl hP.gj ht e, yF_val hS.yl]
      simp [colOf, hm]
    · obtain ⟨v, l', h1, ⟨N', rfl, hmn, _, h2⟩, hl'⟩ := hres t ((hids t).2 ⟨ht, e⟩)
      exact ⟨N', upC h1, fin N' _ (hl' N' ((mine_gw W' l' N').1 hmn)) h2 (res_len t) fun m hm => res_val hS.yl t m hm⟩
  refine ⟨⟨fun t => if h : t < K then (hmem t h).choose else 0, fun t ht => ?_⟩, lw (by omega) (by omega) hP.va⟩
  simp only [dif_pos ht]
  exact (hmem t ht).choose_spec
end
end

theorem misN_le (E : Env) : ∀ d j, misN E j d ≤ d
  | 0, _ => Nat.le_refl _
  | d + 1, j => by
    unfold misN
    have := misN_le E d (j + 1)
    split <;> omega

section
variable {X : Nat → Prop} {Y : Nat → Option Obj} {D : Nat → World → Array Event → Prop} {Stop : Goroutine → World → Prop} {v : World} {K C Wg j : Nat} {E : Env} {cs : List Frame} {f : Frame}
set_option maxHeartbeats 8000000 in
set_option maxRecDepth 100000 in
theorem back31 (hD : Dok X D) {T : Array Value} {ops : Array Oper} (hT : TS E Wg K j T) (hba : v.cell? ⟨E.ba, 0, none⟩ = some (.slice (some ⟨C, 0, none⟩) K K))
    (hend : ∀ τ d, ∀ w, SimT X Y w { v with tape := τ, drawn := d } → GoesI Tryz.prog D Stop (G (f.finish (.slice (some ⟨C, 0, none⟩) K K)) cs) w) :
    ReaI Tryz.prog X Y D Stop 52 (f :: cs) (.inRegion ops [] :: [.code rEnd2]) ⟨T, []⟩ v := by
  obtain ⟨v0, v1, v2, v3, v4, v5, v6, v8, v9, v13, v14, v15, v16, v17, v18, v19, v20, v21, v22, v23, v24, v25, v26, v27, v28, v29, v30, v31, v32, v33, v34, v35, v36, v37, v38, v39, v40, v41, v42, v43, v44, v45, v46, v50, v51, v52, v53, v54, v55, v56, v57, v58, v59, v60, v61, v62, v63, v64, v65, v66, v67, v68, rfl⟩ := hT
  refine reaI_end hD ?_
  unfold rEnd2
  simp only [o22, q22]
  refine reachI_go goodF hD (by kernel_rfl) rfl sf31 fun R hR τ d' => ?_
  have hb1 : ({ v with tape := τ, drawn := d' } : World).cell? ⟨E.ba, 0, none⟩ = some (.slice (some ⟨C, 0, none⟩) K K) := hba
  have hv1 := hend τ d'
  generalize { v with tape := τ, drawn := d' } = v1 at hb1 hv1 ⊢
  go_wp2
  refine reaI_ret (y := .slice (some ⟨C, 0, none⟩) K K) hD rfl Tryz.func52 (fun τ d => ?_) hv1
  exact results_tmp (fn := Tryz.f52) (t := 4) rfl _ _ _
end
end Go.Proofs.YtlghjjennhpjeaaGreatDoor
