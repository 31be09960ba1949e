/-
  How the document reads a shard: its list of places (Scan) in memory, and the small calls on it: err, must, num.
-/
import Derived.Test.YtkpcmfgeanlcnaaDoorRSum
import Derived.Deep.OwnRows
namespace Go.Proofs.YtkpcmfgeanlcnaaDoor
open Go.RowKit Go.Deep

/-- Below B all blocks but those of S are as they were; no block has gone. -/
structure But (B : Nat) (S : Nat → Prop) (w w' : World) : Prop where
  os : w'.os = w.os
  tape : w'.tape = w.tape
  output : w'.output = w.output
  size : w.heap.size ≤ w'.heap.size
  block : ∀ k, k < B → ¬ S k → w'.heap[k]? = w.heap[k]?
theorem But.refl (B : Nat) (S : Nat → Prop) (w : World) : But B S w w := ⟨rfl, rfl, rfl, Nat.le_refl _, fun _ _ _ => rfl⟩
theorem But.trans {B : Nat} {S : Nat → Prop} {a b c : World} (h : But B S a b) (k : But B S b c) : But B S a c :=
  ⟨k.os.trans h.os, k.tape.trans h.tape, k.output.trans h.output, Nat.le_trans h.size k.size, fun i hi hs => (k.block i hi hs).trans (h.block i hi hs)⟩
theorem But.mono {B B' : Nat} {S S' : Nat → Prop} {a b : World} (h : But B S a b) (hB : B' ≤ B) (hS : ∀ k, S k → S' k) : But B' S' a b :=
  ⟨h.os, h.tape, h.output, h.size, fun k hk hs => h.block k (Nat.lt_of_lt_of_le hk hB) (fun x => hs (hS k x))⟩
theorem But.of_below {B : Nat} {S : Nat → Prop} {a b : World} (h : Below B a b) : But B S a b := ⟨h.os, h.tape, h.output, h.size, fun k hk _ => h.block k hk⟩
theorem But.setCell {B : Nat} {S : Nat → Prop} {a w : World} (h : But B S a w) {p : Addr} (hp : B ≤ p.block ∨ S p.block) (u : Value) : But B S a (w.setCell p u) :=
  h.trans ⟨rfl, rfl, rfl, by simp [World.setCell], fun k hk hs => Below.heap_setCell _ _ _ _ (by
    rintro rfl
    rcases hp with x | x
    · omega
    · exact hs x)⟩
theorem But.alloc {B : Nat} {S : Nat → Prop} {a w : World} (h : But B S a w) (hB : B ≤ w.heap.size) (o : Obj) : But B S a (w.alloc o) :=
  h.trans (.of_below ((Below.refl _ _).alloc hB o))
theorem But.drew {B : Nat} {S : Nat → Prop} {a w : World} (h : But B S a w) : But B S a w.drew := ⟨h.os, h.tape, h.output, h.size, h.block⟩
theorem But.grown {B : Nat} {S : Nat → Prop} {a w w' : World} {row : Option Nat} (h : But B S a w) (hg : w.grownBy w' row) (hB : B ≤ w.heap.size) (hr : ∀ k, row = some k → B ≤ k) : But B S a w' :=
  h.trans (.of_below ((Below.refl _ _).grown hg hB hr))
theorem But.cell {B : Nat} {S : Nat → Prop} {w w' : World} (h : But B S w w') {p : Addr} (hp : p.block < B) (hs : ¬ S p.block) : w'.cell? p = w.cell? p := World.cell?_of_block (w := w) (h.block p.block hp hs)
theorem But.frozen {B : Nat} {S : Nat → Prop} {w w' : World} (h : But B S w w') {p : Addr} (hp : p.block < B) (hs : ¬ S p.block) : w'.frozen? p = w.frozen? p := World.frozen?_of_block (w := w) (h.block p.block hp hs)
theorem But.below {B : Nat} {S : Nat → Prop} {w w' : World} (h : But B S w w') (hS : ∀ k, k < B → ¬ S k) : Below B w w' := ⟨h.os, h.tape, h.output, h.size, fun k hk => h.block k hk (hS k hk)⟩

/-- A row of cells stands in a block; none of them is frozen. -/
def RowAt (w : World) (b : Nat) (cs : List Value) (t : TypeId) : Prop := w.heap[b]? = some (.cells cs.toArray t (0, 0))
theorem RowAt.cell {w : World} {b : Nat} {cs : List Value} {t : TypeId} (h : RowAt w b cs t) {i : Nat} {v : Value} (hi : cs[i]? = some v) : w.cell? ⟨b, i, none⟩ = some v := by
  unfold RowAt at h
  simp [World.cell?, h, hi]
theorem RowAt.frozen {w : World} {b : Nat} {cs : List Value} {t : TypeId} (h : RowAt w b cs t) (i : Nat) : w.frozen? ⟨b, i, none⟩ = false := by
  unfold RowAt at h
  simp [World.frozen?, h]
theorem RowAt.lt {w : World} {b : Nat} {cs : List Value} {t : TypeId} (h : RowAt w b cs t) : b < w.heap.size := by
  unfold RowAt at h
  exact (Array.getElem?_eq_some_iff.1 h).1
theorem RowAt.set {w : World} {b : Nat} {cs : List Value} {t : TypeId} (h : RowAt w b cs t) (i : Nat) (v : Value) : RowAt (w.setCell ⟨b, i, none⟩ v) b (cs.set i v) t := by
  unfold RowAt at *
  simp [World.setCell, Array.getElem?_modify, h]
theorem RowAt.later {w w' : World} {b : Nat} {cs : List Value} {t : TypeId} {B : Nat} {S : Nat → Prop} (h : RowAt w b cs t) (hb : But B S w w') (h1 : b < B) (h2 : ¬ S b) : RowAt w' b cs t := by
  unfold RowAt at *
  rw [hb.block b h1 h2]; exact h
theorem RowAt.made (w : World) (cs : List Value) (t : TypeId) : RowAt (w.alloc (.cells cs.toArray t)) w.heap.size cs t := by
  show (w.heap.push _)[w.heap.size]? = _
  simp

/-- The document's list of places: the bytes, the place, the first error and its place. -/
def scanL (v : Value) (at_ e p : Nat) : List Value := [v, .int .i64 (at_ : Int), .int .i64 (e : Int), .int .i64 (p : Int)]
def Scn (w : World) (sb : Nat) (v : Value) (at_ e p : Nat) : Prop := RowAt w sb (scanL v at_ e p) 94

section
variable {w : World} {sb : Nat} {v : Value} {at_ e p : Nat}
theorem Scn.c0 (h : Scn w sb v at_ e p) : w.cell? ⟨sb, 0, none⟩ = some v := RowAt.cell h rfl
theorem Scn.c1 (h : Scn w sb v at_ e p) : w.cell? ⟨sb, 1, none⟩ = some (.int .i64 (at_ : Int)) := RowAt.cell h rfl
theorem Scn.c2 (h : Scn w sb v at_ e p) : w.cell? ⟨sb, 2, none⟩ = some (.int .i64 (e : Int)) := RowAt.cell h rfl
theorem Scn.c3 (h : Scn w sb v at_ e p) : w.cell? ⟨sb, 3, none⟩ = some (.int .i64 (p : Int)) := RowAt.cell h rfl
theorem Scn.setAt (h : Scn w sb v at_ e p) (x : Nat) : Scn (w.setCell ⟨sb, 1, none⟩ (.int .i64 (x : Int))) sb v x e p := RowAt.set h 1 _
theorem Scn.setE (h : Scn w sb v at_ e p) (x : Nat) : Scn (w.setCell ⟨sb, 2, none⟩ (.int .i64 (x : Int))) sb v at_ x p := RowAt.set h 2 _
theorem Scn.setP (h : Scn w sb v at_ e p) (x : Nat) : Scn (w.setCell ⟨sb, 3, none⟩ (.int .i64 (x : Int))) sb v at_ e x := RowAt.set h 3 _
end

/-- The first error stays. -/
def first (e x : Nat) : Nat := if e = 0 then x else e
def firstP (e p y : Nat) : Nat := if e = 0 then y else p

set_option maxHeartbeats 400000 in
set_option maxRecDepth 100000 in
theorem err_any (sb : Nat) (X Y : Int) (x y : Nat) (hX : X = x) (hY : Y = y) (v : Value) (at_ e p : Nat) (w : World) (h : Scn w sb v at_ e p) :
    Calls Tryd.prog 73 #[.pointer (some ⟨sb, 0, none⟩), .int .i64 X, .int .i64 Y] w fun r w' => r = .returned (.tuple #[]) ∧ Scn w' sb v at_ (first e x) (firstP e p y) ∧ But w.heap.size (· = sb) w w' := by
  subst hX hY
  have c2 := h.c2
  have c3 := h.c3
  have f2 := RowAt.frozen h 2
  have f3 := RowAt.frozen h 3
  go_enter Tryd.func73, Tryd.ntmps73
  by_cases he : e = 0
  · subst he
    have h1 := (h.setE x).setP y
    have b1 := ((But.refl w.heap.size (· = sb) w).setCell (p := ⟨sb, 2, none⟩) (.inr rfl) (.int .i64 (x : Int))).setCell (p := ⟨sb, 3, none⟩) (.inr rfl) (.int .i64 (y : Int))
    go_wp2
    go_end0
    exact ⟨rfl, h1, b1⟩
  · have he' : ((e : Int) == 0) = false := by simp; omega
    have E : Hid (¬ e = 0) := he
    clear he
    go_wp2
    go_end0
    refine ⟨rfl, ?_, But.refl _ _ _⟩
    unfold first firstP
    rw [if_neg E.out, if_neg E.out]
    exact h

set_option maxHeartbeats 400000 in
set_option maxRecDepth 100000 in
theorem must_any (sb : Nat) (ok : Bool) (X Y : Int) (x y : Nat) (hX : X = x) (hY : Y = y) (v : Value) (at_ e p : Nat) (w : World) (h : Scn w sb v at_ e p) :
    Calls Tryd.prog 42 #[.pointer (some ⟨sb, 0, none⟩), .bool ok, .int .i64 X, .int .i64 Y] w fun r w' => r = .returned (.tuple #[]) ∧ Scn w' sb v at_ (if ok then e else first e x) (if ok then p else firstP e p y) ∧ But w.heap.size (· = sb) w w' := by
  subst hX hY
  go_enter Tryd.func42, Tryd.ntmps42
  cases ok
  · go_wp2_with (first | (go_at_call 73; refine (err_any sb _ _ x y rfl rfl v at_ e p _ h).mono ?_; rintro r w' ⟨rfl, h1, b1⟩))
    go_end0
    exact ⟨rfl, h1, b1⟩
  · go_wp2
    go_end0
    exact ⟨rfl, h, But.refl _ _ _⟩

/-- The byte at a place. -/
def bAt (l : List UInt8) (i : Nat) : Nat := (l.getD i 0).toNat
theorem bAt_lt (l : List UInt8) (i : Nat) : bAt l i < 256 := UInt8.toNat_lt _
/-- The number of n bytes from a place on, the lowest first. -/
def le (l : List UInt8) (a : Nat) : Nat → Nat
  | 0 => 0
  | n + 1 => bAt l a + 256 * le l (a + 1) n
theorem le_lt (l : List UInt8) : ∀ (n a : Nat), le l a n < 256 ^ n
  | 0, _ => by simp [le]
  | n + 1, a => by
    have h1 := bAt_lt l a
    have h2 := le_lt l n (a + 1)
    simp only [le, Nat.pow_succ]
    omega
/-- The bytes stand in a block from a place on. -/
def Byt (w : World) (bb bo : Nat) (l : List UInt8) : Prop := ∀ i, i < l.length → w.cell? ⟨bb, bo + i, none⟩ = some (.int .u8 (bAt l i : Int))
theorem Byt.later {w w' : World} {bb bo : Nat} {l : List UInt8} {B : Nat} {S : Nat → Prop} (h : Byt w bb bo l) (hb : But B S w w') (h1 : bb < B) (h2 : ¬ S bb) : Byt w' bb bo l := fun i hi => (hb.cell (p := ⟨bb, bo + i, none⟩) h1 h2).trans (h i hi)

theorem num_step {l : List UInt8} {a c n : Nat} (hc : c + 1 ≤ n) : 256 * le l (a + (c + 1)) (n - (c + 1)) + bAt l (a + c) = le l (a + c) (n - c) := by
  obtain ⟨m, hm⟩ : ∃ m, n - c = m + 1 := ⟨n - c - 1, by omega⟩
  have e : n - (c + 1) = m := by omega
  rw [hm, e]
  simp only [le]
  rw [show a + (c + 1) = a + c + 1 by omega]
  omega

theorem ret_i64 {a b : Int} (h : a = b) : Ending.returned (.int .i64 a) = .returned (.int .i64 b) := by rw [h]
set_option maxHeartbeats 1000000 in
set_option maxRecDepth 100000 in
theorem num_any (sb : Nat) (A N : Int) (a n : Nat) (hA : A = a) (hN : N = n) (hn : n ≤ 4) (bb bo cap : Nat) (l : List UInt8) (hl : l.length < 2 ^ 60) (at_ e p : Nat) (w : World) (h : Scn w sb (.slice (some ⟨bb, bo, none⟩) l.length cap) at_ e p) (hb : Byt w bb bo l) (hr : e = 0 → a + n ≤ l.length) :
    Calls Tryd.prog 40 #[.pointer (some ⟨sb, 0, none⟩), .int .i64 A, .int .i64 N] w fun r w' => r = .returned (.int .i64 ((if e = 0 then le l a n else 0 : Nat) : Int)) ∧ w' = w := by
  subst hA hN
  have c0 := h.c0
  have c2 := h.c2
  go_enter Tryd.func40, Tryd.ntmps40
  by_cases he : e = 0
  · subst he
    have hr' := hr rfl
    rw [if_pos rfl]
    clear hr h
    go_wp2
    go_loop [7, 8] (fun vv vi => ∃ c : Nat, c ≤ n ∧ vv = .int .i64 (le l (a + c) (n - c) : Nat) ∧ vi = .int .i64 ((c : Int) - 1)) (fun _ i => (intOf i + 1).toNat)
    case atStart => exact ⟨n, Nat.le_refl _, by simp [le], rfl⟩
    case round =>
      obtain ⟨c, hc, rfl, rfl⟩ := hrel
      cases c with
      | zero =>
        simp only [Nat.add_zero, Nat.sub_zero]
        go_wp2
        go_ret
        exact ⟨rfl, rfl⟩
      | succ c =>
        have hcell := hb (a + c) (by omega)
        have hs := num_step (l := l) (a := a) hc
        have hlt := le_lt l (n - (c + 1)) (a + (c + 1))
        have hp : 256 ^ (n - (c + 1)) ≤ 256 ^ 3 := Nat.pow_le_pow_right (by omega) (by omega)
        have hbl := bAt_lt l (a + c)
        obtain ⟨x, ex⟩ : ∃ x, le l (a + (c + 1)) (n - (c + 1)) = x := ⟨_, rfl⟩
        obtain ⟨y, ey⟩ : ∃ y, bAt l (a + c) = y := ⟨_, rfl⟩
        rw [ex] at hs hlt
        rw [ey] at hs hbl hcell
        have HS : Hid (256 * x + y = le l (a + c) (n - c)) := hs
        have hx : x < 16777216 := by
          have : (256 : Nat) ^ 3 = 16777216 := by decide
          omega
        have e1 : ((c + 1 : Nat) : Int) - 1 = (c : Int) := by omega
        rw [e1, ex]
        clear hs hlt hp ex ey hb e1
        go_wp2
        go_round
        case rel => exact ⟨c, by omega, by rw [← HS.out]; go_num, by go_num⟩
        case measure => simp [intOf] <;> omega
  · have he' : ((e : Int) == 0) = false := by simp; omega
    rw [if_neg he]
    clear he hr h
    go_wp2
    go_loop [7, 8] (fun vv vi => vv = .int .i64 0 ∧ vi = .int .i64 ((n : Int) - 1)) (fun _ i => (intOf i + 1).toNat)
    case atStart => exact ⟨rfl, rfl⟩
    case round =>
      obtain ⟨rfl, rfl⟩ := hrel
      cases n with
      | zero =>
        go_wp2
        go_ret
        exact ⟨rfl, rfl⟩
      | succ n =>
        have e1 : ((n + 1 : Nat) : Int) - 1 = (n : Int) := by omega
        rw [e1]
        go_wp2
        go_ret
        exact ⟨rfl, rfl⟩
end Go.Proofs.YtkpcmfgeanlcnaaDoor
