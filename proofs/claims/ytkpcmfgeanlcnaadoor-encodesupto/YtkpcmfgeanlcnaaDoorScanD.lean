/-
  How the document reads a shard: its list of places (Scan) in memory, and the small calls on it: err, must, num.
-/
import Derived.Test.YtkpcmfgeanlcnaaDoorRSum
import Derived.Deep.OwnRows
import Derived.Deep.QuietTactic
import Derived.BigQuiet
import Derived.StillTailTactics
namespace Go.Proofs.YtkpcmfgeanlcnaaDoor
open Go.RowKit Go.Deep

/-- Below B all blocks but those of S are as they were; no block has gone. -/
structure But (B : Nat) (S : Nat → Prop) (w w' : World) : Prop where
  os : w'.os = w.os
  tape : w'.tape = w.tape
  output : w'.output = w.output
  size : w.heap.size ≤ w'.heap.size
  block : ∀ k, k < B → ¬ S k → w'.heap[k]? = w.heap[k]?
theorem But.refl (B : Nat) (S : Nat → Prop) (w : World) : But B S w w := ⟨rfl, rfl, rfl, Nat.le_refl _, fun _ _ _ => rfl⟩
theorem But.trans {B : Nat} {S : Nat → Prop} {a b c : World} (h : But B S a b) (k : But B S b c) : But B S a c :=
  ⟨k.os.trans h.os, k.tape.trans h.tape, k.output.trans h.output, Nat.le_trans h.size k.size, fun i hi hs => (k.block i hi hs).trans (h.block i hi hs)⟩
theorem But.mono {B B' : Nat} {S S' : Nat → Prop} {a b : World} (h : But B S a b) (hB : B' ≤ B) (hS : ∀ k, S k → S' k) : But B' S' a b :=
  ⟨h.os, h.tape, h.output, h.size, fun k hk hs => h.block k (Nat.lt_of_lt_of_le hk hB) (fun x => hs (hS k x))⟩
theorem But.of_below {B : Nat} {S : Nat → Prop} {a b : World} (h : Below B a b) : But B S a b := ⟨h.os, h.tape, h.output, h.size, fun k hk _ => h.block k hk⟩
theorem But.setCell {B : Nat} {S : Nat → Prop} {a w : World} (h : But B S a w) {p : Addr} (hp : B ≤ p.block ∨ S p.block) (u : Value) : But B S a (w.setCell p u) :=
  h.trans ⟨rfl, rfl, rfl, by simp [World.setCell], fun k hk hs => Below.heap_setCell _ _ _ _ (by
    rintro rfl
    rcases hp with x | x
    · omega
    · exact hs x)⟩
theorem But.alloc {B : Nat} {S : Nat → Prop} {a w : World} (h : But B S a w) (hB : B ≤ w.heap.size) (o : Obj) : But B S a (w.alloc o) :=
  h.trans (.of_below ((Below.refl _ _).alloc hB o))
theorem But.drew {B : Nat} {S : Nat → Prop} {a w : World} (h : But B S a w) : But B S a w.drew := ⟨h.os, h.tape, h.output, h.size, h.block⟩
theorem But.grown {B : Nat} {S : Nat → Prop} {a w w' : World} {row : Option Nat} (h : But B S a w) (hg : w.grownBy w' row) (hB : B ≤ w.heap.size) (hr : ∀ k, row = some k → B ≤ k) : But B S a w' :=
  h.trans (.of_below ((Below.refl _ _).grown hg hB hr))
theorem But.cell {B : Nat} {S : Nat → Prop} {w w' : World} (h : But B S w w') {p : Addr} (hp : p.block < B) (hs : ¬ S p.block) : w'.cell? p = w.cell? p := World.cell?_of_block (w := w) (h.block p.block hp hs)
theorem But.frozen {B : Nat} {S : Nat → Prop} {w w' : World} (h : But B S w w') {p : Addr} (hp : p.block < B) (hs : ¬ S p.block) : w'.frozen? p = w.frozen? p := World.frozen?_of_block (w := w) (h.block p.block hp hs)
theorem But.below {B : Nat} {S : Nat → Prop} {w w' : World} (h : But B S w w') (hS : ∀ k, k < B → ¬ S k) : Below B w w' := ⟨h.os, h.tape, h.output, h.size, fun k hk => h.block k hk (hS k hk)⟩

/-- A row of cells stands in a block; none of them is frozen. -/
def RowAt (w : World) (b : Nat) (cs : List Value) (t : TypeId) : Prop := w.heap[b]? = some (.cells cs.toArray t (0, 0))
theorem RowAt.cell {w : World} {b : Nat} {cs : List Value} {t : TypeId} (h : RowAt w b cs t) {i : Nat} {v : Value} (hi : cs[i]? = some v) : w.cell? ⟨b, i, none⟩ = some v := by
  unfold RowAt at h
  simp [World.cell?, h, hi]
theorem RowAt.frozen {w : World} {b : Nat} {cs : List Value} {t : TypeId} (h : RowAt w b cs t) (i : Nat) : w.frozen? ⟨b, i, none⟩ = false := by
  unfold RowAt at h
  simp [World.frozen?, h]
theorem RowAt.lt {w : World} {b : Nat} {cs : List Value} {t : TypeId} (h : RowAt w b cs t) : b < w.heap.size := by
  unfold RowAt at h
  exact (Array.getElem?_eq_some_iff.1 h).1
theorem RowAt.set {w : World} {b : Nat} {cs : List Value} {t : TypeId} (h : RowAt w b cs t) (i : Nat) (v : Value) : RowAt (w.setCell ⟨b, i, none⟩ v) b (cs.set i v) t := by
  unfold RowAt at *
  simp [World.setCell, Array.getElem?_modify, h]
theorem RowAt.later {w w' : World} {b : Nat} {cs : List Value} {t : TypeId} {B : Nat} {S : Nat → Prop} (h : RowAt w b cs t) (hb : But B S w w') (h1 : b < B) (h2 : ¬ S b) : RowAt w' b cs t := by
  unfold RowAt at *
  rw [hb.block b h1 h2]; exact h
theorem RowAt.made (w : World) (cs : List Value) (t : TypeId) : RowAt (w.alloc (.cells cs.toArray t)) w.heap.size cs t := by
  show (w.heap.push _)[w.heap.size]? = _
  simp

/-- The document's list of places: the bytes, the place, the first error and its place. -/
def scanL (v : Value) (at_ e p : Nat) : List Value := [v, .int .i64 (at_ : Int), .int .i64 (e : Int), .int .i64 (p : Int)]
def Scn (w : World) (sb : Nat) (v : Value) (at_ e p : Nat) : Prop := RowAt w sb (scanL v at_ e p) 94

section
variable {w : World} {sb : Nat} {v : Value} {at_ e p : Nat}
theorem Scn.c0 (h : Scn w sb v at_ e p) : w.cell? ⟨sb, 0, none⟩ = some v := RowAt.cell h rfl
theorem Scn.c1 (h : Scn w sb v at_ e p) : w.cell? ⟨sb, 1, none⟩ = some (.int .i64 (at_ : Int)) := RowAt.cell h rfl
theorem Scn.c2 (h : Scn w sb v at_ e p) : w.cell? ⟨sb, 2, none⟩ = some (.int .i64 (e : Int)) := RowAt.cell h rfl
theorem Scn.c3 (h : Scn w sb v at_ e p) : w.cell? ⟨sb, 3, none⟩ = some (.int .i64 (p : Int)) := RowAt.cell h rfl
theorem Scn.setAt (h : Scn w sb v at_ e p) (x : Nat) : Scn (w.setCell ⟨sb, 1, none⟩ (.int .i64 (x : Int))) sb v x e p := RowAt.set h 1 _
theorem Scn.setE (h : Scn w sb v at_ e p) (x : Nat) : Scn (w.setCell ⟨sb, 2, none⟩ (.int .i64 (x : Int))) sb v at_ x p := RowAt.set h 2 _
theorem Scn.setP (h : Scn w sb v at_ e p) (x : Nat) : Scn (w.setCell ⟨sb, 3, none⟩ (.int .i64 (x : Int))) sb v at_ e x := RowAt.set h 3 _
end

/-- The first error stays. -/
def first (e x : Nat) : Nat := if e = 0 then x else e
def firstP (e p y : Nat) : Nat := if e = 0 then y else p

set_option maxHeartbeats 400000 in
set_option maxRecDepth 100000 in
theorem err_any (sb : Nat) (X Y : Int) (x y : Nat) (hX : X = x) (hY : Y = y) (v : Value) (at_ e p : Nat) (w : World) (h : Scn w sb v at_ e p) :
    Calls Tryd.prog 73 #[.pointer (some ⟨sb, 0, none⟩), .int .i64 X, .int .i64 Y] w fun r w' => r = .returned (.tuple #[]) ∧ Scn w' sb v at_ (first e x) (firstP e p y) ∧ But w.heap.size (· = sb) w w' := by
  subst hX hY
  have c2 := h.c2
  have c3 := h.c3
  have f2 := RowAt.frozen h 2
  have f3 := RowAt.frozen h 3
  go_enter Tryd.func73, Tryd.ntmps73
  by_cases he : e = 0
  · subst he
    have h1 := (h.setE x).setP y
    have b1 := ((But.refl w.heap.size (· = sb) w).setCell (p := ⟨sb, 2, none⟩) (.inr rfl) (.int .i64 (x : Int))).setCell (p := ⟨sb, 3, none⟩) (.inr rfl) (.int .i64 (y : Int))
    go_wp2
    go_end0
    exact ⟨rfl, h1, b1⟩
  · have he' : ((e : Int) == 0) = false := by simp; omega
    have E : Hid (¬ e = 0) := he
    clear he
    go_wp2
    go_end0
    refine ⟨rfl, ?_, But.refl _ _ _⟩
    unfold first firstP
    rw [if_neg E.out, if_neg E.out]
    exact h

set_option maxHeartbeats 400000 in
set_option maxRecDepth 100000 in
theorem must_any (sb : Nat) (ok : Bool) (X Y : Int) (x y : Nat) (hX : X = x) (hY : Y = y) (v : Value) (at_ e p : Nat) (w : World) (h : Scn w sb v at_ e p) :
    Calls Tryd.prog 42 #[.pointer (some ⟨sb, 0, none⟩), .bool ok, .int .i64 X, .int .i64 Y] w fun r w' => r = .returned (.tuple #[]) ∧ Scn w' sb v at_ (if ok then e else first e x) (if ok then p else firstP e p y) ∧ But w.heap.size (· = sb) w w' := by
  subst hX hY
  go_enter Tryd.func42, Tryd.ntmps42
  cases ok
  · go_wp2_with (first | (go_at_call 73; refine (err_any sb _ _ x y rfl rfl v at_ e p _ h).mono ?_; rintro r w' ⟨rfl, h1, b1⟩))
    go_end0
    exact ⟨rfl, h1, b1⟩
  · go_wp2
    go_end0
    exact ⟨rfl, h, But.refl _ _ _⟩

/-- The byte at a place. -/
def bAt (l : List UInt8) (i : Nat) : Nat := (l.getD i 0).toNat
theorem bAt_lt (l : List UInt8) (i : Nat) : bAt l i < 256 := UInt8.toNat_lt _
/-- The number of n bytes from a place on, the lowest first. -/
def le (l : List UInt8) (a : Nat) : Nat → Nat
  | 0 => 0
  | n + 1 => bAt l a + 256 * le l (a + 1) n
theorem le_lt (l : List UInt8) : ∀ (n a : Nat), le l a n < 256 ^ n
  | 0, _ => by simp [le]
  | n + 1, a => by
    have h1 := bAt_lt l a
    have h2 := le_lt l n (a + 1)
    simp only [le, Nat.pow_succ]
    omega
/-- The bytes stand in a block from a place on. -/
def Byt (w : World) (bb bo : Nat) (l : List UInt8) : Prop := ∀ i, i < l.length → w.cell? ⟨bb, bo + i, none⟩ = some (.int .u8 (bAt l i : Int))
theorem Byt.later {w w' : World} {bb bo : Nat} {l : List UInt8} {B : Nat} {S : Nat → Prop} (h : Byt w bb bo l) (hb : But B S w w') (h1 : bb < B) (h2 : ¬ S bb) : Byt w' bb bo l := fun i hi => (hb.cell (p := ⟨bb, bo + i, none⟩) h1 h2).trans (h i hi)

theorem num_step {l : List UInt8} {a c n : Nat} (hc : c + 1 ≤ n) : 256 * le l (a + (c + 1)) (n - (c + 1)) + bAt l (a + c) = le l (a + c) (n - c) := by
  obtain ⟨m, hm⟩ : ∃ m, n - c = m + 1 := ⟨n - c - 1, by omega⟩
  have e : n - (c + 1) = m := by omega
  rw [hm, e]
  simp only [le]
  rw [show a + (c + 1) = a + c + 1 by omega]
  omega

theorem ret_i64 {a b : Int} (h : a = b) : Ending.returned (.int .i64 a) = .returned (.int .i64 b) := by rw [h]
set_option maxHeartbeats 1000000 in
set_option maxRecDepth 100000 in
theorem num_any (sb : Nat) (A N : Int) (a n : Nat) (hA : A = a) (hN : N = n) (hn : n ≤ 4) (bb bo cap : Nat) (l : List UInt8) (hl : l.length < 2 ^ 60) (at_ e p : Nat) (w : World) (h : Scn w sb (.slice (some ⟨bb, bo, none⟩) l.length cap) at_ e p) (hb : Byt w bb bo l) (hr : e = 0 → a + n ≤ l.length) :
    Calls Tryd.prog 40 #[.pointer (some ⟨sb, 0, none⟩), .int .i64 A, .int .i64 N] w fun r w' => r = .returned (.int .i64 ((if e = 0 then le l a n else 0 : Nat) : Int)) ∧ w' = w := by
  subst hA hN
  have c0 := h.c0
  have c2 := h.c2
  go_enter Tryd.func40, Tryd.ntmps40
  by_cases he : e = 0
  · subst he
    have hr' := hr rfl
    rw [if_pos rfl]
    clear hr h
    go_wp2
    go_loop [7, 8] (fun vv vi => ∃ c : Nat, c ≤ n ∧ vv = .int .i64 (le l (a + c) (n - c) : Nat) ∧ vi = .int .i64 ((c : Int) - 1)) (fun _ i => (intOf i + 1).toNat)
    case atStart => exact ⟨n, Nat.le_refl _, by simp [le], rfl⟩
    case round =>
      obtain ⟨c, hc, rfl, rfl⟩ := hrel
      cases c with
      | zero =>
        simp only [Nat.add_zero, Nat.sub_zero]
        go_wp2
        go_ret
        exact ⟨rfl, rfl⟩
      | succ c =>
        have hcell := hb (a + c) (by omega)
        have hs := num_step (l := l) (a := a) hc
        have hlt := le_lt l (n - (c + 1)) (a + (c + 1))
        have hp : 256 ^ (n - (c + 1)) ≤ 256 ^ 3 := Nat.pow_le_pow_right (by omega) (by omega)
        have hbl := bAt_lt l (a + c)
        obtain ⟨x, ex⟩ : ∃ x, le l (a + (c + 1)) (n - (c + 1)) = x := ⟨_, rfl⟩
        obtain ⟨y, ey⟩ : ∃ y, bAt l (a + c) = y := ⟨_, rfl⟩
        rw [ex] at hs hlt
        rw [ey] at hs hbl hcell
        have HS : Hid (256 * x + y = le l (a + c) (n - c)) := hs
        have hx : x < 16777216 := by
          have : (256 : Nat) ^ 3 = 16777216 := by decide
          omega
        have e1 : ((c + 1 : Nat) : Int) - 1 = (c : Int) := by omega
        rw [e1, ex]
        clear hs hlt hp ex ey hb e1
        go_wp2
        go_round
        case rel => exact ⟨c, by omega, by rw [← HS.out]; go_num, by go_num⟩
        case measure => simp [intOf] <;> omega
  · have he' : ((e : Int) == 0) = false := by simp; omega
    rw [if_neg he]
    clear he hr h
    go_wp2
    go_loop [7, 8] (fun vv vi => vv = .int .i64 0 ∧ vi = .int .i64 ((n : Int) - 1)) (fun _ i => (intOf i + 1).toNat)
    case atStart => exact ⟨rfl, rfl⟩
    case round =>
      obtain ⟨rfl, rfl⟩ := hrel
      cases n with
      | zero =>
        go_wp2
        go_ret
        exact ⟨rfl, rfl⟩
      | succ n =>
        have e1 : ((n + 1 : Nat) : Int) - 1 = (n : Int) := by omega
        rw [e1]
        go_wp2
        go_ret
        exact ⟨rfl, rfl⟩
end Go.Proofs.YtkpcmfgeanlcnaaDoor

/-
  How the document reads a shard: the signs that must come (fixed).
-/
namespace Go.Proofs.YtkpcmfgeanlcnaaDoor
open Go.RowKit Go.Deep

/-- What is found wrong first, behind what was found before. -/
def eOf (r : Option (Nat × Nat)) (e : Nat) : Nat := match r with | none => e | some x => first e x.1
def pOf (r : Option (Nat × Nat)) (e p : Nat) : Nat := match r with | none => p | some x => firstP e p x.2
theorem eOf_none (e : Nat) : eOf none e = e := rfl
theorem pOf_none (e p : Nat) : pOf none e p = p := rfl
theorem eOf_err {e : Nat} (h : e ≠ 0) (r : Option (Nat × Nat)) : eOf r e = e := by
  cases r with
  | none => rfl
  | some x => simp [eOf, first, h]
theorem pOf_err {e : Nat} (h : e ≠ 0) (p : Nat) (r : Option (Nat × Nat)) : pOf r e p = p := by
  cases r with
  | none => rfl
  | some x => simp [pOf, firstP, h]

/-- These bytes come from a place on, or what is wrong and where. -/
def fixE (l : List UInt8) (a : Nat) : List UInt8 → Option (Nat × Nat)
  | [] => none
  | c :: ws => if l.length ≤ a then some (4, l.length) else if bAt l a = c.toNat then fixE l (a + 1) ws else some (5, a)

theorem fixE_step {l ws : List UInt8} {a i : Nat} {r : Option (Nat × Nat)} (hi : i < ws.length) (H : fixE l (a + i) (ws.drop i) = r) :
    (if l.length ≤ a + i then some (4, l.length) else if bAt l (a + i) = (ws.getD i 0).toNat then fixE l (a + (i + 1)) (ws.drop (i + 1)) else some (5, a + i)) = r := by
  rw [List.drop_eq_getElem_cons hi] at H
  have e : ws.getD i 0 = ws[i] := by rw [List.getD_eq_getElem?_getD, List.getElem?_eq_getElem hi]; rfl
  rw [e]
  exact H
theorem But.drewN {B : Nat} {S : Nat → Prop} {a w : World} (h : But B S a w) (n : Nat) : But B S a (w.drewN n) := h.trans ⟨rfl, rfl, rfl, Nat.le_refl _, fun _ _ _ => rfl⟩
theorem Scn.later {w w' : World} {sb : Nat} {v : Value} {at_ e p B : Nat} {S : Nat → Prop} (h : Scn w sb v at_ e p) (hb : But B S w w') (h1 : sb < B) (h2 : ¬ S sb) : Scn w' sb v at_ e p := RowAt.later h hb h1 h2
theorem Scn.heap {w w' : World} {sb : Nat} {v : Value} {at_ e p : Nat} (h : Scn w sb v at_ e p) (hh : w'.heap = w.heap) : Scn w' sb v at_ e p := by
  unfold Scn RowAt at *
  rw [hh]; exact h

theorem index_str (ws : List UInt8) (i : Nat) (hi : i < ws.length) : ∀ w, (Instr.index 9 (.string ⟨ws.toArray⟩) (.int .i64 (i : Int))).run Tryd.prog w = .ok (.int .u8 ((ws.getD i 0).toNat : Int)) w := by
  intro w
  rw [run_index_string w 9 _ _ _ Tryd.underlying9]
  have h : 0 ≤ (i : Int) ∧ (i : Int) < ((⟨ws.toArray⟩ : ByteArray).size : Int) := by simp [ByteArray.size]; omega
  rw [dif_pos h]
  have e : ws.getD i 0 = ws[i] := by rw [List.getD_eq_getElem?_getD, List.getElem?_eq_getElem hi]; rfl
  rw [e]
  rfl
set_option maxHeartbeats 1000000 in
set_option maxRecDepth 100000 in
theorem fixed_any (sb : Nat) (ws : List UInt8) (hws : ws.length < 100) (bb bo cap : Nat) (hbs : bb ≠ sb) (l : List UInt8) (hl : l.length < 2 ^ 60) (at_ e p : Nat) (ha : at_ < 2 ^ 60) (w : World) (h : Scn w sb (.slice (some ⟨bb, bo, none⟩) l.length cap) at_ e p) (hb : Byt w bb bo l) (hbb : bb < w.heap.size) :
    Calls Tryd.prog 45 #[.pointer (some ⟨sb, 0, none⟩), .string ⟨ws.toArray⟩] w fun r w' => r = .returned (.tuple #[]) ∧ Scn w' sb (.slice (some ⟨bb, bo, none⟩) l.length cap) at_ (eOf (fixE l at_ ws) e) (pOf (fixE l at_ ws) e p) ∧ But w.heap.size (· = sb) w w' := by
  have hsb := RowAt.lt h
  go_enter Tryd.func45, Tryd.ntmps45
  go_wp2
  go_loopw [4] (fun vi wr => ∃ i : Nat, i ≤ ws.length ∧ vi = .int .i64 (i : Int) ∧ But w.heap.size (· = sb) w wr ∧
    ((e = 0 ∧ Scn wr sb (.slice (some ⟨bb, bo, none⟩) l.length cap) at_ 0 p ∧ fixE l (at_ + i) (ws.drop i) = fixE l at_ ws) ∨
     ((∃ e', e' ≠ 0 ∧ e' = eOf (fixE l at_ ws) e ∧ Scn wr sb (.slice (some ⟨bb, bo, none⟩) l.length cap) at_ e' (pOf (fixE l at_ ws) e p)))) ) (fun i _ => ws.length - (intOf i).toNat)
  case atStart =>
    refine ⟨0, by omega, rfl, But.refl _ _ _, ?_⟩
    by_cases he : e = 0
    · exact .inl ⟨he, he ▸ h, rfl⟩
    · exact .inr ⟨e, he, (eOf_err he _).symm, by rw [pOf_err he]; exact h⟩
  case round =>
    obtain ⟨i, hi, rfl, hB, hS⟩ := hrel
    have hlen : (⟨ws.toArray⟩ : ByteArray).size = ws.length := by simp [ByteArray.size]
    rcases hS with ⟨rfl, hS, H⟩ | ⟨e', he', ee, hS⟩
    · have c0 := hS.c0
      have c1 := hS.c1
      have c2 := hS.c2
      by_cases hlt : i < ws.length
      · have HH : Hid _ := fixE_step hlt H
        clear H
        by_cases hge : l.length ≤ at_ + i
        · have hge' : ((at_ : Int) + (i : Int) ≥ (l.length : Int)) := by omega
          have H2 : Hid (fixE l at_ ws = some (4, l.length)) := by have := HH.out; rw [if_pos hge] at this; exact this.symm
          clear HH hge
          go_wp2
          go_quiet (fail)
          go_wp2_with (first | (go_at_call 73; refine (err_any sb _ _ 4 l.length (by rfl) (by rfl) _ at_ 0 p _ (by exact hS.heap rfl)).mono ?_; rintro r w' ⟨rfl, h1, b1⟩))
          go_roundw
          case rel => exact ⟨i + 1, by omega, by go_num, (hB.drewN _).trans (b1.mono hB.size (fun _ x => x)), .inr ⟨4, by decide, by rw [H2.out]; rfl, by rw [H2.out]; exact h1⟩⟩
          case measure => simp [intOf]; omega
        · have hlt2 : at_ + i < l.length := by omega
          have hge' : decide ((l.length : Int) ≤ (at_ : Int) + (i : Int)) = false := by simp; omega
          have hcell := (hb.later hB hbb hbs) (at_ + i) hlt2
          have hix := index_str ws i hlt
          obtain ⟨x, ex⟩ : ∃ x, bAt l (at_ + i) = x := ⟨_, rfl⟩
          obtain ⟨y, ey⟩ : ∃ y, (ws.getD i 0).toNat = y := ⟨_, rfl⟩
          rw [ex] at hcell HH
          rw [ey] at hix HH
          clear ex ey
          by_cases hc : x = y
          · have H2 : Hid (fixE l (at_ + (i + 1)) (ws.drop (i + 1)) = fixE l at_ ws) := by have := HH.out; rw [if_neg hge, if_pos hc] at this; exact this
            clear HH hge
            go_wp2
            go_quiet (fail)
            go_wp2
            go_quiet (fail)
            go_wp2
            go_roundw
            case rel => exact ⟨i + 1, by omega, by go_num, hB.drewN _, .inl ⟨by simp, hS.heap rfl, H2⟩⟩
            case measure => simp [intOf]; omega
          · have H2 : Hid (fixE l at_ ws = some (5, at_ + i)) := by have := HH.out; rw [if_neg hge, if_neg hc] at this; exact this.symm
            have hc' : ((x : Int) == (y : Int)) = false := by simp; omega
            clear HH hge hc
            go_wp2
            go_quiet (fail)
            go_wp2
            go_quiet (fail)
            go_wp2_with (first | (go_at_call 73; refine (err_any sb _ _ 5 (at_ + i) (by rfl) (by simp) _ at_ 0 p _ (by exact hS.heap rfl)).mono ?_; rintro r w' ⟨rfl, h1, b1⟩))
            go_roundw
            case rel => exact ⟨i + 1, by omega, by go_num, (hB.drewN _).trans (b1.mono hB.size (fun _ x => x)), .inr ⟨5, by decide, by rw [H2.out]; rfl, by rw [H2.out]; exact h1⟩⟩
            case measure => simp [intOf]; omega
      · have ei : i = ws.length := by omega
        have H2 : Hid (fixE l at_ ws = none) := by rw [← H, ei, List.drop_length]; rfl
        clear H
        go_wp2
        go_end0
        exact ⟨rfl, by rw [H2.out]; exact hS, hB⟩
    · have c2 := hS.c2
      have he2 : ((e' : Int) == 0) = false := by simp; omega
      have EE : Hid (e' = eOf (fixE l at_ ws) e) := ee
      clear he' ee
      by_cases hlt : i < ws.length
      · go_wp2
        go_end0
        exact ⟨rfl, EE.out ▸ hS, hB⟩
      · go_wp2
        go_end0
        exact ⟨rfl, EE.out ▸ hS, hB⟩
end Go.Proofs.YtkpcmfgeanlcnaaDoor

/-
  How the document seals bytes: their sum behind them.
-/
namespace Go.Proofs.YtkpcmfgeanlcnaaDoor
open Go.RowKit Go.Deep

theorem infoB8 : (Tryd.prog.info? 5).map (fun i => (i.zero, i.size, i.bytes)) = some (some (.int .u8 0), 1, 1) := by kernel_rfl
def u8V (l : List UInt8) : List Value := l.map fun b => Value.int .u8 (b.toNat : Int)
theorem u8V_length (l : List UInt8) : (u8V l).length = l.length := by simp [u8V]
theorem u8V_at {l : List UInt8} {j : Nat} {u : Value} (h : (u8V l)[j]? = some u) : j < l.length ∧ u = .int .u8 (bAt l j : Int) := by
  obtain ⟨hj, e⟩ := List.getElem?_eq_some_iff.1 h
  have hj' : j < l.length := by simpa [u8V] using hj
  refine ⟨hj', ?_⟩
  rw [← e]
  simp only [u8V, List.getElem_map, bAt, List.getD_eq_getElem?_getD, List.getElem?_eq_getElem hj', Option.getD_some]
theorem u8V_one (l : List UInt8) : ∀ u ∈ u8V l, u.oneCell' = true := by
  intro u hu
  simp only [u8V, List.mem_map] at hu
  obtain ⟨b, _, rfl⟩ := hu
  rfl
theorem add_off (b off j : Nat) : (⟨b, off, none⟩ : Addr).add j = ⟨b, off + j, none⟩ := by
  unfold Addr.add
  by_cases h : j = 0 <;> simp [h]
theorem Byt.news {w : World} {bb bo : Nat} {l : List UInt8} (h : Byt w bb bo l) : ∀ j u, (u8V l)[j]? = some u → w.cell? ((⟨bb, bo, none⟩ : Addr).add j) = some u := by
  intro j u hj
  obtain ⟨h1, rfl⟩ := u8V_at hj
  rw [add_off]; exact h j h1

/-- A number's bytes, the lowest first. -/
def leB : Nat → Nat → List UInt8
  | 0, _ => []
  | n + 1, v => UInt8.ofNat (v % 256) :: leB n (v / 256)
theorem leB_length : ∀ n v, (leB n v).length = n
  | 0, _ => rfl
  | n + 1, v => by simp [leB, leB_length n]
theorem leB_snoc : ∀ n v, leB (n + 1) v = leB n v ++ [UInt8.ofNat (v / 256 ^ n % 256)]
  | 0, v => by simp [leB]
  | n + 1, v => by
    show UInt8.ofNat (v % 256) :: leB (n + 1) (v / 256) = (UInt8.ofNat (v % 256) :: leB n (v / 256)) ++ _
    rw [leB_snoc n (v / 256), List.cons_append, Nat.div_div_eq_div_mul, Nat.pow_succ, Nat.mul_comm]
/-- The sum of bytes. -/
def sumOf (l : List UInt8) : Nat := crc (l.map UInt8.toNat)
theorem map_getD (l : List UInt8) (i : Nat) : (l.map UInt8.toNat).getD i 0 = bAt l i := by
  simp only [bAt, List.getD_eq_getElem?_getD, List.getElem?_map]
  cases l[i]? <;> rfl
theorem u8V_snoc (l : List UInt8) (x : Nat) (hx : x < 256) (m : List UInt8) (e : m = l ++ [UInt8.ofNat x]) : u8V l ++ [.int .u8 (x : Int)] = u8V m := by
  subst e
  simp only [u8V, List.map_append, List.map_cons, List.map_nil]
  rw [UInt8.toNat_ofNat', Nat.mod_eq_of_lt (by simpa using hx)]

theorem rsum_any (bb bo cap : Nat) (l : List UInt8) (hl : l.length < 2 ^ 60) (w : World) (hb : Byt w bb bo l) :
    Calls Tryd.prog 9 #[.slice (some ⟨bb, bo, none⟩) l.length cap] w fun e w' => e = .returned (.int .u64 (sumOf l : Nat)) ∧ w' = w :=
  rsum_row bb bo l.length cap (l.map UInt8.toNat) (by simp) (fun i _ => by rw [map_getD]; exact bAt_lt l i) (by omega) w (fun i hi => by rw [map_getD]; exact hb i hi)

theorem one_u8' (x : Int) : ∀ u ∈ [Value.int .u8 x], u.oneCell' = true := by intro u hu; simp at hu; subst hu; rfl
theorem sumOf_lt (l : List UInt8) : sumOf l < 2 ^ 64 := crc_lt _

set_option maxHeartbeats 1600000 in
set_option maxRecDepth 100000 in
theorem sealed_any (bb bo cap : Nat) (l : List UInt8) (hl : l.length < 2 ^ 40) (w : World) (hb : Byt w bb bo l) (hbb : bb < w.heap.size) :
    Calls Tryd.prog 71 #[.slice (some ⟨bb, bo, none⟩) l.length cap] w fun r w' => ∃ v, r = .returned v ∧ w'.ownsRow w.heap.size 5 1 v (l.length + 8) (u8V (l ++ leB 8 (sumOf l))) ∧ Below w.heap.size w w' := by
  obtain ⟨i0, hi0, hz0, hz1, hz2⟩ := info_parts infoB8
  have hown0 := World.ownsRow_nil w w.heap.size 5 1
  have hs := sumOf_lt l
  obtain ⟨s, es⟩ : ∃ s, sumOf l = s := ⟨_, rfl⟩
  rw [es] at hs
  go_enter Tryd.func71, Tryd.ntmps71
  go_wp2_with (at_builtin; refine wpList_append_own _ rfl _ _ 24 rfl w.heap.size 5 i0 (.int .u8 0) 1 1 Tryd.underlying24 hi0 hz0 hz1 hz2 rfl (by decide) _ _ _ rfl hown0 ⟨bb, bo, none⟩ l.length cap (u8V l) rfl (by rw [u8V_length]; omega) hb.news (u8V_one l) (by unfold maxLen; omega) (by omega) (by omega) ?_; intro v' w1 hown' hgrow _)
  have hb1 : Below w.heap.size w w1 := (Below.refl _ _).grown hgrow (Nat.le_refl _) (fun k hk => by cases hk)
  have hy1 : Byt w1 bb bo l := hb.later (.of_below (S := fun _ => False) hb1) hbb id
  clear hgrow
  go_wp2_with (first | (go_at_call 9; refine (rsum_any bb bo cap l (by omega) _ hy1).mono ?_; rintro r w' ⟨rfl, hw'⟩; obtain rfl := hw'.symm))
  clear hy1 hown0
  have hS : Hid (sumOf l = s) := es
  clear es
  simp only [List.nil_append, Nat.zero_add] at hown'
  go_loopw [3, 4, 5] (fun v vv vi wr => ∃ c : Nat, c ≤ 8 ∧ vv = .int .u64 ((s / 256 ^ c : Nat) : Int) ∧ vi = .int .i64 (c : Int) ∧ wr.ownsRow w.heap.size 5 1 v (l.length + c) (u8V (l ++ leB c s)) ∧ Below w.heap.size w wr) (fun _ _ i _ => 8 - (intOf i).toNat)
  case atStart => exact ⟨0, by omega, by simp, rfl, by simpa [leB] using hown', hb1⟩
  case round =>
    obtain ⟨c, hc, rfl, rfl, hown, hbel⟩ := hrel
    clear hown' hb1 hb
    have hsz := hbel.size
    by_cases hlt : c < 8
    · obtain ⟨y, ey⟩ : ∃ y, s / 256 ^ c = y := ⟨_, rfl⟩
      have hy : y < 2 ^ 64 := by rw [← ey]; exact Nat.lt_of_le_of_lt (Nat.div_le_self _ _) hs
      have EQ : Hid (u8V (l ++ leB c s) ++ [.int .u8 ((y % 256 : Nat) : Int)] = u8V (l ++ leB (c + 1) s)) := u8V_snoc _ (y % 256) (by omega) _ (by rw [leB_snoc, ey, List.append_assoc])
      have DV : Hid (y / 256 = s / 256 ^ (c + 1)) := by rw [← ey, Nat.div_div_eq_div_mul, Nat.pow_succ]; exact rfl
      rw [ey]
      clear ey hs
      go_wp2_with (at_builtin; refine wpList_append_own _ rfl _ _ 24 rfl w.heap.size 5 i0 (.int .u8 0) 1 1 Tryd.underlying24 hi0 hz0 hz1 hz2 rfl (by decide) _ _ _ rfl (hown.alloc _) ⟨wr.heap.size, 0, none⟩ 1 1 [.int .u8 ((y % 256 : Nat) : Int)] rfl rfl (cell_one_new _ _ _) (one_u8' _) (by unfold maxLen; omega) (by omega) (by simp; omega) ?_; intro v2 w2 hown2 hgrow _)
      have hb2 := (hbel.alloc (by omega) (.cells #[Value.int .u8 ((y % 256 : Nat) : Int)] 5)).grown hgrow (by simp; omega) (fun k hk => (hown.lt k hk).1)
      clear hgrow
      go_wp2
      go_roundw
      case rel => exact ⟨c + 1, by omega, by rw [← DV.out]; go_num, by go_num, by rw [← EQ.out]; exact hown2, hb2⟩
      case measure => simp [intOf]; omega
    · have e : c = 8 := by omega
      subst e
      go_wp2
      go_ret
      exact ⟨_, rfl, by rw [hS.out]; exact hown, hbel⟩
theorem sealed_of (bb bo k cap : Nat) (l : List UInt8) (hk : l.length = k) (hl : k < 2 ^ 40) (w : World) (hb : Byt w bb bo l) (hbb : bb < w.heap.size) :
    Calls Tryd.prog 71 #[.slice (some ⟨bb, bo, none⟩) k cap] w fun r w' => ∃ g c, r = .returned (.slice (some ⟨g, 0, none⟩) (k + 8) c) ∧ w.heap.size ≤ g ∧ g < w'.heap.size ∧ Byt w' g 0 (l ++ leB 8 (sumOf l)) ∧ Below w.heap.size w w' := by
  subst hk
  refine (sealed_any bb bo cap l hl w hb hbb).mono ?_
  rintro r w' ⟨v, rfl, h1, h2⟩
  rcases h1.2 with ⟨_, h0⟩ | ⟨g, c, cur, rfl, hg, hh, _⟩
  · omega
  refine ⟨g, c, rfl, hg, (Array.getElem?_eq_some_iff.1 hh).1, fun i hi => ?_, h2⟩
  have hi' : i < l.length + 8 := by simpa [leB_length] using hi
  have hc := h1.cellAt i (by omega)
  rw [Nat.zero_add, hc]
  obtain ⟨u, hu⟩ : ∃ u, (u8V (l ++ leB 8 (sumOf l)))[i]? = some u := ⟨_, List.getElem?_eq_getElem (by simpa [u8V] using hi)⟩
  obtain ⟨_, rfl⟩ := u8V_at hu
  exact hu
end Go.Proofs.YtkpcmfgeanlcnaaDoor

/-
  How the document reads a shard: bytes and their sum come (seal).
-/
namespace Go.Proofs.YtkpcmfgeanlcnaaDoor
open Go.RowKit Go.Deep

/-- n of the bytes, from a place on. -/
def part (l : List UInt8) (a n : Nat) : List UInt8 := (l.drop a).take n
theorem part_length {l : List UInt8} {a n : Nat} (h : a + n ≤ l.length) : (part l a n).length = n := by simp [part]; omega
theorem part_at {l : List UInt8} {a n i : Nat} (hi : i < n) : bAt (part l a n) i = bAt l (a + i) := by
  simp [bAt, part, List.getD_eq_getElem?_getD, hi]
theorem Byt.part {w : World} {bb bo : Nat} {l : List UInt8} (h : Byt w bb bo l) {a n : Nat} (hn : a + n ≤ l.length) : Byt w bb (bo + a) (part l a n) := by
  intro i hi
  rw [part_length hn] at hi
  rw [part_at hi, Nat.add_assoc]
  exact h (a + i) (by omega)

/-- n bytes and their sum come from a place on, or what is wrong and where. -/
def sealE (l : List UInt8) (a n : Nat) : Option (Nat × Nat) :=
  if l.length < a + n + 8 then some (4, l.length) else if part l (a + n) 8 = leB 8 (sumOf (part l a n)) then none else some (6, a + n)

theorem mixed : Tryd.prog.follows .mixedOrders = true := by kernel_rfl

theorem take_next {a b : List UInt8} {c : Nat} (ha : c < a.length) (hb : c < b.length) : a.take (c + 1) = b.take (c + 1) ↔ a.take c = b.take c ∧ bAt a c = bAt b c := by
  rw [List.take_succ_eq_append_getElem ha, List.take_succ_eq_append_getElem hb]
  have e1 : bAt a c = a[c].toNat := by simp [bAt, List.getD_eq_getElem?_getD, List.getElem?_eq_getElem ha]
  have e2 : bAt b c = b[c].toNat := by simp [bAt, List.getD_eq_getElem?_getD, List.getElem?_eq_getElem hb]
  rw [e1, e2]
  constructor
  · intro h
    have := List.append_inj h (by simp; omega)
    exact ⟨this.1, by rw [(List.cons.inj this.2).1]⟩
  · rintro ⟨h1, h2⟩
    rw [h1, UInt8.toNat_inj.1 h2]
set_option maxRecDepth 100000 in
theorem index_at (bb bo len cap : Nat) (I : Int) (i : Nat) (hI : I = i) (hi : i < len) : ∀ w, (Instr.indexAt 24 (.slice (some ⟨bb, bo, none⟩) len cap) (.int .i64 I)).run Tryd.prog w = .ok (.pointer (some ⟨bb, bo + i, none⟩)) w := by
  intro w
  subst hI
  have h1 : (i : Int) < (len : Int) := by omega
  simp [go_sem, h1, add_off]
theorem wp_region_tail {P : Program} {id : Nat} {Q : Exit → Act → World → Prop} {a : Act} {w : World} {l : List Oper} (n : Nat) (hm : P.follows .mixedOrders = true) (hB : Region.lexTailB .any l.toArray n = true)
    (h : wpStill P l.toArray w.drew (fun a' => wpList P l.toArray Q (l.drop n) a' w.drew) (l.take n) a) : (Code.region id l.toArray true).wp P Q a w := wp_region_still_tail n hm hB h
set_option maxRecDepth 100000 in
theorem slice_part (bb bo len cap : Nat) (L H : Int) (a h : Nat) (hL : L = a) (hH : H = h) (hah : a ≤ h) (hc : h ≤ cap) (ha : a < cap) : ∀ w, (Instr.slice 24 (.slice (some ⟨bb, bo, none⟩) len cap) (some (.int .i64 L)) (some (.int .i64 H)) none).run Tryd.prog w = .ok (.slice (some ⟨bb, bo + a, none⟩) (h - a) (cap - a)) w := by
  intro w
  subst hL hH
  have hu : Tryd.prog.underlying 24 = some (.slice (Tryd.prog.elem 24)) := Tryd.underlying24
  rw [run_slice_lh w 24 _ _ _ hu .i64 .i64 a h (by omega) (by omega) (by omega)]
  have hsz : (sizeOf (Tryd.prog.elem 24)).run Tryd.prog w = .ok 1 w := by
    simp [sizeOf, go_sem]
    rfl
  rw [hsz]
  simp only [Result.andThen, sliced, Int.toNat_natCast, Nat.mul_one]
  rw [if_neg (by omega)]
  simp [add_off]
set_option maxHeartbeats 4000000 in
set_option maxRecDepth 100000 in
theorem seal_any (sb : Nat) (N : Int) (n : Nat) (hN : N = n) (hn : n < 2 ^ 30) (bb bo cap : Nat) (hbs : bb ≠ sb) (l : List UInt8) (hl : l.length < 2 ^ 60) (hcap : l.length ≤ cap) (at_ e p : Nat) (ha : at_ < 2 ^ 59) (w : World) (h : Scn w sb (.slice (some ⟨bb, bo, none⟩) l.length cap) at_ e p) (hb : Byt w bb bo l) (hbb : bb < w.heap.size) :
    Calls Tryd.prog 72 #[.pointer (some ⟨sb, 0, none⟩), .int .i64 N] w fun r w' => r = .returned (.tuple #[]) ∧ Scn w' sb (.slice (some ⟨bb, bo, none⟩) l.length cap) at_ (eOf (sealE l at_ n) e) (pOf (sealE l at_ n) e p) ∧ But w.heap.size (· = sb) w w' := by
  subst hN
  have hsb := RowAt.lt h
  have c0 := h.c0
  have c1 := h.c1
  have c2 := h.c2
  go_enter Tryd.func72, Tryd.ntmps72
  by_cases he : e = 0
  · subst he
    by_cases hsh : l.length < at_ + n + 8
    · have H2 : Hid (sealE l at_ n = some (4, l.length)) := by show sealE l at_ n = _; unfold sealE; rw [if_pos hsh]
      have hsh' : (l.length : Int) < (at_ : Int) + (n : Int) + 8 := by omega
      clear hsh
      go_wp2
      go_quiet (fail)
      go_wp2_with (first | (go_at_call 73; refine (err_any sb _ _ 4 l.length (by rfl) (by rfl) _ at_ 0 p _ (by exact h.heap rfl)).mono ?_; rintro r w' ⟨rfl, h1, b1⟩))
      refine bodyPost_ret (results_none rfl _ _ _) rfl ?_
      exact ⟨rfl, by rw [H2.out]; exact h1, ((But.refl _ _ _).drewN _).trans b1⟩
    · have hsh' : decide ((l.length : Int) < (at_ : Int) + (n : Int) + 8) = false := by simp; omega
      have hy1 := hb.part (a := at_) (n := n) (by omega)
      have hpl : (part l at_ n).length = n := part_length (by omega)
      go_wp2
      go_quiet (fail)
      go_wp2
      have hsl := slice_part bb bo l.length cap (at_ : Int) ((at_ : Int) + (n : Int)) at_ (at_ + n) rfl (by simp) (by omega) (by omega) (by omega)
      have hwr : IntKind.i64.wrap ((at_ : Int) + (n : Int)) = (at_ : Int) + (n : Int) := IntWalk.i64_in _ (by omega)
      refine wp_region_tail 15 mixed (by kernel_rfl) ?_
      simp only [List.take_succ_cons, List.take_zero, List.drop_succ_cons, List.drop_zero]
      repeat still_step
      refine wpStill_nil ?_
      clear hsl hwr
      go_wp2_with (first | (go_at_call 71; refine (sealed_of bb (bo + at_) n (cap - at_) (part l at_ n) hpl (by omega) _ (by exact hy1) (by exact hbb)).mono ?_; rintro r w1 ⟨g, gc, rfl, hg0, hg1, hgb, hw1⟩))
      have hB1 : But w.heap.size (· = sb) w w1 := ((But.refl _ _ _).drewN _).trans (.of_below hw1)
      have hS1 : Scn w1 sb (.slice (some ⟨bb, bo, none⟩) l.length cap) at_ 0 p := by
        have hh : w1.heap[sb]? = w.heap[sb]? := hw1.block sb hsb
        unfold Scn RowAt at *
        rw [hh]; exact h
      have hy : Byt w1 bb bo l := hb.later hB1 hbb hbs
      have hbb1 : bb < w1.heap.size := Nat.lt_of_lt_of_le hbb hB1.size
      have hsb1 : sb < w1.heap.size := RowAt.lt hS1
      have hgs : g ≠ sb := by
        have : w.heap.size ≤ g := hg0
        omega
      clear hy1 hpl hw1 hg0 c0 c1 c2 h hb
      obtain ⟨q, eq⟩ : ∃ q, leB 8 (sumOf (part l at_ n)) = q := ⟨_, rfl⟩
      have hq8 : q.length = 8 := by rw [← eq, leB_length]
      have hq : ∀ c, c < 8 → w1.cell? ⟨g, n + c, none⟩ = some (.int .u8 (bAt q c : Int)) := by
        intro c hc
        have hpl : (part l at_ n).length = n := part_length (by omega)
        have := hgb (n + c) (by rw [List.length_append, hpl, eq, hq8]; omega)
        rw [Nat.zero_add, eq] at this
        rw [this]
        simp only [bAt, List.getD_eq_getElem?_getD]
        rw [List.getElem?_append_right (by omega), hpl, Nat.add_sub_cancel_left]
      have HE : Hid (sealE l at_ n = if part l (at_ + n) 8 = q then none else some (6, at_ + n)) := by
        show sealE l at_ n = _
        unfold sealE
        rw [if_neg (by omega), eq]
      clear eq hgb hsh'
      go_loopw [5] (fun vi wr => ∃ c : Nat, c ≤ 8 ∧ vi = .int .i64 ((n + c : Nat) : Int) ∧ But w1.heap.size (· = sb) w1 wr ∧
        Scn wr sb (.slice (some ⟨bb, bo, none⟩) l.length cap) at_ (if (part l (at_ + n) 8).take c = q.take c then 0 else 6) (if (part l (at_ + n) 8).take c = q.take c then p else at_ + n)) (fun i _ => n + 8 - (intOf i).toNat)
      case atStart => exact ⟨0, by omega, by simp, But.refl _ _ _, by simpa using hS1⟩
      case round =>
        obtain ⟨c, hc, rfl, hB, hS⟩ := hrel
        by_cases hlt : c < 8
        · have c0 := hS.c0
          have c1 := hS.c1
          have hcell := (hy.later hB hbb1 hbs) (at_ + (n + c)) (by omega)
          have hcq := (hB.cell (p := ⟨g, n + c, none⟩) hg1 hgs).trans (hq c hlt)
          obtain ⟨x, ex⟩ : ∃ x, bAt q c = x := ⟨_, rfl⟩
          obtain ⟨y, ey⟩ : ∃ y, bAt l (at_ + (n + c)) = y := ⟨_, rfl⟩
          have hpl : (part l (at_ + n) 8).length = 8 := part_length (by omega)
          have hnext := take_next (a := part l (at_ + n) 8) (b := q) (c := c) (by omega) (by omega)
          rw [part_at hlt, Nat.add_assoc, ex, ey] at hnext
          rw [ex] at hcq
          rw [ey] at hcell
          have HN : Hid ((part l (at_ + n) 8).take (c + 1) = q.take (c + 1) ↔ (part l (at_ + n) 8).take c = q.take c ∧ y = x) := hnext
          have hwr : IntKind.i64.wrap ((at_ : Int) + (n : Int)) = (at_ : Int) + (n : Int) := IntWalk.i64_in _ (by omega)
          have hwr2 : IntKind.i64.wrap ((at_ : Int) + ((n : Int) + (c : Int))) = (at_ : Int) + ((n : Int) + (c : Int)) := IntWalk.i64_in _ (by omega)
          have hi1 := index_at g 0 (n + 8) gc ((n : Int) + (c : Int)) (n + c) (by simp) (by omega)
          have hi2 := index_at bb bo l.length cap ((at_ : Int) + ((n : Int) + (c : Int))) (at_ + (n + c)) (by simp) (by omega)
          rw [Nat.zero_add] at hi1
          generalize hee : (if (part l (at_ + n) 8).take c = q.take c then 0 else 6) = ee at hS
          generalize hpp : (if (part l (at_ + n) 8).take c = q.take c then p else at_ + n) = pp at hS
          have HEE : Hid (_ = ee) := hee
          have HPP : Hid (_ = pp) := hpp
          clear hee hpp hnext ex ey hpl hq hy hS1 HE
          go_wp2
          refine wp_region_tail 24 mixed (by kernel_rfl) ?_
          simp only [List.take_succ_cons, List.take_zero, List.drop_succ_cons, List.drop_zero]
          repeat still_step
          refine wpStill_nil ?_
          clear hi1 hi2 hwr hwr2 c0 c1 hcell hcq
          go_wp2_with (first | (go_at_call 42; refine (must_any sb ((x : Int) == (y : Int)) _ _ 6 (at_ + n) (by rfl) (by simp) _ at_ ee pp _ (by exact hS.heap rfl)).mono ?_; rintro r w' ⟨rfl, h1, b1⟩))
          go_roundw
          case rel =>
            refine ⟨c + 1, by omega, by go_num, (hB.drewN _).trans (b1.mono hB.size (fun _ x => x)), ?_⟩
            have e1 : (if ((x : Int) == (y : Int)) = true then ee else first ee 6) = if (part l (at_ + n) 8).take (c + 1) = q.take (c + 1) then 0 else 6 := by
              rw [← HEE.out]
              by_cases hA : (part l (at_ + n) 8).take c = q.take c
              · by_cases hxy : y = x
                · rw [if_pos (HN.out.2 ⟨hA, hxy⟩), hxy, if_pos hA]; simp
                · rw [if_neg (fun hh => hxy (HN.out.1 hh).2), if_pos hA, if_neg (by simp; omega)]; rfl
              · rw [if_neg (fun hh => hA (HN.out.1 hh).1), if_neg hA]; simp [first]
            have e2 : (if ((x : Int) == (y : Int)) = true then pp else firstP ee pp (at_ + n)) = if (part l (at_ + n) 8).take (c + 1) = q.take (c + 1) then p else at_ + n := by
              rw [← HEE.out, ← HPP.out]
              by_cases hA : (part l (at_ + n) 8).take c = q.take c
              · by_cases hxy : y = x
                · rw [if_pos (HN.out.2 ⟨hA, hxy⟩), hxy, if_pos hA]; simp
                · rw [if_neg (fun hh => hxy (HN.out.1 hh).2), if_pos hA, if_neg (by simp; omega)]; simp [firstP, hA]
              · rw [if_neg (fun hh => hA (HN.out.1 hh).1), if_neg hA]; simp [firstP, hA]
            rw [← e1, ← e2]
            exact h1
          case measure => simp [intOf]; omega
        · have e8 : c = 8 := by omega
          subst e8
          go_wp2
          refine bodyPost_end (results_none rfl _ _ _) rfl ?_
          have hpl : (part l (at_ + n) 8).length = 8 := part_length (by omega)
          refine ⟨rfl, ?_, hB1.trans (hB.mono hB1.size (fun _ x => x))⟩
          have t1 : (part l (at_ + n) 8).take 8 = part l (at_ + n) 8 := List.take_of_length_le (by omega)
          have t2 : q.take 8 = q := List.take_of_length_le (by omega)
          rw [t1, t2] at hS
          rw [HE.out]
          by_cases hA : part l (at_ + n) 8 = q
          · rw [if_pos hA] at hS ⊢
            rw [if_pos hA] at hS
            exact hS
          · rw [if_neg hA] at hS ⊢
            rw [if_neg hA] at hS
            exact hS
  · have he' : ((e : Int) == 0) = false := by simp; omega
    have E : Hid (¬ e = 0) := he
    clear he
    go_wp2
    refine bodyPost_ret (results_none rfl _ _ _) rfl ?_
    exact ⟨rfl, by rw [eOf_err E.out, pOf_err E.out]; exact h, But.refl _ _ _⟩
end Go.Proofs.YtkpcmfgeanlcnaaDoor
