/-
  How the document reads a shard: its list of places (Scan) in memory, and the small calls on it: err, must, num.
-/
import Derived.Test.YtkpcmfgeanlcnabDoorRSum
import Derived.Deep.OwnRows
import Derived.Deep.QuietTactic
import Derived.BigQuiet
import Derived.StillTailTactics
namespace Go.Proofs.YtkpcmfgeanlcnabDoor
open Go.RowKit Go.Deep

/-- Below B all blocks but those of S are as they were; no block has gone. -/
structure But (B : Nat) (S : Nat → Prop) (w w' : World) : Prop where
  os : w'.os = w.os
  tape : w'.tape = w.tape
  output : w'.output = w.output
  size : w.heap.size ≤ w'.heap.size
  block : ∀ k, k < B → ¬ S k → w'.heap[k]? = w.heap[k]?
theorem But.refl (B : Nat) (S : Nat → Prop) (w : World) : But B S w w := ⟨rfl, rfl, rfl, Nat.le_refl _, fun _ _ _ => rfl⟩
theorem But.trans {B : Nat} {S : Nat → Prop} {a b c : World} (h : But B S a b) (k : But B S b c) : But B S a c :=
  ⟨k.os.trans h.os, k.tape.trans h.tape, k.output.trans h.output, Nat.le_trans h.size k.size, fun i hi hs => (k.block i hi hs).trans (h.block i hi hs)⟩
theorem But.mono {B B' : Nat} {S S' : Nat → Prop} {a b : World} (h : But B S a b) (hB : B' ≤ B) (hS : ∀ k, S k → S' k) : But B' S' a b :=
  ⟨h.os, h.tape, h.output, h.size, fun k hk hs => h.block k (Nat.lt_of_lt_of_le hk hB) (fun x => hs (hS k x))⟩
theorem But.of_below {B : Nat} {S : Nat → Prop} {a b : World} (h : Below B a b) : But B S a b := ⟨h.os, h.tape, h.output, h.size, fun k hk _ => h.block k hk⟩
theorem But.setCell {B : Nat} {S : Nat → Prop} {a w : World} (h : But B S a w) {p : Addr} (hp : B ≤ p.block ∨ S p.block) (u : Value) : But B S a (w.setCell p u) :=
  h.trans ⟨rfl, rfl, rfl, by simp [World.setCell], fun k hk hs => Below.heap_setCell _ _ _ _ (by
    rintro rfl
    rcases hp with x | x
    · omega
    · exact hs x)⟩
theorem But.alloc {B : Nat} {S : Nat → Prop} {a w : World} (h : But B S a w) (hB : B ≤ w.heap.size) (o : Obj) : But B S a (w.alloc o) :=
  h.trans (.of_below ((Below.refl _ _).alloc hB o))
theorem But.drew {B : Nat} {S : Nat → Prop} {a w : World} (h : But B S a w) : But B S a w.drew := ⟨h.os, h.tape, h.output, h.size, h.block⟩
theorem But.grown {B : Nat} {S : Nat → Prop} {a w w' : World} {row : Option Nat} (h : But B S a w) (hg : w.grownBy w' row) (hB : B ≤ w.heap.size) (hr : ∀ k, row = some k → B ≤ k) : But B S a w' :=
  h.trans (.of_below ((Below.refl _ _).grown hg hB hr))
theorem But.cell {B : Nat} {S : Nat → Prop} {w w' : World} (h : But B S w w') {p : Addr} (hp : p.block < B) (hs : ¬ S p.block) : w'.cell? p = w.cell? p := World.cell?_of_block (w := w) (h.block p.block hp hs)
theorem But.frozen {B : Nat} {S : Nat → Prop} {w w' : World} (h : But B S w w') {p : Addr} (hp : p.block < B) (hs : ¬ S p.block) : w'.frozen? p = w.frozen? p := World.frozen?_of_block (w := w) (h.block p.block hp hs)
theorem But.below {B : Nat} {S : Nat → Prop} {w w' : World} (h : But B S w w') (hS : ∀ k, k < B → ¬ S k) : Below B w w' := ⟨h.os, h.tape, h.output, h.size, fun k hk => h.block k hk (hS k hk)⟩

/-- A row of cells stands in a block; none of them is frozen. -/
def RowAt (w : World) (b : Nat) (cs : List Value) (t : TypeId) : Prop := w.heap[b]? = some (.cells cs.toArray t (0, 0))
theorem RowAt.cell {w : World} {b : Nat} {cs : List Value} {t : TypeId} (h : RowAt w b cs t) {i : Nat} {v : Value} (hi : cs[i]? = some v) : w.cell? ⟨b, i, none⟩ = some v := by
  unfold RowAt at h
  simp [World.cell?, h, hi]
theorem RowAt.frozen {w : World} {b : Nat} {cs : List Value} {t : TypeId} (h : RowAt w b cs t) (i : Nat) : w.frozen? ⟨b, i, none⟩ = false := by
  unfold RowAt at h
  simp [World.frozen?, h]
theorem RowAt.lt {w : World} {b : Nat} {cs : List Value} {t : TypeId} (h : RowAt w b cs t) : b < w.heap.size := by
  unfold RowAt at h
  exact (Array.getElem?_eq_some_iff.1 h).1
theorem RowAt.set {w : World} {b : Nat} {cs : List Value} {t : TypeId} (h : RowAt w b cs t) (i : Nat) (v : Value) : RowAt (w.setCell ⟨b, i, none⟩ v) b (cs.set i v) t := by
  unfold RowAt at *
  simp [World.setCell, Array.getElem?_modify, h]
theorem RowAt.later {w w' : World} {b : Nat} {cs : List Value} {t : TypeId} {B : Nat} {S : Nat → Prop} (h : RowAt w b cs t) (hb : But B S w w') (h1 : b < B) (h2 : ¬ S b) : RowAt w' b cs t := by
  unfold RowAt at *
  rw [hb.block b h1 h2]; exact h
theorem RowAt.made (w : World) (cs : List Value) (t : TypeId) : RowAt (w.alloc (.cells cs.toArray t)) w.heap.size cs t := by
  show (w.heap.push _)[w.heap.size]? = _
  simp

/-- The document's list of places: the bytes, the place, the first error and its place. -/
def scanL (v : Value) (at_ e p : Nat) : List Value := [v, .int .i64 (at_ : Int), .int .i64 (e : Int), .int .i64 (p : Int)]
section
variable {w : World} {sb : Nat} {v : Value} {at_ e p : Nat}
end

/-- The first error stays. -/
def first (e x : Nat) : Nat := if e = 0 then x else e
def firstP (e p y : Nat) : Nat := if e = 0 then y else p

/-- The byte at a place. -/
def bAt (l : List UInt8) (i : Nat) : Nat := (l.getD i 0).toNat
theorem bAt_lt (l : List UInt8) (i : Nat) : bAt l i < 256 := UInt8.toNat_lt _
/-- The number of n bytes from a place on, the lowest first. -/
def le (l : List UInt8) (a : Nat) : Nat → Nat
  | 0 => 0
  | n + 1 => bAt l a + 256 * le l (a + 1) n
theorem le_lt (l : List UInt8) : ∀ (n a : Nat), le l a n < 256 ^ n
  | 0, _ => by simp [le]
  | n + 1, a => by
    have h1 := bAt_lt l a
    have h2 := le_lt l n (a + 1)
    simp only [le, Nat.pow_succ]
    omega
/-- The bytes stand in a block from a place on. -/
def Byt (w : World) (bb bo : Nat) (l : List UInt8) : Prop := ∀ i, i < l.length → w.cell? ⟨bb, bo + i, none⟩ = some (.int .u8 (bAt l i : Int))
theorem Byt.later {w w' : World} {bb bo : Nat} {l : List UInt8} {B : Nat} {S : Nat → Prop} (h : Byt w bb bo l) (hb : But B S w w') (h1 : bb < B) (h2 : ¬ S bb) : Byt w' bb bo l := fun i hi => (hb.cell (p := ⟨bb, bo + i, none⟩) h1 h2).trans (h i hi)

theorem num_step {l : List UInt8} {a c n : Nat} (hc : c + 1 ≤ n) : 256 * le l (a + (c + 1)) (n - (c + 1)) + bAt l (a + c) = le l (a + c) (n - c) := by
  obtain ⟨m, hm⟩ : ∃ m, n - c = m + 1 := ⟨n - c - 1, by omega⟩
  have e : n - (c + 1) = m := by omega
  rw [hm, e]
  simp only [le]
  rw [show a + (c + 1) = a + c + 1 by omega]
  omega

theorem ret_i64 {a b : Int} (h : a = b) : Ending.returned (.int .i64 a) = .returned (.int .i64 b) := by rw [h]
end Go.Proofs.YtkpcmfgeanlcnabDoor

/-
  How the document reads a shard: the signs that must come (fixed).
-/
namespace Go.Proofs.YtkpcmfgeanlcnabDoor
open Go.RowKit Go.Deep

/-- What is found wrong first, behind what was found before. -/
def eOf (r : Option (Nat × Nat)) (e : Nat) : Nat := match r with | none => e | some x => first e x.1
def pOf (r : Option (Nat × Nat)) (e p : Nat) : Nat := match r with | none => p | some x => firstP e p x.2
theorem eOf_none (e : Nat) : eOf none e = e := rfl
theorem pOf_none (e p : Nat) : pOf none e p = p := rfl
theorem eOf_err {e : Nat} (h : e ≠ 0) (r : Option (Nat × Nat)) : eOf r e = e := by
  cases r with
  | none => rfl
  | some x => simp [eOf, first, h]
theorem pOf_err {e : Nat} (h : e ≠ 0) (p : Nat) (r : Option (Nat × Nat)) : pOf r e p = p := by
  cases r with
  | none => rfl
  | some x => simp [pOf, firstP, h]

/-- These bytes come from a place on, or what is wrong and where. -/
def fixE (l : List UInt8) (a : Nat) : List UInt8 → Option (Nat × Nat)
  | [] => none
  | c :: ws => if l.length ≤ a then some (4, l.length) else if bAt l a = c.toNat then fixE l (a + 1) ws else some (5, a)

theorem fixE_step {l ws : List UInt8} {a i : Nat} {r : Option (Nat × Nat)} (hi : i < ws.length) (H : fixE l (a + i) (ws.drop i) = r) :
    (if l.length ≤ a + i then some (4, l.length) else if bAt l (a + i) = (ws.getD i 0).toNat then fixE l (a + (i + 1)) (ws.drop (i + 1)) else some (5, a + i)) = r := by
  rw [List.drop_eq_getElem_cons hi] at H
  have e : ws.getD i 0 = ws[i] := by rw [List.getD_eq_getElem?_getD, List.getElem?_eq_getElem hi]; rfl
  rw [e]
  exact H
theorem But.drewN {B : Nat} {S : Nat → Prop} {a w : World} (h : But B S a w) (n : Nat) : But B S a (w.drewN n) := h.trans ⟨rfl, rfl, rfl, Nat.le_refl _, fun _ _ _ => rfl⟩
theorem index_str (ws : List UInt8) (i : Nat) (hi : i < ws.length) : ∀ w, (Instr.index 9 (.string ⟨ws.toArray⟩) (.int .i64 (i : Int))).run Tryd.prog w = .ok (.int .u8 ((ws.getD i 0).toNat : Int)) w := by
  intro w
  rw [run_index_string w 9 _ _ _ Tryd.underlying9]
  have h : 0 ≤ (i : Int) ∧ (i : Int) < ((⟨ws.toArray⟩ : ByteArray).size : Int) := by simp [ByteArray.size]; omega
  rw [dif_pos h]
  have e : ws.getD i 0 = ws[i] := by rw [List.getD_eq_getElem?_getD, List.getElem?_eq_getElem hi]; rfl
  rw [e]
  rfl
end Go.Proofs.YtkpcmfgeanlcnabDoor

/-
  How the document seals bytes: their sum behind them.
-/
namespace Go.Proofs.YtkpcmfgeanlcnabDoor
open Go.RowKit Go.Deep

theorem infoB8 : (Tryd.prog.info? 5).map (fun i => (i.zero, i.size, i.bytes)) = some (some (.int .u8 0), 1, 1) := by kernel_rfl
def u8V (l : List UInt8) : List Value := l.map fun b => Value.int .u8 (b.toNat : Int)
theorem u8V_length (l : List UInt8) : (u8V l).length = l.length := by simp [u8V]
theorem u8V_at {l : List UInt8} {j : Nat} {u : Value} (h : (u8V l)[j]? = some u) : j < l.length ∧ u = .int .u8 (bAt l j : Int) := by
  obtain ⟨hj, e⟩ := List.getElem?_eq_some_iff.1 h
  have hj' : j < l.length := by simpa [u8V] using hj
  refine ⟨hj', ?_⟩
  rw [← e]
  simp only [u8V, List.getElem_map, bAt, List.getD_eq_getElem?_getD, List.getElem?_eq_getElem hj', Option.getD_some]
theorem u8V_one (l : List UInt8) : ∀ u ∈ u8V l, u.oneCell' = true := by
  intro u hu
  simp only [u8V, List.mem_map] at hu
  obtain ⟨b, _, rfl⟩ := hu
  rfl
theorem add_off (b off j : Nat) : (⟨b, off, none⟩ : Addr).add j = ⟨b, off + j, none⟩ := by
  unfold Addr.add
  by_cases h : j = 0 <;> simp [h]
theorem Byt.news {w : World} {bb bo : Nat} {l : List UInt8} (h : Byt w bb bo l) : ∀ j u, (u8V l)[j]? = some u → w.cell? ((⟨bb, bo, none⟩ : Addr).add j) = some u := by
  intro j u hj
  obtain ⟨h1, rfl⟩ := u8V_at hj
  rw [add_off]; exact h j h1

/-- A number's bytes, the lowest first. -/
def leB : Nat → Nat → List UInt8
  | 0, _ => []
  | n + 1, v => UInt8.ofNat (v % 256) :: leB n (v / 256)
theorem leB_length : ∀ n v, (leB n v).length = n
  | 0, _ => rfl
  | n + 1, v => by simp [leB, leB_length n]
theorem leB_snoc : ∀ n v, leB (n + 1) v = leB n v ++ [UInt8.ofNat (v / 256 ^ n % 256)]
  | 0, v => by simp [leB]
  | n + 1, v => by
    show UInt8.ofNat (v % 256) :: leB (n + 1) (v / 256) = (UInt8.ofNat (v % 256) :: leB n (v / 256)) ++ _
    rw [leB_snoc n (v / 256), List.cons_append, Nat.div_div_eq_div_mul, Nat.pow_succ, Nat.mul_comm]
/-- The sum of bytes. -/
def sumOf (l : List UInt8) : Nat := crc (l.map UInt8.toNat)
theorem map_getD (l : List UInt8) (i : Nat) : (l.map UInt8.toNat).getD i 0 = bAt l i := by
  simp only [bAt, List.getD_eq_getElem?_getD, List.getElem?_map]
  cases l[i]? <;> rfl
theorem u8V_snoc (l : List UInt8) (x : Nat) (hx : x < 256) (m : List UInt8) (e : m = l ++ [UInt8.ofNat x]) : u8V l ++ [.int .u8 (x : Int)] = u8V m := by
  subst e
  simp only [u8V, List.map_append, List.map_cons, List.map_nil]
  rw [UInt8.toNat_ofNat', Nat.mod_eq_of_lt (by simpa using hx)]

theorem one_u8' (x : Int) : ∀ u ∈ [Value.int .u8 x], u.oneCell' = true := by intro u hu; simp at hu; subst hu; rfl
theorem sumOf_lt (l : List UInt8) : sumOf l < 2 ^ 64 := crc_lt _

end Go.Proofs.YtkpcmfgeanlcnabDoor

/-
  How the document reads a shard: bytes and their sum come (seal).
-/
namespace Go.Proofs.YtkpcmfgeanlcnabDoor
open Go.RowKit Go.Deep

/-- n of the bytes, from a place on. -/
def part (l : List UInt8) (a n : Nat) : List UInt8 := (l.drop a).take n
theorem part_length {l : List UInt8} {a n : Nat} (h : a + n ≤ l.length) : (part l a n).length = n := by simp [part]; omega
theorem part_at {l : List UInt8} {a n i : Nat} (hi : i < n) : bAt (part l a n) i = bAt l (a + i) := by
  simp [bAt, part, List.getD_eq_getElem?_getD, hi]
theorem Byt.part {w : World} {bb bo : Nat} {l : List UInt8} (h : Byt w bb bo l) {a n : Nat} (hn : a + n ≤ l.length) : Byt w bb (bo + a) (part l a n) := by
  intro i hi
  rw [part_length hn] at hi
  rw [part_at hi, Nat.add_assoc]
  exact h (a + i) (by omega)

/-- n bytes and their sum come from a place on, or what is wrong and where. -/
def sealE (l : List UInt8) (a n : Nat) : Option (Nat × Nat) :=
  if l.length < a + n + 8 then some (4, l.length) else if part l (a + n) 8 = leB 8 (sumOf (part l a n)) then none else some (6, a + n)

theorem mixed : Tryd.prog.follows .mixedOrders = true := by kernel_rfl

theorem take_next {a b : List UInt8} {c : Nat} (ha : c < a.length) (hb : c < b.length) : a.take (c + 1) = b.take (c + 1) ↔ a.take c = b.take c ∧ bAt a c = bAt b c := by
  rw [List.take_succ_eq_append_getElem ha, List.take_succ_eq_append_getElem hb]
  have e1 : bAt a c = a[c].toNat := by simp [bAt, List.getD_eq_getElem?_getD, List.getElem?_eq_getElem ha]
  have e2 : bAt b c = b[c].toNat := by simp [bAt, List.getD_eq_getElem?_getD, List.getElem?_eq_getElem hb]
  rw [e1, e2]
  constructor
  · intro h
    have := List.append_inj h (by simp; omega)
    exact ⟨this.1, by rw [(List.cons.inj this.2).1]⟩
  · rintro ⟨h1, h2⟩
    rw [h1, UInt8.toNat_inj.1 h2]
set_option maxRecDepth 100000 in
theorem index_at (bb bo len cap : Nat) (I : Int) (i : Nat) (hI : I = i) (hi : i < len) : ∀ w, (Instr.indexAt 29 (.slice (some ⟨bb, bo, none⟩) len cap) (.int .i64 I)).run Tryd.prog w = .ok (.pointer (some ⟨bb, bo + i, none⟩)) w := by
  intro w
  subst hI
  have h1 : (i : Int) < (len : Int) := by omega
  simp [go_sem, h1, add_off]
theorem wp_region_tail {P : Program} {id : Nat} {Q : Exit → Act → World → Prop} {a : Act} {w : World} {l : List Oper} (n : Nat) (hm : P.follows .mixedOrders = true) (hB : Region.lexTailB .any l.toArray n = true)
    (h : wpStill P l.toArray w.drew (fun a' => wpList P l.toArray Q (l.drop n) a' w.drew) (l.take n) a) : (Code.region id l.toArray true).wp P Q a w := wp_region_still_tail n hm hB h
set_option maxRecDepth 100000 in
theorem slice_part (bb bo len cap : Nat) (L H : Int) (a h : Nat) (hL : L = a) (hH : H = h) (hah : a ≤ h) (hc : h ≤ cap) (ha : a < cap) : ∀ w, (Instr.slice 29 (.slice (some ⟨bb, bo, none⟩) len cap) (some (.int .i64 L)) (some (.int .i64 H)) none).run Tryd.prog w = .ok (.slice (some ⟨bb, bo + a, none⟩) (h - a) (cap - a)) w := by
  intro w
  subst hL hH
  have hu : Tryd.prog.underlying 29 = some (.slice (Tryd.prog.elem 29)) := Tryd.underlying29
  rw [run_slice_lh w 29 _ _ _ hu .i64 .i64 a h (by omega) (by omega) (by omega)]
  have hsz : (sizeOf (Tryd.prog.elem 29)).run Tryd.prog w = .ok 1 w := by
    simp [sizeOf, go_sem]
    rfl
  rw [hsz]
  simp only [Result.andThen, sliced, Int.toNat_natCast, Nat.mul_one]
  rw [if_neg (by omega)]
  simp [add_off]
end Go.Proofs.YtkpcmfgeanlcnabDoor
