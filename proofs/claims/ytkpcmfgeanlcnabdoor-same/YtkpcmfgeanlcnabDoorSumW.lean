/-
  A shard that is to be written: how its lists lie in memory; what may be wrong with it, and its bytes, in plain words.
-/
import Derived.Test.YtkpcmfgeanlcnabDoorScanD
import Derived.Lib.AppendStr
import Derived.Maps.AppendAt
import Derived.Test.YtkpcmfgeanlcnabDoorRSum
namespace Go.Proofs.YtkpcmfgeanlcnabDoor
open Go.RowKit Go.Deep

/-- A slice of values of one cell each, wherever it lies. -/
def Lies (w : World) (v : Value) (xs : List Value) : Prop :=
  ∃ ba cap, v = .slice ba xs.length cap ∧ xs.length ≤ cap ∧ ∀ j u, xs[j]? = some u → ∃ b off, ba = some ⟨b, off, none⟩ ∧ w.cell? ⟨b, off + j, none⟩ = some u
theorem cell_lt {w : World} {p : Addr} {u : Value} (h : w.cell? p = some u) : p.block < w.heap.size := by
  rcases Nat.lt_or_ge p.block w.heap.size with h1 | h1
  · exact h1
  · unfold World.cell? at h
    have : w.heap[p.block]? = none := by simp [h1]
    rw [this] at h
    split at h <;> simp_all
theorem Lies.below {w w' : World} {v : Value} {xs : List Value} (h : Lies w v xs) (hb : Below w.heap.size w w') : Lies w' v xs := by
  obtain ⟨ba, cap, rfl, hle, hc⟩ := h
  refine ⟨ba, cap, rfl, hle, fun j u hj => ?_⟩
  obtain ⟨b, off, e, hh⟩ := hc j u hj
  exact ⟨b, off, e, (hb.cell (p := ⟨b, off + j, none⟩) (cell_lt hh)).trans hh⟩

def nameV (l : List (List UInt8)) : List Value := l.map fun s => Value.string ⟨s.toArray⟩
def intV (l : List Int) : List Value := l.map fun z => Value.int .i64 z
theorem nameV_length (l : List (List UInt8)) : (nameV l).length = l.length := by simp [nameV]
theorem intV_length (l : List Int) : (intV l).length = l.length := by simp [intV]
theorem nameV_at {l : List (List UInt8)} {j : Nat} (h : j < l.length) : (nameV l)[j]? = some (.string ⟨(l.getD j []).toArray⟩) := by
  simp [nameV, List.getElem?_map, List.getD_eq_getElem?_getD, List.getElem?_eq_getElem h]
theorem intV_at {l : List Int} {j : Nat} (h : j < l.length) : (intV l)[j]? = some (.int .i64 (l.getD j 0)) := by
  simp [intV, List.getElem?_map, List.getD_eq_getElem?_getD, List.getElem?_eq_getElem h]
theorem u8V_get {l : List UInt8} {j : Nat} (h : j < l.length) : (u8V l)[j]? = some (.int .u8 (bAt l j : Int)) := by
  obtain ⟨u, hu⟩ : ∃ u, (u8V l)[j]? = some u := ⟨_, List.getElem?_eq_getElem (by simpa [u8V] using h)⟩
  obtain ⟨_, rfl⟩ := u8V_at hu
  exact hu

/-- Is a name not behind another? -/
def notAfter (a b : List UInt8) : Bool := Op.bytesLess a b || a == b
/-- A shard. -/
structure Sh where
  K : Int
  N : Int
  I : Int
  C : Int
  ns : List (List UInt8)
  zs : List Int
  col : List UInt8
def NamesOk (ns : List (List UInt8)) : Prop := ∀ i, i < ns.length → (1 ≤ (ns.getD i []).length ∧ (ns.getD i []).length ≤ 255) ∧ (0 < i → notAfter (ns.getD i []) (ns.getD (i - 1) []) = false)
def SizesOk (zs : List Int) : Prop := ∀ i, i < zs.length → 0 ≤ zs.getD i 0
/-- The manifest's length. -/
def manN (ns : List (List UInt8)) : Nat := 4 + (ns.map fun n => 6 + n.length).sum
def tot (zs : List Int) : Nat := (zs.map Int.toNat).sum
def lenC (k t : Nat) : Nat := (t + k - 1) / k
structure Sh.Fine (s : Sh) : Prop where
  k1 : 1 ≤ s.K
  kn : s.K ≤ s.N
  n1 : s.N ≤ 128
  i0 : 0 ≤ s.I
  iN : s.I < s.N
  c1 : 1 ≤ s.C
  c2 : s.C ≤ 65536
structure Sh.Listed (s : Sh) : Prop where
  len : s.ns.length = s.zs.length
  names : NamesOk s.ns
  sizes : SizesOk s.zs
structure Sh.Few (s : Sh) : Prop where
  blobs : s.ns.length ≤ 1000
  bytes : tot s.zs ≤ 65536
  man : manN s.ns ≤ 300000
def Sh.Long (s : Sh) : Prop := s.col.length = lenC s.K.toNat (tot s.zs)
def Sh.Bad (s : Sh) : Prop := s.I < s.K ∧ ∃ m, m < s.col.length ∧ tot s.zs ≤ s.I.toNat * lenC s.K.toNat (tot s.zs) + m ∧ bAt s.col m ≠ 0
open Classical in
/-- The first error, or 0. -/
noncomputable def Sh.err (s : Sh) : Nat :=
  if ¬ s.Fine then 1 else if ¬ s.Listed then 2 else if ¬ s.Few then 3 else if ¬ s.Long then 15 else if s.Bad then 8 else 0

/-- The manifest as far as i blobs. -/
def manTo (ns : List (List UInt8)) (zs : List Int) (i : Nat) : List UInt8 := leB 4 ns.length ++ (List.range i).flatMap fun j => leB 2 (ns.getD j []).length ++ (ns.getD j [] ++ leB 4 (zs.getD j 0).toNat)
theorem manTo_succ (ns : List (List UInt8)) (zs : List Int) (i : Nat) : manTo ns zs (i + 1) = manTo ns zs i ++ leB 2 (ns.getD i []).length ++ ns.getD i [] ++ leB 4 (zs.getD i 0).toNat := by
  simp [manTo, List.range_succ, List.append_assoc]
def sealB (l : List UInt8) : List UInt8 := l ++ leB 8 (sumOf l)
def manB (s : Sh) : List UInt8 := manTo s.ns s.zs s.ns.length
def b8 (x : Int) : UInt8 := UInt8.ofNat (x.toNat % 256)
def headB (s : Sh) (m : Nat) : List UInt8 := [67, 65, 73, 82, 78, 49] ++ ([b8 s.K, b8 s.N, b8 s.I, 0] ++ (leB 4 s.C.toNat ++ (leB 4 m ++ (leB 4 s.col.length ++ [0, 0]))))
/-- Frame k of a column. -/
def frameB (c : Nat) (col : List UInt8) (k : Nat) : List UInt8 := sealB (part col (k * c) (min c (col.length - k * c)))
def framesTo (c : Nat) (col : List UInt8) (i : Nat) : List UInt8 := (List.range i).flatMap (frameB c col)
theorem framesTo_succ (c : Nat) (col : List UInt8) (i : Nat) : framesTo c col (i + 1) = framesTo c col i ++ frameB c col i := by simp [framesTo, List.range_succ]
/-- How many frames. -/
def nFr (c n : Nat) : Nat := (n + c - 1) / c
def wrB (s : Sh) : List UInt8 := sealB (headB s (manB s).length) ++ sealB (manB s) ++ framesTo s.C.toNat s.col (nFr s.C.toNat s.col.length) ++ [68, 79, 78, 69]

theorem nFr_lt {c n k : Nat} (hc : 1 ≤ c) : k < nFr c n ↔ k * c < n := by
  unfold nFr
  rw [Nat.lt_div_iff_mul_lt (by omega)]
  omega
theorem sealB_length (l : List UInt8) : (sealB l).length = l.length + 8 := by simp [sealB, leB_length]
theorem manTo_length (ns : List (List UInt8)) (zs : List Int) : ∀ i, (manTo ns zs i).length = 4 + ((List.range i).map fun j => 6 + (ns.getD j []).length).sum
  | 0 => by simp [manTo, leB_length]
  | i + 1 => by
    rw [manTo_succ]
    simp only [List.length_append, leB_length, manTo_length ns zs i, List.range_succ, List.map_append, List.map_cons, List.map_nil, List.sum_append, List.sum_cons, List.sum_nil]
    omega
theorem range_map_getD {α β : Type} (l : List α) (d : α) (f : α → β) : (List.range l.length).map (fun j => f (l.getD j d)) = l.map f := by
  apply List.ext_getElem
  · simp
  · intro i h1 h2
    have : i < l.length := by simpa using h1
    simp [List.getD_eq_getElem?_getD, List.getElem?_eq_getElem this]
theorem manB_length (s : Sh) : (manB s).length = manN s.ns := by
  unfold manB manN
  rw [manTo_length, range_map_getD s.ns [] (fun n => 6 + n.length)]
/-- The manifest's length as far as i names. -/
def manNto (ns : List (List UInt8)) (i : Nat) : Nat := 4 + ((List.range i).map fun j => 6 + (ns.getD j []).length).sum
theorem manNto_succ (ns : List (List UInt8)) (i : Nat) : manNto ns (i + 1) = manNto ns i + 6 + (ns.getD i []).length := by
  simp only [manNto, List.range_succ, List.map_append, List.map_cons, List.map_nil, List.sum_append, List.sum_cons, List.sum_nil]
  omega
theorem manNto_all (ns : List (List UInt8)) : manNto ns ns.length = manN ns := by
  unfold manNto manN
  rw [range_map_getD ns [] (fun n => 6 + n.length)]
/-- The sizes together as far as i of them. -/
def totTo (zs : List Int) (i : Nat) : Nat := ((List.range i).map fun j => (zs.getD j 0).toNat).sum
theorem totTo_succ (zs : List Int) (i : Nat) : totTo zs (i + 1) = totTo zs i + (zs.getD i 0).toNat := by
  simp [totTo, List.range_succ]
theorem totTo_all (zs : List Int) : totTo zs zs.length = tot zs := by
  unfold totTo tot
  rw [range_map_getD zs 0 Int.toNat]
theorem totTo_mono (zs : List Int) (i : Nat) : ∀ d, totTo zs i ≤ totTo zs (i + d)
  | 0 => Nat.le_refl _
  | d + 1 => by
    have := totTo_mono zs i d
    rw [← Nat.add_assoc, totTo_succ]
    omega
theorem totTo_le (zs : List Int) {i : Nat} (h : i ≤ zs.length) : totTo zs i ≤ tot zs := by
  rw [← totTo_all]
  have := totTo_mono zs i (zs.length - i)
  rwa [show i + (zs.length - i) = zs.length by omega] at this

/-- What a call leaves that turns one row of its own alone. -/
theorem But.of_grown {w w' : World} {row : Option Nat} (h : w.grownBy w' row) : But w.heap.size (fun k => row = some k) w w' :=
  ⟨h.os, h.tape, h.output, h.size, fun k hk hs => h.block k hk (fun e => hs e.symm)⟩
theorem owns_byt {w : World} {base n : Nat} {v : Value} {l : List UInt8} (h : w.ownsRow base 5 1 v n (u8V l)) (hn : 0 < n) : ∃ g c, v = .slice (some ⟨g, 0, none⟩) l.length c ∧ n = l.length ∧ base ≤ g ∧ g < w.heap.size ∧ n ≤ c ∧ Byt w g 0 l := by
  have hl : l.length = n := by have := h.1; rw [u8V_length] at this; omega
  rcases h.2 with ⟨_, h0⟩ | ⟨g, c, cur, rfl, hg, hh, hc, _⟩
  · omega
  refine ⟨g, c, by rw [hl], hl.symm, hg, (Array.getElem?_eq_some_iff.1 hh).1, hc, fun i hi => ?_⟩
  have := h.cellAt i (by omega)
  rw [Nat.zero_add, this]
  exact u8V_get hi
theorem strCells_u8V (l : List UInt8) : Lib.strCells ⟨l.toArray⟩ = u8V l := by
  simp [Lib.strCells, u8V]
end Go.Proofs.YtkpcmfgeanlcnabDoor

/-
  What the program's calls that sum bytes answer.
-/
namespace Go.Proofs.YtkpcmfgeanlcnabDoor
open Go.RowKit

set_option maxHeartbeats 400000 in
set_option maxRecDepth 100000 in
theorem sum_row (b off len cap : Nat) (xs : List Nat) (hl : xs.length = len) (hx : ∀ i, i < len → xs.getD i 0 < 256) (hm : len ≤ 9223372036854775807) (w : World) (hc : ∀ i, i < len → w.cell? ⟨b, off + i, none⟩ = some (.int .u8 ((xs.getD i 0 : Nat) : Int)))
    (ht : ∀ i, i < 16 → w.cell? ⟨0, i, none⟩ = some (.int .u64 ((crcTab.getD i 0 : Nat) : Int))) :
    Calls Tryd.prog 41 #[.slice (some ⟨b, off, none⟩) len cap] w fun e w' => e = .returned (.int .u64 (crc xs : Nat)) ∧ w' = w := by
  go_enter Tryd.func41, Tryd.ntmps41
  go_wp2
  go_loop [3, 5, 8] (fun vs vb vi => ∃ k s : Nat, k ≤ len ∧ s < 2 ^ 64 ∧ vs = .int .u64 (s : Int) ∧ vi = .int .i64 (k : Int) ∧ Hid (crcL s (xs.drop k) = crcL crcAll xs)) (fun _ _ i => len - (intOf i).toNat)
  case atStart => exact ⟨0, crcAll, by omega, crcAll_lt, rfl, rfl, rfl⟩
  case round =>
    obtain ⟨k, s, hk, hs, rfl, rfl, H⟩ := hrel
    by_cases hlt : k < len
    · have hcell := hc k hlt
      have hb := hx k hlt
      obtain ⟨x, ex⟩ : ∃ x, xs.getD k 0 = x := ⟨_, rfl⟩
      rw [ex] at hcell hb
      have ey := u64_xor_lt hs (Nat.lt_trans hb (by decide))
      obtain ⟨y, hy⟩ : ∃ y, s ^^^ x = y := ⟨_, rfl⟩
      have ly : y < 2 ^ 64 := hy ▸ Nat.xor_lt_two_pow hs (Nat.lt_trans hb (by decide))
      rw [hy] at ey
      obtain ⟨m1, t1, z1, hm1, ht1, lz1, hz1, e1, e2⟩ := four ly
      obtain ⟨m2, t2, z2, hm2, ht2, lz2, hz2, e3, e4⟩ := four lz1
      have hc1 := ht m1 hm1
      have hc2 := ht m2 hm2
      rw [← ht1] at hc1
      rw [← ht2] at hc2
      have G : Hid (crcL z2 (xs.drop (k + 1)) = crcL crcAll xs) := by
        have hz : z2 = crcB s x := by rw [hz2, hz1, ← crcN_add, ← hy]; rfl
        rw [hz]
        exact crcL_step (by omega) ex H.out
      clear ex hc hx ht ht1 ht2 hz1 hz2 hy H
      go_wp2
      go_round
      case rel => exact ⟨k + 1, z2, by omega, lz2, rfl, by go_num, G⟩
      case measure => simp [intOf]; omega
    · have e : k = xs.length := by omega
      have G : Hid (s = crcL crcAll xs) := by
        have := H.out
        rw [e, List.drop_length] at this
        exact this
      clear H hc hx ht
      go_wp2
      go_ret
      exact ⟨ret_u64 (by rw [not_u64 hs, crc, ← G.out]), rfl⟩

end Go.Proofs.YtkpcmfgeanlcnabDoor
