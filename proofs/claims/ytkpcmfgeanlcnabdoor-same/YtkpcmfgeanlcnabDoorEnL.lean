/-
  The document's columns of blobs: run alone. First the names, the sizes, the bytes.
-/
import Derived.Test.YtkpcmfgeanlcnabDoorEnG
import Derived.Test.YtkpcmfgeanlcnabDoorWrM
namespace Go.Proofs.YtkpcmfgeanlcnabDoor
open Go.RowKit Go.Deep Go.Hp

theorem Tryd.infoCol : (Tryd.prog.info? 29).map (fun i => (i.zero, i.size, i.bytes)) = some (some (.slice none 0 0), 1, 24) := by kernel_rfl
theorem DataAt.grow {w w' : World} {e : Ent} {d : List UInt8} (h : DataAt w e d) (_hs : w.heap.size ≤ w'.heap.size) (up : ∀ {b o : Nat} {u : Value}, w.cell? ⟨b, o, none⟩ = some u → w'.cell? ⟨b, o, none⟩ = some u) : DataAt w' e d := by
  refine ⟨h.1, ?_⟩
  rcases h.2 with h2 | ⟨ad, h2, h4⟩
  · exact .inl h2
  · refine .inr ⟨ad, h2, fun j u hj => ?_⟩
    have h5 := h4 j u hj
    have hspot := World.cell?_spot h5
    generalize ad.add j = p at h5 hspot ⊢
    obtain ⟨b, o, sp⟩ := p
    dsimp only at hspot
    subst hspot
    exact up h5
theorem BC.up {w w' : World} {bo : Option Addr} {n : Nat} {f : Nat → Ent} (h : BC w bo n f) (hs : w.heap.size ≤ w'.heap.size) (up : ∀ {b o : Nat} {u : Value}, w.cell? ⟨b, o, none⟩ = some u → w'.cell? ⟨b, o, none⟩ = some u) : BC w' bo n f := ⟨fun hn => by
  obtain ⟨b, o, h1, h2, h3⟩ := h.here hn
  exact ⟨b, o, h1, Nat.lt_of_lt_of_le h2 hs, fun i hi => ⟨up (h3 i hi).1, up (h3 i hi).2⟩⟩⟩
/-- A byte of a list, nought behind its end. -/
def xAt (l : List UInt8) (L j m : Nat) : Nat := bAt l (j * L + m)
theorem cell_of_block {w : World} {b m : Nat} {cur : Array Value} {t : TypeId} {u : Value} (h : w.heap[b]? = some (.cells cur t)) (hc : cur[m]? = some u) : w.cell? ⟨b, m, none⟩ = some u := by
  simp [World.cell?, h, hc]
theorem lies_owns {w : World} {B t n : Nat} {v : Value} {xs : List Value} (h : w.ownsRow B t 1 v n xs) : Lies w v xs := by
  have hl := h.1
  rcases h.2 with ⟨rfl, rfl⟩ | ⟨g, cap, cur, rfl, h2, h3, h4, _⟩
  · have : xs = [] := List.length_eq_zero_iff.1 (by omega)
    subst this
    exact ⟨none, 0, rfl, Nat.le_refl _, fun j u hj => by simp at hj⟩
  · have e : n = xs.length := by omega
    refine ⟨some ⟨g, 0, none⟩, cap, by rw [e], by omega, fun j u hj => ⟨g, 0, rfl, ?_⟩⟩
    have hjl : j < n * 1 := by
      have := (List.getElem?_eq_some_iff.1 hj).1
      omega
    rw [Nat.zero_add, h.cellAt j hjl]
    exact hj
theorem tot_sizes (d : Ent → List UInt8) (f : Nat → Ent) : ∀ n, (∀ i, i < n → (d (f i)).length = (f i).l) → tot (sizesOf n f) = (joinD (fun j => d (f j)) n).length
  | 0, _ => rfl
  | n + 1, h => by
    have ih := tot_sizes d f n fun i hi => h i (by omega)
    have e : sizesOf (n + 1) f = sizesOf n f ++ [((f n).l : Int)] := by simp [sizesOf, List.range_succ]
    rw [e]
    unfold tot at *
    simp only [List.map_append, List.sum_append, List.map_cons, List.map_nil, List.sum_cons, List.sum_nil, joinD, List.length_append, h n (by omega), ih]
    simp
theorem sizes_ok (n : Nat) (f : Nat → Ent) : SizesOk (sizesOf n f) := fun i hi => by
  rw [sizesOf_length] at hi
  simp [sizesOf, List.getD_eq_getElem?_getD, hi]
theorem sizes_le (n : Nat) (f : Nat → Ent) (h : ∀ i, i < n → (f i).l ≤ 9223372036854775807) (i : Nat) : (sizesOf n f).getD i 0 ≤ 9223372036854775807 := by
  by_cases hi : i < n
  · simp [sizesOf, List.getD_eq_getElem?_getD, hi]
    have := h i hi
    omega
  · simp [sizesOf, List.getD_eq_getElem?_getD, hi]
theorem bAt_end {l : List UInt8} {i : Nat} (h : l.length ≤ i) : bAt l i = 0 := by
  unfold bAt
  rw [List.getD_eq_getElem?_getD, List.getElem?_eq_none h]
  rfl
def colsV (n : Nat) (a : Nat → Option Addr) (L : Nat) (cp : Nat → Nat) : List Value := (List.range n).map fun j => .slice (a j) L (cp j)
theorem colsV_length (n : Nat) (a : Nat → Option Addr) (L : Nat) (cp : Nat → Nat) : (colsV n a L cp).length = n := by simp [colsV]
theorem colsV_get (n : Nat) (a : Nat → Option Addr) (L : Nat) (cp : Nat → Nat) {j : Nat} (h : j < n) : (colsV n a L cp)[j]? = some (.slice (a j) L (cp j)) := by simp [colsV, h]
theorem colsV_snoc (n : Nat) (a : Nat → Option Addr) (L : Nat) (cp : Nat → Nat) (x : Option Addr) (c : Nat) : colsV (n + 1) (fun t => if t = n then x else a t) L (fun t => if t = n then c else cp t) = colsV n a L cp ++ [.slice x L c] := by
  unfold colsV
  rw [List.range_succ, List.map_append]
  congr 1
  · apply List.map_congr_left
    intro t ht
    have := List.mem_range.1 ht
    dsimp only
    rw [if_neg (by omega), if_neg (by omega)]
  · simp
theorem one_colD (x : Option Addr) (l c : Nat) : ∀ u ∈ [Value.slice x l c], u.oneCell' = true := by
  intro u hu
  simp at hu
  subst hu
  rfl
/-- The form of a column that was made. -/
theorem col_form {w : World} {B n : Nat} {v : Value} {f : Nat → Nat} (h : w.ownsRow B 5 1 v n (numsV n f)) : ∃ x c g, v = .slice x n c ∧ (0 < n → ∃ cur : Array Value, x = some ⟨g, 0, none⟩ ∧ w.heap[g]? = some (.cells cur 5) ∧ ∀ m, m < n → cur[m]? = some (.int .u8 ((f m : Nat) : Int))) := by
  rcases h.2 with ⟨e, e2⟩ | ⟨g, cap, cur, rfl, h2, h3, h4, _⟩
  · exact ⟨none, 0, 0, by rw [e, e2], fun h0 => absurd h0 (by omega)⟩
  · refine ⟨_, _, g, rfl, fun _ => ⟨cur, rfl, h3, fun m hm => ?_⟩⟩
    have := h.cellAt m (by omega)
    rw [numsV_get n f hm] at this
    simpa [World.cell?, h3] using this
def lists (h : Nat) (wr : World) (i : Nat) (f : Nat → Ent) (d : Ent → List UInt8) (va vb vc : Value) : Prop :=
  wr.ownsRow h 9 1 va i (nameV (namesOf i f)) ∧ wr.ownsRow h 3 1 vb i (intV (sizesOf i f)) ∧ wr.ownsRow h 5 1 vc (joinD (fun j => d (f j)) i).length (u8V (joinD (fun j => d (f j)) i))

def ColsPost (k n : Nat) (f : Nat → Ent) (d : Ent → List UInt8) (w : World) (r : Ending) (w' : World) : Prop :=
  Below w.heap.size w w' ∧ ∃ (f' : Nat → Ent) (vN vS : Value) (bP cP : Nat) (a : Nat → Option Addr) (bl cp : Nat → Nat), Rearr n f f' ∧ Srt n f' ∧ r = .returned (.tuple #[.slice (some ⟨bP, 0, none⟩) k cP, vN, vS]) ∧ w'.ownsRow w.heap.size 9 1 vN n (nameV (namesOf n f')) ∧ w'.ownsRow w.heap.size 3 1 vS n (intV (sizesOf n f')) ∧
    Cls w' k (lenC k (joinD (fun j => d (f' j)) n).length) bP a bl cp (xAt (joinD (fun j => d (f' j)) n) (lenC k (joinD (fun j => d (f' j)) n).length))

end Go.Proofs.YtkpcmfgeanlcnabDoor

/-
  Both sides see the same order of blobs, and the same names, or both refuse them: in plain words.
-/
namespace Go.Proofs.YtkpcmfgeanlcnabDoor
open Go.RowKit Go.Deep Go.Hp

theorem names_get (n : Nat) (f : Nat → Ent) {i : Nat} (hi : i < n) : (namesOf n f).getD i [] = (f i).k := by
  simp [namesOf, List.getD_eq_getElem?_getD, hi]
theorem notAfter_no {a b : List UInt8} : notAfter a b = false ↔ Hp.lt b a = true := by
  have e : ∀ x y : List UInt8, Op.bytesLess x y = Hp.lt x y := fun _ _ => rfl
  unfold notAfter
  rw [e]
  rcases Hp.lt_tri a b with ⟨g, h, n⟩ | ⟨g, h, n⟩ | ⟨rfl, h, _⟩
  · rw [g, h]; simp
  · rw [g, h]; simp [n]
  · rw [h]; simp
theorem names_strict {n : Nat} {g : Nat → Ent} (h : NamesOk (namesOf n g)) : ∀ i, i + 1 < n → Hp.lt (g i).k (g (i + 1)).k = true := fun i hi => by
  have hl : (namesOf n g).length = n := by simp [namesOf]
  have := (h (i + 1) (by omega)).2 (by omega)
  rw [names_get n g hi, Nat.add_sub_cancel, names_get n g (by omega)] at this
  exact notAfter_no.1 this
theorem names_iff {n : Nat} {f g : Nat → Ent} (hR : Rearr n f g) (hS : Srt n g) : NamesOk (namesOf n g) ↔ NamesFit n f := by
  have hl : (namesOf n g).length = n := by simp [namesOf]
  constructor
  · intro h
    refine ⟨fun i hi => ?_, apart_of hR (names_strict h)⟩
    obtain ⟨j, hj, e⟩ := hR.symm.from hi
    have := (h j (by omega)).1
    rw [names_get n g hj, ← e] at this
    exact this
  · rintro ⟨h1, h2⟩ i hi
    rw [hl] at hi
    rw [names_get n g hi]
    refine ⟨?_, fun h0 => ?_⟩
    · obtain ⟨j, hj, e⟩ := hR.from hi
      rw [e]
      exact h1 j hj
    · rw [names_get n g (by omega), notAfter_no]
      have hle := hS (i - 1) (by omega)
      rw [show i - 1 + 1 = i by omega] at hle
      refine Hp.lt_of_le_ne hle fun e => ?_
      obtain ⟨x, y, hx, hy, hne, e1, e2⟩ := hR.two (i := i - 1) (j := i) (by omega) hi (by omega)
      rw [e1, e2] at e
      rcases Nat.lt_or_ge x y with q | q
      · exact h2 x y q hy e
      · exact h2 y x (by omega) hx e.symm
theorem names_listed {n : Nat} {g : Nat → Ent} (h : NamesOk (namesOf n g)) : ListOk (namesOf n g) (sizesOf n g) := ⟨by simp [namesOf, sizesOf], h, sizes_ok n g⟩
theorem names_same {n : Nat} {g g' : Nat → Ent} (h : ∀ i, i < n → g' i = g i) : namesOf n g' = namesOf n g := List.map_congr_left fun i hi => by rw [h i (List.mem_range.1 hi)]
theorem sizes_same {n : Nat} {g g' : Nat → Ent} (h : ∀ i, i < n → g' i = g i) : sizesOf n g' = sizesOf n g := List.map_congr_left fun i hi => by rw [h i (List.mem_range.1 hi)]
theorem join_same {d : Ent → List UInt8} {g g' : Nat → Ent} : ∀ n, (∀ i, i < n → g' i = g i) → joinD (fun j => d (g' j)) n = joinD (fun j => d (g j)) n
  | 0, _ => rfl
  | n + 1, h => by
    show _ ++ _ = _ ++ _
    rw [join_same n fun i hi => h i (by omega)]
    congr 1
    show d (g' n) = d (g n)
    rw [h n (by omega)]

/-- A column's bytes. -/
def colB (k L : Nat) (l : List UInt8) (t : Nat) : List UInt8 := (List.range L).map fun m => UInt8.ofNat (dotN (rowV k t) (fun j => xAt l L j m) k)
theorem colB_length (k L : Nat) (l : List UInt8) (t : Nat) : (colB k L l t).length = L := by simp [colB]
theorem colB_V (k L : Nat) (l : List UInt8) (t : Nat) : u8V (colB k L l t) = numsV L fun m => dotN (rowV k t) (fun j => xAt l L j m) k := by
  unfold colB u8V numsV
  rw [List.map_map]
  refine List.map_congr_left fun m _ => ?_
  show Value.int .u8 (((UInt8.ofNat _).toNat : Nat) : Int) = _
  rw [UInt8.toNat_ofNat', Nat.mod_eq_of_lt (dotN_lt (fun _ => rowV_lt) k)]
/-- A shard's bytes. -/
def shardB (k n c : Nat) (ns : List (List UInt8)) (zs : List Int) (i : Nat) (col : List UInt8) : List UInt8 :=
  sealB ([67, 65, 73, 82, 78, 49] ++ ([UInt8.ofNat k, UInt8.ofNat n, UInt8.ofNat i, 0] ++ (leB 4 c ++ (leB 4 (manTo ns zs ns.length).length ++ (leB 4 col.length ++ [0, 0]))))) ++ sealB (manTo ns zs ns.length) ++ framesTo c col (nFr c col.length) ++ [68, 79, 78, 69]
end Go.Proofs.YtkpcmfgeanlcnabDoor

/-
  The document's shards of blobs: run alone.
-/
namespace Go.Proofs.YtkpcmfgeanlcnabDoor
open Go.RowKit Go.Deep Go.Hp

theorem Tryd.infoSh : (Tryd.prog.info? 60).map (fun i => (i.zero, i.size, i.bytes)) = some (some (.agg #[.int .i64 0, .int .i64 0, .int .i64 0, .int .i64 0, .slice none 0 0, .slice none 0 0, .slice none 0 0]), 7, 104) := by kernel_rfl
def shC (k n c : Nat) (vN vS : Value) (L : Nat) (a : Nat → Option Addr) (cp : Nat → Nat) (i : Nat) : List Value := [.int .i64 ((k : Nat) : Int), .int .i64 ((n : Nat) : Int), .int .i64 ((i : Nat) : Int), .int .i64 ((c : Nat) : Int), vN, vS, .slice (a i) L (cp i)]
def shL (k n c : Nat) (vN vS : Value) (L : Nat) (a : Nat → Option Addr) (cp : Nat → Nat) (j : Nat) : List Value := (List.range j).flatMap (shC k n c vN vS L a cp)
section
variable {k n c : Nat} {vN vS : Value} {L : Nat} {a : Nat → Option Addr} {cp : Nat → Nat}
theorem shL_succ (j : Nat) : shL k n c vN vS L a cp (j + 1) = shL k n c vN vS L a cp j ++ shC k n c vN vS L a cp j := by
  unfold shL
  rw [List.range_succ, List.flatMap_append]
  simp
theorem shL_length (j : Nat) : (shL k n c vN vS L a cp j).length = j * 7 := by
  induction j with
  | zero => rfl
  | succ j ih => rw [shL_succ, List.length_append, ih]; simp [shC]; omega
theorem shL_get (j i p : Nat) (hi : i < j) (hp : p < 7) : (shL k n c vN vS L a cp j)[i * 7 + p]? = (shC k n c vN vS L a cp i)[p]? := by
  induction j with
  | zero => omega
  | succ j ih =>
    rw [shL_succ]
    by_cases e : i = j
    · subst e
      rw [List.getElem?_append_right (by rw [shL_length]; omega), shL_length, show i * 7 + p - i * 7 = p by omega]
    · rw [List.getElem?_append_left (by rw [shL_length]; omega), ih (by omega)]
theorem shL_congr {a' : Nat → Option Addr} {cp' : Nat → Nat} (j : Nat) (h : ∀ i, i < j → a i = a' i ∧ cp i = cp' i) : shL k n c vN vS L a cp j = shL k n c vN vS L a' cp' j := by
  induction j with
  | zero => rfl
  | succ j ih => rw [shL_succ, shL_succ, ih fun i hi => h i (by omega)]; simp only [shC, (h j (by omega)).1, (h j (by omega)).2]
end
theorem cell_seven_new (w : World) (x0 x1 x2 x3 x4 x5 x6 : Value) (t : TypeId) : ∀ j u, [x0, x1, x2, x3, x4, x5, x6][j]? = some u → (w.alloc (.cells #[x0, x1, x2, x3, x4, x5, x6] t)).cell? ((⟨w.heap.size, 0, none⟩ : Addr).add j) = some u := by
  intro j u hj
  match j, hj with
  | 0, hj => simp at hj; subst hj; simp [Addr.add]
  | 1, hj => simp at hj; subst hj; simp [Addr.add]
  | 2, hj => simp at hj; subst hj; simp [Addr.add]
  | 3, hj => simp at hj; subst hj; simp [Addr.add]
  | 4, hj => simp at hj; subst hj; simp [Addr.add]
  | 5, hj => simp at hj; subst hj; simp [Addr.add]
  | 6, hj => simp at hj; subst hj; simp [Addr.add]
theorem owns_form {w : World} {B t s n : Nat} {v : Value} {xs : List Value} (h : w.ownsRow B t s v n xs) : ∃ x c, v = .slice x n c := by
  rcases h.2 with ⟨e, e2⟩ | ⟨g, c, cur, rfl, _⟩
  · exact ⟨none, 0, by rw [e, e2]⟩
  · exact ⟨_, _, rfl⟩
theorem owns_below {w w' : World} {B B' t s n : Nat} {v : Value} {xs : List Value} (h : w.ownsRow B t s v n xs) (hb : Below B' w w') (hB : w.heap.size ≤ B') : w'.ownsRow B t s v n xs :=
  owns_keep' h fun g hg => hb.block g (Nat.lt_of_lt_of_le (h.lt g hg).2 hB)
/-- What is said of a value that is one cell. -/
def OneC (v : Value) : Prop := v.oneCell' = true

def ShPost (k n c m : Nat) (f : Nat → Ent) (d : Ent → List UInt8) (w : World) (r : Ending) (w' : World) : Prop :=
  Below w.heap.size w w' ∧ ∃ (f' : Nat → Ent) (bN bZ : Option Addr) (cN cZ bS cS : Nat) (a : Nat → Option Addr) (cp : Nat → Nat), Rearr m f f' ∧ Srt m f' ∧ r = .returned (.slice (some ⟨bS, 0, none⟩) n cS) ∧ w'.ownsRow w.heap.size 9 1 (.slice bN m cN) m (nameV (namesOf m f')) ∧ w'.ownsRow w.heap.size 3 1 (.slice bZ m cZ) m (intV (sizesOf m f')) ∧
    w'.ownsRow w.heap.size 60 7 (.slice (some ⟨bS, 0, none⟩) n cS) n (shL k n c (.slice bN m cN) (.slice bZ m cZ) (lenC k (joinD (fun j => d (f' j)) m).length) a cp n) ∧
    ∀ i, i < n → w'.ownsRow w.heap.size 5 1 (.slice (a i) (lenC k (joinD (fun j => d (f' j)) m).length) (cp i)) (lenC k (joinD (fun j => d (f' j)) m).length) (numsV (lenC k (joinD (fun j => d (f' j)) m).length) fun q => dotN (rowV k i) (fun j => xAt (joinD (fun j => d (f' j)) m) (lenC k (joinD (fun j => d (f' j)) m).length) j q) k)

end Go.Proofs.YtkpcmfgeanlcnabDoor
