/-
  Each column at its own place, the others where one is missing: run alone.
-/
import Derived.Test.YtkpcmfgeanlcnaaSvH
import Derived.Test.YtkpcmfgeanlcnaaSvC
namespace Go.Proofs.Ytkpcmfgeanlcnaa
open Go.RowKit Go.Deep

theorem Try.infoC : (Try.prog.info? 43).map (fun i => (i.zero, i.size, i.bytes)) = some (some (.agg #[.int .i64 0, .slice none 0 0]), 2, 32) := by kernel_rfl
theorem Try.infoBo : (Try.prog.info? 4).map (fun i => (i.zero, i.size, i.bytes)) = some (some (.bool false), 1, 1) := by kernel_rfl

theorem cell_lt {w : World} {b o : Nat} {v : Value} (h : w.cell? ⟨b, o, none⟩ = some v) : b < w.heap.size := block_lt_of_cell h
/-- Columns where they lie. -/
structure CL where
  L : Nat
  ix : Nat → Nat
  db : Nat → Option Addr
  dc : Nat → Nat
def CL.d (q : CL) (i : Nat) : Value := .slice (q.db i) q.L (q.dc i)
structure CAt (w : World) (b k : Nat) (q : CL) : Prop where
  lt : b < w.heap.size
  c0 : ∀ i, i < k → w.cell? ⟨b, i * 2, none⟩ = some (.int .i64 ((q.ix i : Nat) : Int))
  c1 : ∀ i, i < k → w.cell? ⟨b, i * 2 + 1, none⟩ = some (q.d i)
theorem CAt.below {w w' : World} {b k : Nat} {q : CL} (h : CAt w b k q) (hb : Below w.heap.size w w') : CAt w' b k q :=
  ⟨Nat.lt_of_lt_of_le h.lt hb.size, fun i hi => by rw [hb.cell (p := ⟨b, i * 2, none⟩) h.lt]; exact h.c0 i hi, fun i hi => by rw [hb.cell (p := ⟨b, i * 2 + 1, none⟩) h.lt]; exact h.c1 i hi⟩

/-- Columns where they lie, from any place of their list on. -/
structure CO (w : World) (b o n : Nat) (q : CL) : Prop where
  lt : b < w.heap.size
  c0 : ∀ i, i < n → w.cell? ⟨b, o + i * 2, none⟩ = some (.int .i64 ((q.ix i : Nat) : Int))
  c1 : ∀ i, i < n → w.cell? ⟨b, o + i * 2 + 1, none⟩ = some (.slice (q.db i) q.L (q.dc i))
theorem CO.below {w w' : World} {b o n B : Nat} {q : CL} (h : CO w b o n q) (hb : Below B w w') (hB : w.heap.size ≤ B) : CO w' b o n q :=
  ⟨Nat.lt_of_lt_of_le h.lt hb.size, fun i hi => (hb.cell (p := ⟨b, _, none⟩) (Nat.lt_of_lt_of_le h.lt hB)).trans (h.c0 i hi), fun i hi => (hb.cell (p := ⟨b, _, none⟩) (Nat.lt_of_lt_of_le h.lt hB)).trans (h.c1 i hi)⟩
theorem CAt.co {w : World} {b k : Nat} {q : CL} (h : CAt w b k q) : CO w b 0 k q := ⟨h.lt, fun i hi => by rw [Nat.zero_add]; exact h.c0 i hi, fun i hi => by rw [Nat.zero_add]; exact h.c1 i hi⟩

def cvv (q : CL) (o : Option Nat) (p : Nat) : Value := match o with
  | some i => if p = 0 then .int .i64 ((q.ix i : Nat) : Int) else q.d i
  | none => if p = 0 then .int .i64 0 else .slice none 0 0
def plF (q : CL) (fl : Nat → Option Nat) (j : Nat) : Value := cvv q (fl (j / 2)) (j % 2)
def oCells (q : CL) (O : List Nat) : List Value := O.flatMap fun i => [.int .i64 ((q.ix i : Nat) : Int), q.d i]
theorem oCells_length (q : CL) (O : List Nat) : (oCells q O).length = O.length * 2 := by
  induction O with
  | nil => rfl
  | cons i O ih => simp only [oCells, List.flatMap_cons, List.length_append, List.length_cons, List.length_nil] at *; omega
theorem oCells_get (q : CL) : ∀ (O : List Nat) (m i : Nat), O[m]? = some i → (oCells q O)[m * 2]? = some (.int .i64 ((q.ix i : Nat) : Int)) ∧ (oCells q O)[m * 2 + 1]? = some (q.d i)
  | [], m, i, h => by simp at h
  | x :: O, 0, i, h => by
    simp at h
    subst h
    exact ⟨rfl, rfl⟩
  | x :: O, m + 1, i, h => by
    have := oCells_get q O m i (by simpa using h)
    have e : oCells q (x :: O) = .int .i64 ((q.ix x : Nat) : Int) :: q.d x :: oCells q O := rfl
    rw [e, show (m + 1) * 2 = m * 2 + 1 + 1 by omega]
    simp only [List.getElem?_cons_succ]
    exact this
theorem oCells_snoc (q : CL) (O : List Nat) (c : Nat) : oCells q (O ++ [c]) = oCells q O ++ [.int .i64 ((q.ix c : Nat) : Int), q.d c] := by simp [oCells]

theorem cell_two_new (w : World) (x y : Value) (t : TypeId) : ∀ j u, [x, y][j]? = some u → (w.alloc (.cells #[x, y] t)).cell? ((⟨w.heap.size, 0, none⟩ : Addr).add j) = some u := by
  intro j u hj
  match j, hj with
  | 0, hj =>
    simp at hj
    subst hj
    simp [Addr.add]
  | 1, hj =>
    simp at hj
    subst hj
    simp [Addr.add]
theorem below_grown {w a b : World} {e size n : Nat} {B : Nat} {v : Value} {xs : List Value} (h : Below B w a) (hown : a.ownsRow B e size v n xs) (hB : B ≤ a.heap.size) (hg : a.grownBy b v.ownBlock) : Below B w b :=
  h.grown hg hB (fun k hk => (hown.lt k hk).1)

/-- One column is put at place p. -/
theorem put_col {w : World} {b k p i : Nat} {q : CL} {fl : Nat → Option Nat} (h : w.rowIs b 43 (k * 2) (plF q fl)) :
    ((w.setCell ⟨b, p * 2, none⟩ (.int .i64 ((q.ix i : Nat) : Int))).setCell ⟨b, p * 2 + 1, none⟩ (q.d i)).rowIs b 43 (k * 2) (plF q fun x => if x = p then some i else fl x) :=
  ((h.set (p * 2) _).set (p * 2 + 1) _).congr fun j _ => by
    unfold plF
    by_cases e1 : j = p * 2 + 1
    · subst e1
      rw [if_pos rfl, show (p * 2 + 1) / 2 = p by omega, show (p * 2 + 1) % 2 = 1 by omega]
      dsimp only
      rw [if_pos rfl]
      rfl
    · rw [if_neg e1]
      by_cases e2 : j = p * 2
      · subst e2
        rw [if_pos rfl, show p * 2 / 2 = p by omega, show p * 2 % 2 = 0 by omega]
        dsimp only
        rw [if_pos rfl]
        rfl
      · rw [if_neg e2]
        dsimp only
        rw [if_neg (by omega)]

/-- Behind c columns: what is placed, which places are filled, the others. -/
structure PM (w : World) (k : Nat) (q : CL) (fl : Nat → Option Nat) (O : List Nat) (vo : Value) (w' : World) : Prop where
  pl : w'.rowIs w.heap.size 43 (k * 2) (plF q fl)
  fi : w'.rowIs (w.heap.size + 1) 4 k (fun t => .bool (fl t).isSome)
  ot : w'.ownsRow (w.heap.size + 2) 43 2 vo O.length (oCells q O)
  sz : w.heap.size + 2 ≤ w'.heap.size
  be : Below w.heap.size w w'

theorem made_cols (w : World) (k : Nat) (q : CL) : (w.alloc (.cells (madeCells #[.int .i64 0, .slice none 0 0] (k * 2)) 43)).rowIs w.heap.size 43 (k * 2) (plF q fun _ => none) := by
  have := World.rowIs_alloc w (madeCells #[.int .i64 0, .slice none 0 0] (k * 2)) 43 (plF q fun _ => none) (fun i hi => by
    rw [size_madeCells] at hi
    have h2 : i % 2 = 0 ∨ i % 2 = 1 := by omega
    unfold madeCells plF cvv
    rw [Array.getElem?_map, Array.getElem?_range]
    rw [if_pos hi]
    rcases h2 with h | h <;> simp [h])
  rwa [size_madeCells] at this
theorem make_cols (k : Nat) (hk : k ≤ 128) (w : World) : (Instr.makeSlice 28 (.int .i64 (k : Int)) (.int .i64 (k : Int))).run Try.prog w = .ok (.slice (some ⟨w.heap.size, 0, none⟩) k k) (w.alloc (.cells (madeCells #[.int .i64 0, .slice none 0 0] (k * 2)) 43)) := by
  obtain ⟨i0, hi0, hz0, hz1, hz2⟩ := info_parts Try.infoC
  have := run_make (P := Try.prog) w 28 43 i0 _ Try.underlying28 hi0 hz0 .i64 .i64 k k (by omega) (Int.le_refl _) (by rw [hz2]; omega) (by omega)
  rw [hz1] at this
  simp only [Int.toNat_natCast] at this
  exact this
theorem make_bools (k : Nat) (hk : k ≤ 128) (w : World) : (Instr.makeSlice 73 (.int .i64 (k : Int)) (.int .i64 (k : Int))).run Try.prog w = .ok (.slice (some ⟨w.heap.size, 0, none⟩) k k) (w.alloc (.cells (madeCells #[.bool false] k) 4)) :=
  run_make_row' (P := Try.prog) 73 4 (.bool false) 1 Try.underlying73 Try.infoBo rfl .i64 .i64 k (by omega) (by omega) w
theorem pm_start (w : World) (k : Nat) (q : CL) : PM w k q (fun _ => none) [] (.slice none 0 0) ((w.alloc (.cells (madeCells #[.int .i64 0, .slice none 0 0] (k * 2)) 43)).alloc (.cells (madeCells #[.bool false] k) 4)) := by
  refine ⟨(made_cols w k q).alloc _, ?_, World.ownsRow_nil _ _ _ _, by simp, ((Below.refl _ _).alloc (Nat.le_refl _) _).alloc (by simp) _⟩
  have := World.rowIs_made (w.alloc (.cells (madeCells #[.int .i64 0, .slice none 0 0] (k * 2)) 43)) (.bool false) k 4
  simpa using this

def PlacePost (k : Nat) (q : CL) (w : World) (e : Ending) (w' : World) : Prop :=
  ∃ σ, e = .returned (.slice (some ⟨w.heap.size, 0, none⟩) k k) ∧ Placed k q.ix σ ∧ w'.rowIs w.heap.size 43 (k * 2) (plF q fun t => some (σ t)) ∧ Below w.heap.size w w'

set_option maxHeartbeats 4000000 in
set_option maxRecDepth 100000 in
theorem place_at (k b o cap : Nat) (q : CL) (w : World) (hk : k ≤ 128) (hx : ∀ i, i < k → q.ix i < 128) (hc : CO w b o k q) (hi : ∀ i j, i < k → j < k → i ≠ j → q.ix i ≠ q.ix j) :
    Calls Try.prog 35 #[.slice (some ⟨b, o, none⟩) k cap] w fun e w' => PlacePost k q w e w' := by
  obtain ⟨i0, hi0, hz0, hz1, hz2⟩ := info_parts Try.infoC
  have m1 := make_cols k hk w
  have m2 := make_bools k hk (w.alloc (.cells (madeCells #[.int .i64 0, .slice none 0 0] (k * 2)) 43))
  have h0 := pm_start w k q
  generalize madeCells #[.int .i64 0, .slice none 0 0] (k * 2) = Z1 at m1 m2 h0
  generalize madeCells #[.bool false] k = Z2 at m2 h0
  go_enter Try.func35, Try.ntmps35
  go_wp2
  clear m1 m2
  generalize (w.alloc (Obj.cells Z1 43)).alloc (Obj.cells Z2 4) = w0 at h0 ⊢
  go_loopw [5, 17] (fun vo vi wr => ∃ c : Nat, c ≤ k ∧ vi = .int .i64 (c : Int) ∧ ∃ fl O, Pl k q.ix c fl O ∧ PM w k q fl O vo wr) (fun _ i _ => k - (intOf i).toNat)
  case atStart => exact ⟨0, by omega, rfl, _, _, pl_start k q.ix, h0⟩
  case round =>
    clear h0
    obtain ⟨c, hcc, rfl, fl, O, hP, hM⟩ := hrel
    by_cases hlt : c < k
    · have hlt' : (c : Int) < (k : Int) := by omega
      have hcw := hc.below hM.be (Nat.le_refl _)
      have g0 := hcw.c0 c hlt
      have g1 := hcw.c1 c hlt
      have hbl := hcw.lt
      have hsz := hM.sz
      by_cases hix : q.ix c < k
      · have hix' : ((q.ix c : Nat) : Int) < (k : Int) := by omega
        obtain ⟨hn, hP2⟩ := hP.own (fun i hic => hi i c (by omega) hlt (by omega)) hix
        have pl1 := hM.pl.alloc (.cells #[.int .i64 ((q.ix c : Nat) : Int), .slice (q.db c) q.L (q.dc c)] 43)
        have fi1 := hM.fi.alloc (.cells #[.int .i64 ((q.ix c : Nat) : Int), .slice (q.db c) q.L (q.dc c)] 43)
        have ot1 := hM.ot.alloc (.cells #[.int .i64 ((q.ix c : Nat) : Int), .slice (q.db c) q.L (q.dc c)] 43)
        have be1 := hM.be.alloc hM.be.size (.cells #[.int .i64 ((q.ix c : Nat) : Int), .slice (q.db c) q.L (q.dc c)] 43)
        have hs1 : w.heap.size + 2 ≤ (wr.alloc (.cells #[.int .i64 ((q.ix c : Nat) : Int), .slice (q.db c) q.L (q.dc c)] 43)).heap.size := by simp; omega
        have n0 : (wr.alloc (.cells #[.int .i64 ((q.ix c : Nat) : Int), .slice (q.db c) q.L (q.dc c)] 43)).rowIs wr.heap.size 43 2 (fun j => if j = 0 then .int .i64 ((q.ix c : Nat) : Int) else .slice (q.db c) q.L (q.dc c)) :=
          World.rowIs_alloc wr #[.int .i64 ((q.ix c : Nat) : Int), .slice (q.db c) q.L (q.dc c)] 43 _ (fun i hi => by
            have : i = 0 ∨ i = 1 := by simp at hi; omega
            rcases this with rfl | rfl <;> rfl)
        generalize hW1 : wr.alloc (.cells #[.int .i64 ((q.ix c : Nat) : Int), .slice (q.db c) q.L (q.dc c)] 43) = W1 at pl1 fi1 ot1 be1 hs1 n0
        have a0 := n0.cell (i := 0) (by omega)
        have a1 := n0.cell (i := 1) (by omega)
        have af0 := n0.frozen 0
        have af1 := n0.frozen 1
        simp only [if_true, Nat.one_ne_zero, if_false] at a0 a1
        have p0 := pl1.cell (i := q.ix c * 2) (by omega)
        have pf0 := pl1.frozen (q.ix c * 2)
        have hne : wr.heap.size ≠ w.heap.size := by omega
        have pl3 := put_col (p := q.ix c) (i := c) pl1
        unfold CL.d at pl3
        have p1 := (pl1.set (q.ix c * 2) (.int .i64 ((q.ix c : Nat) : Int))).cell (i := q.ix c * 2 + 1) (by omega)
        have pf1 := (pl1.set (q.ix c * 2) (.int .i64 ((q.ix c : Nat) : Int))).frozen (q.ix c * 2 + 1)
        have fi2 := fi1.setOther (a := ⟨w.heap.size, q.ix c * 2, none⟩) (by show w.heap.size + 1 ≠ w.heap.size; omega) (.int .i64 ((q.ix c : Nat) : Int))
        have n2 := n0.setOther (a := ⟨w.heap.size, q.ix c * 2, none⟩) hne (.int .i64 ((q.ix c : Nat) : Int))
        have ot2 := ownsRow_setCell_below ot1 (a := ⟨w.heap.size, q.ix c * 2, none⟩) (by show w.heap.size < w.heap.size + 2; omega) (.int .i64 ((q.ix c : Nat) : Int))
        have be2 := be1.setCell (p := ⟨w.heap.size, q.ix c * 2, none⟩) (Nat.le_refl _) (.int .i64 ((q.ix c : Nat) : Int))
        have hs2 : w.heap.size + 2 ≤ (W1.setCell ⟨w.heap.size, q.ix c * 2, none⟩ (.int .i64 ((q.ix c : Nat) : Int))).heap.size := by simpa using hs1
        generalize hW2 : W1.setCell ⟨w.heap.size, q.ix c * 2, none⟩ (.int .i64 ((q.ix c : Nat) : Int)) = W2 at pl3 p1 pf1 fi2 n2 ot2 be2 hs2
        have fi3 := fi2.setOther (a := ⟨w.heap.size, q.ix c * 2 + 1, none⟩) (by show w.heap.size + 1 ≠ w.heap.size; omega) (.slice (q.db c) q.L (q.dc c))
        have n3 := n2.setOther (a := ⟨w.heap.size, q.ix c * 2 + 1, none⟩) hne (.slice (q.db c) q.L (q.dc c))
        have ot3 := ownsRow_setCell_below ot2 (a := ⟨w.heap.size, q.ix c * 2 + 1, none⟩) (by show w.heap.size < w.heap.size + 2; omega) (.slice (q.db c) q.L (q.dc c))
        have be3 := be2.setCell (p := ⟨w.heap.size, q.ix c * 2 + 1, none⟩) (Nat.le_refl _) (.slice (q.db c) q.L (q.dc c))
        have hs3 : w.heap.size + 2 ≤ (W2.setCell ⟨w.heap.size, q.ix c * 2 + 1, none⟩ (.slice (q.db c) q.L (q.dc c))).heap.size := by simpa using hs2
        generalize hW3 : W2.setCell ⟨w.heap.size, q.ix c * 2 + 1, none⟩ (.slice (q.db c) q.L (q.dc c)) = W3 at pl3 fi3 n3 ot3 be3 hs3
        have b0 := n3.cell (i := 0) (by omega)
        simp only [if_true] at b0
        have f0 := fi3.cell hix
        have ff0 := fi3.frozen (q.ix c)
        rw [hn] at f0
        have fi4 := (fi3.set (q.ix c) (.bool true)).congr (g := fun t => .bool (if t = q.ix c then some c else fl t).isSome) (fun t _ => by
          by_cases e : t = q.ix c
          · rw [if_pos e]; simp [e]
          · rw [if_neg e]; simp [e])
        have pl4 := pl3.setOther (a := ⟨w.heap.size + 1, q.ix c, none⟩) (by show w.heap.size ≠ w.heap.size + 1; omega) (.bool true)
        have ot4 := ownsRow_setCell_below ot3 (a := ⟨w.heap.size + 1, q.ix c, none⟩) (by show w.heap.size + 1 < w.heap.size + 2; omega) (.bool true)
        have be4 := be3.setCell (p := ⟨w.heap.size + 1, q.ix c, none⟩) (by show w.heap.size ≤ w.heap.size + 1; omega) (.bool true)
        have hs4 : w.heap.size + 2 ≤ (W3.setCell ⟨w.heap.size + 1, q.ix c, none⟩ (.bool true)).heap.size := by simpa using hs3
        have hPM : PM w k q (fun x => if x = q.ix c then some c else fl x) O u5 (W3.setCell ⟨w.heap.size + 1, q.ix c, none⟩ (.bool true)) := ⟨pl4, fi4, ot4, hs4, be4⟩
        clear pl1 fi1 ot1 be1 hs1 n0 fi2 n2 ot2 be2 hs2 pl3 fi3 n3 ot3 be3 hs3 fi4 pl4 ot4 be4 hs4 hM hP hcw
        generalize q.ix c = x at *
        generalize plF q fl (x * 2) = y0 at p0
        generalize hy1 : (if x * 2 + 1 = x * 2 then Value.int .i64 ((x : Nat) : Int) else plF q fl (x * 2 + 1)) = y1 at p1
        clear hy1
        go_wp2
        go_roundw
        case rel => exact ⟨c + 1, by omega, by go_num, _, _, hP2, hPM⟩
        case measure => simp [intOf]; omega
      · have hix' : ¬ (((q.ix c : Nat) : Int) < (k : Int)) := by omega
        have hP2 := hP.other (show k ≤ q.ix c by omega)
        have hOl : O.length ≤ c := by
          have h1 := hP.cnt
          have h2 := un_le fl (Nat.zero_le k)
          have : un fl k ≤ k := by
            have : ∀ t, un fl t ≤ t := fun t => by
              induction t with
              | zero => exact Nat.le_refl _
              | succ t ih => rw [un]; have : e1 (fl t) ≤ 1 := by { cases fl t <;> simp [e1] }; omega
            exact this k
          omega
        have pl1 := (hM.pl.alloc (.cells #[.int .i64 ((q.ix c : Nat) : Int), .slice (q.db c) q.L (q.dc c)] 43)).alloc (.cells #[.int .i64 ((q.ix c : Nat) : Int), .slice (q.db c) q.L (q.dc c)] 43)
        have fi1 := (hM.fi.alloc (.cells #[.int .i64 ((q.ix c : Nat) : Int), .slice (q.db c) q.L (q.dc c)] 43)).alloc (.cells #[.int .i64 ((q.ix c : Nat) : Int), .slice (q.db c) q.L (q.dc c)] 43)
        have ot1 := (hM.ot.alloc (.cells #[.int .i64 ((q.ix c : Nat) : Int), .slice (q.db c) q.L (q.dc c)] 43)).alloc (.cells #[.int .i64 ((q.ix c : Nat) : Int), .slice (q.db c) q.L (q.dc c)] 43)
        have be1 := (hM.be.alloc hM.be.size (.cells #[.int .i64 ((q.ix c : Nat) : Int), .slice (q.db c) q.L (q.dc c)] 43)).alloc (by have := hM.be.size; simp; omega) (.cells #[.int .i64 ((q.ix c : Nat) : Int), .slice (q.db c) q.L (q.dc c)] 43)
        have hs1 : w.heap.size + 2 ≤ ((wr.alloc (.cells #[.int .i64 ((q.ix c : Nat) : Int), .slice (q.db c) q.L (q.dc c)] 43)).alloc (.cells #[.int .i64 ((q.ix c : Nat) : Int), .slice (q.db c) q.L (q.dc c)] 43)).heap.size := by simp; omega
        have hnews := cell_two_new (wr.alloc (.cells #[.int .i64 ((q.ix c : Nat) : Int), .slice (q.db c) q.L (q.dc c)] 43)) (.int .i64 ((q.ix c : Nat) : Int)) (.slice (q.db c) q.L (q.dc c)) 43
        have esz : (wr.alloc (.cells #[.int .i64 ((q.ix c : Nat) : Int), .slice (q.db c) q.L (q.dc c)] 43)).heap.size = wr.heap.size + 1 := by simp
        rw [esz] at hnews
        have hone : ∀ u ∈ [Value.int .i64 ((q.ix c : Nat) : Int), Value.slice (q.db c) q.L (q.dc c)], u.oneCell' = true := by
          intro u hu
          simp at hu
          rcases hu with rfl | rfl <;> rfl
        go_wp2_with (at_builtin; refine wpList_append_own _ rfl _ _ 28 rfl (w.heap.size + 2) 43 i0 (.agg #[.int .i64 0, .slice none 0 0]) 2 32 Try.underlying28 hi0 hz0 hz1 hz2 rfl (by decide) _ _ _ rfl ot1 ⟨wr.heap.size + 1, 0, none⟩ 1 1 [.int .i64 ((q.ix c : Nat) : Int), .slice (q.db c) q.L (q.dc c)] rfl rfl hnews hone (by unfold maxLen; omega) (by omega) hs1 ?_; intro v' w1 hown' hgrow _)
        have ot2 : w1.ownsRow (w.heap.size + 2) 43 2 v' (O ++ [c]).length (oCells q (O ++ [c])) := by
          rw [oCells_snoc, List.length_append]
          exact hown'
        have hlow := fun j hj => (ot1.lt j hj).1
        have keep : ∀ j, j < w.heap.size + 2 → w1.heap[j]? = ((wr.alloc (.cells #[.int .i64 ((q.ix c : Nat) : Int), .slice (q.db c) q.L (q.dc c)] 43)).alloc (.cells #[.int .i64 ((q.ix c : Nat) : Int), .slice (q.db c) q.L (q.dc c)] 43)).heap[j]? := fun j hj => hgrow.block j (by omega) (fun e => by have := hlow j e.symm; omega)
        have hPM : PM w k q fl (O ++ [c]) v' w1 := ⟨pl1.of_block (keep _ (by omega)), fi1.of_block (keep _ (by omega)), ot2, Nat.le_trans hs1 hgrow.size, be1.grown hgrow (by omega) (fun j hj => by have := hlow j hj; omega)⟩
        clear pl1 fi1 ot1 be1 hown' hgrow ot2 keep
        go_wp2
        go_roundw
        case rel => exact ⟨c + 1, by omega, by go_num, _, _, hP2, hPM⟩
        case measure => simp [intOf]; omega
    · obtain rfl : c = k := by omega
      have hnl : ¬ ((c : Int) < (c : Int)) := by omega
      have hpd := hP.placed hi
      obtain ⟨ad, cap5, g, rfl, hcl, had, hg1, hgc⟩ : ∃ ad cap5 g, u5 = .slice ad O.length cap5 ∧ O.length ≤ cap5 ∧ (0 < O.length → ad = some ⟨g, 0 * 2, none⟩) ∧ w.heap.size + 2 ≤ g ∧ ∀ m i, O[m]? = some i → wr.cell? ⟨g, m * 2, none⟩ = some (.int .i64 ((q.ix i : Nat) : Int)) ∧ wr.cell? ⟨g, m * 2 + 1, none⟩ = some (q.d i) := by
        rcases hM.ot.2 with ⟨h1, h2⟩ | ⟨g, cap5, cur, h1, h2, h3, h4, h5, h6, h7⟩
        · refine ⟨none, 0, w.heap.size + 2, ?_, by omega, fun h => absurd h (by omega), Nat.le_refl _, fun m i hm => ?_⟩
          · rw [h2]; exact h1
          · have := (List.getElem?_eq_some_iff.1 hm).1
            omega
        · refine ⟨_, cap5, g, h1, by omega, fun _ => rfl, h2, fun m i hm => ?_⟩
          have hml := (List.getElem?_eq_some_iff.1 hm).1
          have ho := hM.ot
          rw [h1] at ho
          obtain ⟨o1, o2⟩ := oCells_get q O m i hm
          exact ⟨by rw [ho.cellAt (m * 2) (by omega)]; exact o1, by rw [ho.cellAt (m * 2 + 1) (by omega)]; exact o2⟩
      have hroom := fun t => hP.room (t := t)
      have hP1 := hP
      clear hP
      have pl0 : wr.rowIs w.heap.size 43 (c * 2) (plF q fun x => if x < 0 then some (sg fl O x) else fl x) := hM.pl.congr fun j _ => by simp [plF]
      have fi0 := hM.fi
      have be0 := hM.be
      have hsz := hM.sz
      clear hM
      go_wp2
      go_loopw [5, 42] (fun vo vi wq => ∃ t : Nat, t ≤ c ∧ vi = .int .i64 (t : Int) ∧ (∃ ad c', vo = .slice ad (O.length - un fl t) c' ∧ O.length - un fl t ≤ c' ∧ (un fl t < O.length → ad = some ⟨g, un fl t * 2, none⟩)) ∧ wq.rowIs w.heap.size 43 (c * 2) (plF q fun x => if x < t then some (sg fl O x) else fl x) ∧ wq.rowIs (w.heap.size + 1) 4 c (fun t => .bool (fl t).isSome) ∧ Below w.heap.size w wq ∧ (∀ m i, O[m]? = some i → wq.cell? ⟨g, m * 2, none⟩ = some (.int .i64 ((q.ix i : Nat) : Int)) ∧ wq.cell? ⟨g, m * 2 + 1, none⟩ = some (q.d i))) (fun _ i _ => c - (intOf i).toNat)
      case atStart => exact ⟨0, by omega, rfl, ⟨ad, cap5, rfl, hcl, had⟩, pl0, fi0, be0, hgc⟩
      case round =>
        clear pl0 fi0 be0 hgc had hcl
        obtain ⟨t, ht, rfl, ⟨ad, c', rfl, hc', had⟩, hpl, hfi, hbe, hgc⟩ := hrel
        by_cases hlt2 : t < c
        · have hlt2' : (t : Int) < (c : Int) := by omega
          have f0 := hfi.cell hlt2
          cases hf : fl t with
          | some i =>
            rw [hf] at f0
            have f0' : wr.cell? ⟨w.heap.size + 1, t, none⟩ = some (.bool true) := f0
            clear f0
            have hun : un fl (t + 1) = un fl t := by rw [un, hf]; rfl
            have hpl2 : wr.rowIs w.heap.size 43 (c * 2) (plF q fun x => if x < t + 1 then some (sg fl O x) else fl x) := hpl.congr fun j _ => by
              simp only [plF]
              by_cases e : j / 2 = t
              · rw [e, if_neg (by omega), if_pos (by omega), hf]
                simp only [sg, hf]
              · by_cases e2 : j / 2 < t
                · rw [if_pos e2, if_pos (by omega)]
                · rw [if_neg e2, if_neg (by omega)]
            rw [← hun] at hc' had ⊢
            go_wp2
            go_roundw
            case rel => exact ⟨t + 1, by omega, by go_num, ⟨ad, c', rfl, hc', had⟩, hpl2, hfi, hbe, hgc⟩
            case measure => simp [intOf]; omega
          | none =>
            rw [hf] at f0
            have f0' : wr.cell? ⟨w.heap.size + 1, t, none⟩ = some (.bool false) := f0
            clear f0
            have hm := hroom t hlt2 hf
            have had' := had hm
            subst had'
            clear had
            have hun : un fl (t + 1) = un fl t + 1 := by rw [un, hf]; rfl
            have hsg : O[un fl t]? = some (sg fl O t) := by
              simp only [sg, hf]
              rw [List.getD_eq_getElem?_getD, List.getElem?_eq_getElem hm]
              rfl
            obtain ⟨g0, g1⟩ := hgc _ _ hsg
            have p0 := hpl.cell (i := t * 2) (by omega)
            have pf0 := hpl.frozen (t * 2)
            have p1 := (hpl.set (t * 2) (.int .i64 ((q.ix (sg fl O t) : Nat) : Int))).cell (i := t * 2 + 1) (by omega)
            have pf1 := (hpl.set (t * 2) (.int .i64 ((q.ix (sg fl O t) : Nat) : Int))).frozen (t * 2 + 1)
            have hpl2 := (put_col (p := t) (i := sg fl O t) hpl).congr (g := plF q fun x => if x < t + 1 then some (sg fl O x) else fl x) fun j _ => by
              simp only [plF]
              by_cases e : j / 2 = t
              · rw [e, if_pos rfl, if_pos (by omega)]
              · rw [if_neg e]
                by_cases e2 : j / 2 < t
                · rw [if_pos e2, if_pos (by omega)]
                · rw [if_neg e2, if_neg (by omega)]
            have hfi2 := (hfi.setOther (a := ⟨w.heap.size, t * 2, none⟩) (by show w.heap.size + 1 ≠ w.heap.size; omega) (.int .i64 ((q.ix (sg fl O t) : Nat) : Int))).setOther (a := ⟨w.heap.size, t * 2 + 1, none⟩) (by show w.heap.size + 1 ≠ w.heap.size; omega) (q.d (sg fl O t))
            have hbe2 := (hbe.setCell (p := ⟨w.heap.size, t * 2, none⟩) (Nat.le_refl _) (.int .i64 ((q.ix (sg fl O t) : Nat) : Int))).setCell (p := ⟨w.heap.size, t * 2 + 1, none⟩) (Nat.le_refl _) (q.d (sg fl O t))
            have hgc2 : ∀ m i, O[m]? = some i → ((wr.setCell ⟨w.heap.size, t * 2, none⟩ (.int .i64 ((q.ix (sg fl O t) : Nat) : Int))).setCell ⟨w.heap.size, t * 2 + 1, none⟩ (q.d (sg fl O t))).cell? ⟨g, m * 2, none⟩ = some (.int .i64 ((q.ix i : Nat) : Int)) ∧ ((wr.setCell ⟨w.heap.size, t * 2, none⟩ (.int .i64 ((q.ix (sg fl O t) : Nat) : Int))).setCell ⟨w.heap.size, t * 2 + 1, none⟩ (q.d (sg fl O t))).cell? ⟨g, m * 2 + 1, none⟩ = some (q.d i) := fun m i hm => by
              have e : ((wr.setCell ⟨w.heap.size, t * 2, none⟩ (.int .i64 ((q.ix (sg fl O t) : Nat) : Int))).setCell ⟨w.heap.size, t * 2 + 1, none⟩ (q.d (sg fl O t))).heap[g]? = wr.heap[g]? := by
                rw [heap_setCell_other _ _ _ _ (by show g ≠ w.heap.size; omega), heap_setCell_other _ _ _ _ (by show g ≠ w.heap.size; omega)]
              exact ⟨(World.cell?_of_block (a := ⟨g, m * 2, none⟩) e).trans (hgc m i hm).1, (World.cell?_of_block (a := ⟨g, m * 2 + 1, none⟩) e).trans (hgc m i hm).2⟩
            have hlen : ∃ r, O.length - un fl t = r + 1 ∧ O.length - un fl (t + 1) = r := ⟨O.length - un fl (t + 1), by omega, rfl⟩
            obtain ⟨r, hr1, hr2⟩ := hlen
            rw [hr1] at hc' ⊢
            clear hgc hsg hpl hfi hbe hroom hP1 hpd hi
            simp only [CL.d] at *
            generalize sg fl O t = z at *
            generalize q.ix z = x at *
            generalize hy0 : plF q (fun x => if x < t then some (sg fl O x) else fl x) (t * 2) = y0 at p0
            generalize hy1 : (if t * 2 + 1 = t * 2 then Value.int .i64 ((x : Nat) : Int) else plF q (fun x => if x < t then some (sg fl O x) else fl x) (t * 2 + 1)) = y1 at p1
            clear hy0 hy1
            go_wp2
            go_roundw
            case rel =>
              refine ⟨t + 1, by omega, by go_num, ⟨_, c' - 1, by rw [hr2], by omega, fun h => ?_⟩, hpl2, hfi2, hbe2, hgc2⟩
              rw [if_neg (by omega), hun, show (un fl t + 1) * 2 = un fl t * 2 + 2 by omega]
            case measure => simp [intOf]; omega
        · obtain rfl : t = c := by omega
          have hnl : ¬ ((t : Int) < (t : Int)) := by omega
          go_wp2
          go_ret
          exact ⟨sg fl O, rfl, hpd, hpl.congr fun j hj => by simp only [plF]; rw [if_pos (by omega)], hbe⟩
theorem place_any (k b cap : Nat) (q : CL) (w : World) (hk : k ≤ 128) (hx : ∀ i, i < k → q.ix i < 128) (hc : CAt w b k q) (hi : ∀ i j, i < k → j < k → i ≠ j → q.ix i ≠ q.ix j) :
    Calls Try.prog 35 #[.slice (some ⟨b, 0, none⟩) k cap] w fun e w' => PlacePost k q w e w' := place_at k b 0 cap q w hk hx hc.co hi
end Go.Proofs.Ytkpcmfgeanlcnaa
