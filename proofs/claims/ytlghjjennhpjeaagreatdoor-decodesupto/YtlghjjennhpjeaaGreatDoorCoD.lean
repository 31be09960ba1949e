/-
  Each column at its own place, the others where one is missing: run alone.
-/
import Derived.Test.YtlghjjennhpjeaaGreatDoorSvC
import Derived.BigQuiet
import Derived.Test.YtlghjjennhpjeaaGreatDoorRowW
namespace Go.Proofs.YtlghjjennhpjeaaGreatDoor
open Go.RowKit Go.Deep

theorem Tryz.infoC : (Tryz.prog.info? 55).map (fun i => (i.zero, i.size, i.bytes)) = some (some (.agg #[.int .i64 0, .slice none 0 0]), 2, 32) := by kernel_rfl
theorem Tryz.infoBo : (Tryz.prog.info? 4).map (fun i => (i.zero, i.size, i.bytes)) = some (some (.bool false), 1, 1) := by kernel_rfl

theorem cell_ltV {w : World} {b o : Nat} {v : Value} (h : w.cell? ⟨b, o, none⟩ = some v) : b < w.heap.size := block_lt_of_cell h
/-- Columns where they lie. -/
structure CL where
  L : Nat
  ix : Nat → Nat
  db : Nat → Option Addr
  dc : Nat → Nat
def CL.d (q : CL) (i : Nat) : Value := .slice (q.db i) q.L (q.dc i)
structure CAt (w : World) (b k : Nat) (q : CL) : Prop where
  lt : b < w.heap.size
  c0 : ∀ i, i < k → w.cell? ⟨b, i * 2, none⟩ = some (.int .i64 ((q.ix i : Nat) : Int))
  c1 : ∀ i, i < k → w.cell? ⟨b, i * 2 + 1, none⟩ = some (q.d i)
theorem CAt.below {w w' : World} {b k : Nat} {q : CL} (h : CAt w b k q) (hb : Below w.heap.size w w') : CAt w' b k q :=
  ⟨Nat.lt_of_lt_of_le h.lt hb.size, fun i hi => by rw [hb.cell (p := ⟨b, i * 2, none⟩) h.lt]; exact h.c0 i hi, fun i hi => by rw [hb.cell (p := ⟨b, i * 2 + 1, none⟩) h.lt]; exact h.c1 i hi⟩

/-- Columns where they lie, from any place of their list on. -/
structure CO (w : World) (b o n : Nat) (q : CL) : Prop where
  lt : b < w.heap.size
  c0 : ∀ i, i < n → w.cell? ⟨b, o + i * 2, none⟩ = some (.int .i64 ((q.ix i : Nat) : Int))
  c1 : ∀ i, i < n → w.cell? ⟨b, o + i * 2 + 1, none⟩ = some (.slice (q.db i) q.L (q.dc i))
theorem CO.below {w w' : World} {b o n B : Nat} {q : CL} (h : CO w b o n q) (hb : Below B w w') (hB : w.heap.size ≤ B) : CO w' b o n q :=
  ⟨Nat.lt_of_lt_of_le h.lt hb.size, fun i hi => (hb.cell (p := ⟨b, _, none⟩) (Nat.lt_of_lt_of_le h.lt hB)).trans (h.c0 i hi), fun i hi => (hb.cell (p := ⟨b, _, none⟩) (Nat.lt_of_lt_of_le h.lt hB)).trans (h.c1 i hi)⟩
theorem CAt.co {w : World} {b k : Nat} {q : CL} (h : CAt w b k q) : CO w b 0 k q := ⟨h.lt, fun i hi => by rw [Nat.zero_add]; exact h.c0 i hi, fun i hi => by rw [Nat.zero_add]; exact h.c1 i hi⟩

def cvv (q : CL) (o : Option Nat) (p : Nat) : Value := match o with
  | some i => if p = 0 then .int .i64 ((q.ix i : Nat) : Int) else q.d i
  | none => if p = 0 then .int .i64 0 else .slice none 0 0
def plF (q : CL) (fl : Nat → Option Nat) (j : Nat) : Value := cvv q (fl (j / 2)) (j % 2)
def oCells (q : CL) (O : List Nat) : List Value := O.flatMap fun i => [.int .i64 ((q.ix i : Nat) : Int), q.d i]
theorem oCells_length (q : CL) (O : List Nat) : (oCells q O).length = O.length * 2 := by
  induction O with
  | nil => rfl
  | cons i O ih => simp only [oCells, List.flatMap_cons, List.length_append, List.length_cons, List.length_nil] at *; omega
theorem oCells_get (q : CL) : ∀ (O : List Nat) (m i : Nat), O[m]? = some i → (oCells q O)[m * 2]? = some (.int .i64 ((q.ix i : Nat) : Int)) ∧ (oCells q O)[m * 2 + 1]? = some (q.d i)
  | [], m, i, h => by simp at h
  | x :: O, 0, i, h => by
    simp at h
    subst h
    exact ⟨rfl, rfl⟩
  | x :: O, m + 1, i, h => by
    have := oCells_get q O m i (by simpa using h)
    have e : oCells q (x :: O) = .int .i64 ((q.ix x : Nat) : Int) :: q.d x :: oCells q O := rfl
    rw [e, show (m + 1) * 2 = m * 2 + 1 + 1 by omega]
    simp only [List.getElem?_cons_succ]
    exact this
theorem oCells_snoc (q : CL) (O : List Nat) (c : Nat) : oCells q (O ++ [c]) = oCells q O ++ [.int .i64 ((q.ix c : Nat) : Int), q.d c] := by simp [oCells]

theorem cell_two_newV (w : World) (x y : Value) (t : TypeId) : ∀ j u, [x, y][j]? = some u → (w.alloc (.cells #[x, y] t)).cell? ((⟨w.heap.size, 0, none⟩ : Addr).add j) = some u := by
  intro j u hj
  match j, hj with
  | 0, hj =>
    simp at hj
    subst hj
    simp [Addr.add]
  | 1, hj =>
    simp at hj
    subst hj
    simp [Addr.add]
theorem below_grown {w a b : World} {e size n : Nat} {B : Nat} {v : Value} {xs : List Value} (h : Below B w a) (hown : a.ownsRow B e size v n xs) (hB : B ≤ a.heap.size) (hg : a.grownBy b v.ownBlock) : Below B w b :=
  h.grown hg hB (fun k hk => (hown.lt k hk).1)

/-- One column is put at place p. -/
theorem put_col {w : World} {b k p i : Nat} {q : CL} {fl : Nat → Option Nat} (h : w.rowIs b 55 (k * 2) (plF q fl)) :
    ((w.setCell ⟨b, p * 2, none⟩ (.int .i64 ((q.ix i : Nat) : Int))).setCell ⟨b, p * 2 + 1, none⟩ (q.d i)).rowIs b 55 (k * 2) (plF q fun x => if x = p then some i else fl x) :=
  ((h.set (p * 2) _).set (p * 2 + 1) _).congr fun j _ => by
    unfold plF
    by_cases e1 : j = p * 2 + 1
    · subst e1
      rw [if_pos rfl, show (p * 2 + 1) / 2 = p by omega, show (p * 2 + 1) % 2 = 1 by omega]
      dsimp only
      rw [if_pos rfl]
      rfl
    · rw [if_neg e1]
      by_cases e2 : j = p * 2
      · subst e2
        rw [if_pos rfl, show p * 2 / 2 = p by omega, show p * 2 % 2 = 0 by omega]
        dsimp only
        rw [if_pos rfl]
        rfl
      · rw [if_neg e2]
        dsimp only
        rw [if_neg (by omega)]

/-- Behind c columns: what is placed, which places are filled, the others. -/
structure PM (w : World) (k : Nat) (q : CL) (fl : Nat → Option Nat) (O : List Nat) (vo : Value) (w' : World) : Prop where
  pl : w'.rowIs w.heap.size 55 (k * 2) (plF q fl)
  fi : w'.rowIs (w.heap.size + 1) 4 k (fun t => .bool (fl t).isSome)
  ot : w'.ownsRow (w.heap.size + 2) 55 2 vo O.length (oCells q O)
  sz : w.heap.size + 2 ≤ w'.heap.size
  be : Below w.heap.size w w'

theorem made_cols (w : World) (k : Nat) (q : CL) : (w.alloc (.cells (madeCells #[.int .i64 0, .slice none 0 0] (k * 2)) 55)).rowIs w.heap.size 55 (k * 2) (plF q fun _ => none) := by
  have := World.rowIs_alloc w (madeCells #[.int .i64 0, .slice none 0 0] (k * 2)) 55 (plF q fun _ => none) (fun i hi => by
    rw [size_madeCells] at hi
    have h2 : i % 2 = 0 ∨ i % 2 = 1 := by omega
    unfold madeCells plF cvv
    rw [Array.getElem?_map, Array.getElem?_range]
    rw [if_pos hi]
    rcases h2 with h | h <;> simp [h])
  rwa [size_madeCells] at this
theorem make_cols (k : Nat) (hk : k ≤ 128) (w : World) : (Instr.makeSlice 53 (.int .i64 (k : Int)) (.int .i64 (k : Int))).run Tryz.prog w = .ok (.slice (some ⟨w.heap.size, 0, none⟩) k k) (w.alloc (.cells (madeCells #[.int .i64 0, .slice none 0 0] (k * 2)) 55)) := by
  obtain ⟨i0, hi0, hz0, hz1, hz2⟩ := info_parts Tryz.infoC
  have := run_make (P := Tryz.prog) w 53 55 i0 _ Tryz.underlying53 hi0 hz0 .i64 .i64 k k (by omega) (Int.le_refl _) (by rw [hz2]; omega) (by omega)
  rw [hz1] at this
  simp only [Int.toNat_natCast] at this
  exact this
theorem make_bools (k : Nat) (hk : k ≤ 128) (w : World) : (Instr.makeSlice 178 (.int .i64 (k : Int)) (.int .i64 (k : Int))).run Tryz.prog w = .ok (.slice (some ⟨w.heap.size, 0, none⟩) k k) (w.alloc (.cells (madeCells #[.bool false] k) 4)) :=
  run_make_row' (P := Tryz.prog) 178 4 (.bool false) 1 Tryz.underlying178 Tryz.infoBo rfl .i64 .i64 k (by omega) (by omega) w
theorem pm_start (w : World) (k : Nat) (q : CL) : PM w k q (fun _ => none) [] (.slice none 0 0) ((w.alloc (.cells (madeCells #[.int .i64 0, .slice none 0 0] (k * 2)) 55)).alloc (.cells (madeCells #[.bool false] k) 4)) := by
  refine ⟨(made_cols w k q).alloc _, ?_, World.ownsRow_nil _ _ _ _, by simp, ((Below.refl _ _).alloc (Nat.le_refl _) _).alloc (by simp) _⟩
  have := World.rowIs_made (w.alloc (.cells (madeCells #[.int .i64 0, .slice none 0 0] (k * 2)) 55)) (.bool false) k 4
  simpa using this

def PlacePost (k : Nat) (q : CL) (w : World) (e : Ending) (w' : World) : Prop :=
  ∃ σ, e = .returned (.slice (some ⟨w.heap.size, 0, none⟩) k k) ∧ Placed k q.ix σ ∧ w'.rowIs w.heap.size 55 (k * 2) (plF q fun t => some (σ t)) ∧ Below w.heap.size w w'

set_option maxHeartbeats 4000000 in
set_option maxRecDepth 100000 in
theorem place_at (k b o cap : Nat) (q : CL) (w : World) (hk : k ≤ 128) (hx : ∀ i, i < k → q.ix i < 128) (hc : CO w b o k q) (hi : ∀ i j, i < k → j < k → i ≠ j → q.ix i ≠ q.ix j) :
    Calls Tryz.prog 74 #[.slice (some ⟨b, o, none⟩) k cap] w fun e w' => PlacePost k q w e w' := by
  obtain ⟨i0, hi0, hz0, hz1, hz2⟩ := info_parts Tryz.infoC
  have m1 := make_cols k hk w
  have m2 := make_bools k hk (w.alloc (.cells (madeCells #[.int .i64 0, .slice none 0 0] (k * 2)) 55))
  have h0 := pm_start w k q
  generalize madeCells #[.int .i64 0, .slice none 0 0] (k * 2) = Z1 at m1 m2 h0
  generalize madeCells #[.bool false] k = Z2 at m2 h0
  go_enter Tryz.func74, Tryz.ntmps74
  go_wp2
  clear m1 m2
  generalize (w.alloc (Obj.cells Z1 55)).alloc (Obj.cells Z2 4) = w0 at h0 ⊢
  go_loopw [5, 17] (fun vo vi wr => ∃ c : Nat, c ≤ k ∧ vi = .int .i64 (c : Int) ∧ ∃ fl O, Pl k q.ix c fl O ∧ PM w k q fl O vo wr) (fun _ i _ => k - (intOf i).toNat)
  case atStart => exact ⟨0, by omega, rfl, _, _, pl_start k q.ix, h0⟩
  case round =>
    clear h0
    obtain ⟨c, hcc, rfl, fl, O, hP, hM⟩ := hrel
    by_cases hlt : c < k
    · have hlt' : (c : Int) < (k : Int) := by omega
      have hcw := hc.below hM.be (Nat.le_refl _)
      have g0 := hcw.c0 c hlt
      have g1 := hcw.c1 c hlt
      have hbl := hcw.lt
      have hsz := hM.sz
      by_cases hix : q.ix c < k
      · have hix' : ((q.ix c : Nat) : Int) < (k : Int) := by omega
        obtain ⟨hn, hP2⟩ := hP.own (fun i hic => hi i c (by omega) hlt (by omega)) hix
        have pl1 := hM.pl.alloc (.cells #[.int .i64 ((q.ix c : Nat) : Int), .slice (q.db c) q.L (q.dc c)] 55)
        have fi1 := hM.fi.alloc (.cells #[.int .i64 ((q.ix c : Nat) : Int), .slice (q.db c) q.L (q.dc c)] 55)
        have ot1 := hM.ot.alloc (.cells #[.int .i64 ((q.ix c : Nat) : Int), .slice (q.db c) q.L (q.dc c)] 55)
        have be1 := hM.be.alloc hM.be.size (.cells #[.int .i64 ((q.ix c : Nat) : Int), .slice (q.db c) q.L (q.dc c)] 55)
        have hs1 : w.heap.size + 2 ≤ (wr.alloc (.cells #[.int .i64 ((q.ix c : Nat) : Int), .slice (q.db c) q.L (q.dc c)] 55)).heap.size := by simp; omega
        have n0 : (wr.alloc (.cells #[.int .i64 ((q.ix c : Nat) : Int), .slice (q.db c) q.L (q.dc c)] 55)).rowIs wr.heap.size 55 2 (fun j => if j = 0 then .int .i64 ((q.ix c : Nat) : Int) else .slice (q.db c) q.L (q.dc c)) :=
          World.rowIs_alloc wr #[.int .i64 ((q.ix c : Nat) : Int), .slice (q.db c) q.L (q.dc c)] 55 _ (fun i hi => by
            have : i = 0 ∨ i = 1 := by simp at hi; omega
            rcases this with rfl | rfl <;> rfl)
        generalize hW1 : wr.alloc (.cells #[.int .i64 ((q.ix c : Nat) : Int), .slice (q.db c) q.L (q.dc c)] 55) = W1 at pl1 fi1 ot1 be1 hs1 n0
        have a0 := n0.cell (i := 0) (by omega)
        have a1 := n0.cell (i := 1) (by omega)
        have af0 := n0.frozen 0
        have af1 := n0.frozen 1
        simp only [if_true, Nat.one_ne_zero, if_false] at a0 a1
        have p0 := pl1.cell (i := q.ix c * 2) (by omega)
        have pf0 := pl1.frozen (q.ix c * 2)
        have hne : wr.heap.size ≠ w.heap.size := by omega
        have pl3 := put_col (p := q.ix c) (i := c) pl1
        unfold CL.d at pl3
        have p1 := (pl1.set (q.ix c * 2) (.int .i64 ((q.ix c : Nat) : Int))).cell (i := q.ix c * 2 + 1) (by omega)
        have pf1 := (pl1.set (q.ix c * 2) (.int .i64 ((q.ix c : Nat) : Int))).frozen (q.ix c * 2 + 1)
        have fi2 := fi1.setOther (a := ⟨w.heap.size, q.ix c * 2, none⟩) (by show w.heap.size + 1 ≠ w.heap.size; omega) (.int .i64 ((q.ix c : Nat) : Int))
        have n2 := n0.setOther (a := ⟨w.heap.size, q.ix c * 2, none⟩) hne (.int .i64 ((q.ix c : Nat) : Int))
        have ot2 := ownsRow_setCell_below ot1 (a := ⟨w.heap.size, q.ix c * 2, none⟩) (by show w.heap.size < w.heap.size + 2; omega) (.int .i64 ((q.ix c : Nat) : Int))
        have be2 := be1.setCell (p := ⟨w.heap.size, q.ix c * 2, none⟩) (Nat.le_refl _) (.int .i64 ((q.ix c : Nat) : Int))
        have hs2 : w.heap.size + 2 ≤ (W1.setCell ⟨w.heap.size, q.ix c * 2, none⟩ (.int .i64 ((q.ix c : Nat) : Int))).heap.size := by simpa using hs1
        generalize hW2 : W1.setCell ⟨w.heap.size, q.ix c * 2, none⟩ (.int .i64 ((q.ix c : Nat) : Int)) = W2 at pl3 p1 pf1 fi2 n2 ot2 be2 hs2
        have fi3 := fi2.setOther (a := ⟨w.heap.size, q.ix c * 2 + 1, none⟩) (by show w.heap.size + 1 ≠ w.heap.size; omega) (.slice (q.db c) q.L (q.dc c))
        have n3 := n2.setOther (a := ⟨w.heap.size, q.ix c * 2 + 1, none⟩) hne (.slice (q.db c) q.L (q.dc c))
        have ot3 := ownsRow_setCell_below ot2 (a := ⟨w.heap.size, q.ix c * 2 + 1, none⟩) (by show w.heap.size < w.heap.size + 2; omega) (.slice (q.db c) q.L (q.dc c))
        have be3 := be2.setCell (p := ⟨w.heap.size, q.ix c * 2 + 1, none⟩) (Nat.le_refl _) (.slice (q.db c) q.L (q.dc c))
        have hs3 : w.heap.size + 2 ≤ (W2.setCell ⟨w.heap.size, q.ix c * 2 + 1, none⟩ (.slice (q.db c) q.L (q.dc c))).heap.size := by simpa using hs2
        generalize hW3 : W2.setCell ⟨w.heap.size, q.ix c * 2 + 1, none⟩ (.slice (q.db c) q.L (q.dc c)) = W3 at pl3 fi3 n3 ot3 be3 hs3
        have b0 := n3.cell (i := 0) (by omega)
        simp only [if_true] at b0
        have f0 := fi3.cell hix
        have ff0 := fi3.frozen (q.ix c)
        rw [hn] at f0
        have fi4 := (fi3.set (q.ix c) (.bool true)).congr (g := fun t => .bool (if t = q.ix c then some c else fl t).isSome) (fun t _ => by
          by_cases e : t = q.ix c
          · rw [if_pos e]; simp [e]
          · rw [if_neg e]; simp [e])
        have pl4 := pl3.setOther (a := ⟨w.heap.size + 1, q.ix c, none⟩) (by show w.heap.size ≠ w.heap.size + 1; omega) (.bool true)
        have ot4 := ownsRow_setCell_below ot3 (a := ⟨w.heap.size + 1, q.ix c, none⟩) (by show w.heap.size + 1 < w.heap.size + 2; omega) (.bool true)
        have be4 := be3.setCell (p := ⟨w.heap.size + 1, q.ix c, none⟩) (by show w.heap.size ≤ w.heap.size + 1; omega) (.bool true)
        have hs4 : w.heap.size + 2 ≤ (W3.setCell ⟨w.heap.size + 1, q.ix c, none⟩ (.bool true)).heap.size := by simpa using hs3
        have hPM : PM w k q (fun x => if x = q.ix c then some c else fl x) O u5 (W3.setCell ⟨w.heap.size + 1, q.ix c, none⟩ (.bool true)) := ⟨pl4, fi4, ot4, hs4, be4⟩
        clear pl1 fi1 ot1 be1 hs1 n0 fi2 n2 ot2 be2 hs2 pl3 fi3 n3 ot3 be3 hs3 fi4 pl4 ot4 be4 hs4 hM hP hcw
        generalize q.ix c = x at *
        generalize plF q fl (x * 2) = y0 at p0
        generalize hy1 : (if x * 2 + 1 = x * 2 then Value.int .i64 ((x : Nat) : Int) else plF q fl (x * 2 + 1)) = y1 at p1
        clear hy1
        go_wp2
        go_roundw
        case rel => exact ⟨c + 1, by omega, by go_num, _, _, hP2, hPM⟩
        case measure => simp [intOf]; omega
      · have hix' : ¬ (((q.ix c : Nat) : Int) < (k : Int)) := by omega
        have hP2 := hP.other (show k ≤ q.ix c by omega)
        have hOl : O.length ≤ c := by
          have h1 := hP.cnt
          have h2 := un_le fl (Nat.zero_le k)
          have : un fl k ≤ k := by
            have : ∀ t, un fl t ≤ t := fun t => by
              induction t with
              | zero => exact Nat.le_refl _
              | succ t ih => rw [un]; have : e1 (fl t) ≤ 1 := by { cases fl t <;> simp [e1] }; omega
            exact this k
          omega
        have pl1 := (hM.pl.alloc (.cells #[.int .i64 ((q.ix c : Nat) : Int), .slice (q.db c) q.L (q.dc c)] 55)).alloc (.cells #[.int .i64 ((q.ix c : Nat) : Int), .slice (q.db c) q.L (q.dc c)] 55)
        have fi1 := (hM.fi.alloc (.cells #[.int .i64 ((q.ix c : Nat) : Int), .slice (q.db c) q.L (q.dc c)] 55)).alloc (.cells #[.int .i64 ((q.ix c : Nat) : Int), .slice (q.db c) q.L (q.dc c)] 55)
        have ot1 := (hM.ot.alloc (.cells #[.int .i64 ((q.ix c : Nat) : Int), .slice (q.db c) q.L (q.dc c)] 55)).alloc (.cells #[.int .i64 ((q.ix c : Nat) : Int), .slice (q.db c) q.L (q.dc c)] 55)
        have be1 := (hM.be.alloc hM.be.size (.cells #[.int .i64 ((q.ix c : Nat) : Int), .slice (q.db c) q.L (q.dc c)] 55)).alloc (by have := hM.be.size; simp; omega) (.cells #[.int .i64 ((q.ix c : Nat) : Int), .slice (q.db c) q.L (q.dc c)] 55)
        have hs1 : w.heap.size + 2 ≤ ((wr.alloc (.cells #[.int .i64 ((q.ix c : Nat) : Int), .slice (q.db c) q.L (q.dc c)] 55)).alloc (.cells #[.int .i64 ((q.ix c : Nat) : Int), .slice (q.db c) q.L (q.dc c)] 55)).heap.size := by simp; omega
        have hnews := cell_two_newV (wr.alloc (.cells #[.int .i64 ((q.ix c : Nat) : Int), .slice (q.db c) q.L (q.dc c)] 55)) (.int .i64 ((q.ix c : Nat) : Int)) (.slice (q.db c) q.L (q.dc c)) 55
        have esz : (wr.alloc (.cells #[.int .i64 ((q.ix c : Nat) : Int), .slice (q.db c) q.L (q.dc c)] 55)).heap.size = wr.heap.size + 1 := by simp
        rw [esz] at hnews
        have hone : ∀ u ∈ [Value.int .i64 ((q.ix c : Nat) : Int), Value.slice (q.db c) q.L (q.dc c)], u.oneCell' = true := by
          intro u hu
          simp at hu
          rcases hu with rfl | rfl <;> rfl
        go_wp2_with (at_builtin; refine wpList_append_own _ rfl _ _ 53 rfl (w.heap.size + 2) 55 i0 (.agg #[.int .i64 0, .slice none 0 0]) 2 32 Tryz.underlying53 hi0 hz0 hz1 hz2 rfl (by decide) _ _ _ rfl ot1 ⟨wr.heap.size + 1, 0, none⟩ 1 1 [.int .i64 ((q.ix c : Nat) : Int), .slice (q.db c) q.L (q.dc c)] rfl rfl hnews hone (by unfold maxLen; omega) (by omega) hs1 ?_; intro v' w1 hown' hgrow _)
        have ot2 : w1.ownsRow (w.heap.size + 2) 55 2 v' (O ++ [c]).length (oCells q (O ++ [c])) := by
          rw [oCells_snoc, List.length_append]
          exact hown'
        have hlow := fun j hj => (ot1.lt j hj).1
        have keep : ∀ j, j < w.heap.size + 2 → w1.heap[j]? = ((wr.alloc (.cells #[.int .i64 ((q.ix c : Nat) : Int), .slice (q.db c) q.L (q.dc c)] 55)).alloc (.cells #[.int .i64 ((q.ix c : Nat) : Int), .slice (q.db c) q.L (q.dc c)] 55)).heap[j]? := fun j hj => hgrow.block j (by omega) (fun e => by have := hlow j e.symm; omega)
        have hPM : PM w k q fl (O ++ [c]) v' w1 := ⟨pl1.of_block (keep _ (by omega)), fi1.of_block (keep _ (by omega)), ot2, Nat.le_trans hs1 hgrow.size, be1.grown hgrow (by omega) (fun j hj => by have := hlow j hj; omega)⟩
        clear pl1 fi1 ot1 be1 hown' hgrow ot2 keep
        go_wp2
        go_roundw
        case rel => exact ⟨c + 1, by omega, by go_num, _, _, hP2, hPM⟩
        case measure => simp [intOf]; omega
    · obtain rfl : c = k := by omega
      have hnl : ¬ ((c : Int) < (c : Int)) := by omega
      have hpd := hP.placed hi
      obtain ⟨ad, cap5, g, rfl, hcl, had, hg1, hgc⟩ : ∃ ad cap5 g, u5 = .slice ad O.length cap5 ∧ O.length ≤ cap5 ∧ (0 < O.length → ad = some ⟨g, 0 * 2, none⟩) ∧ w.heap.size + 2 ≤ g ∧ ∀ m i, O[m]? = some i → wr.cell? ⟨g, m * 2, none⟩ = some (.int .i64 ((q.ix i : Nat) : Int)) ∧ wr.cell? ⟨g, m * 2 + 1, none⟩ = some (q.d i) := by
        rcases hM.ot.2 with ⟨h1, h2⟩ | ⟨g, cap5, cur, h1, h2, h3, h4, h5, h6, h7⟩
        · refine ⟨none, 0, w.heap.size + 2, ?_, by omega, fun h => absurd h (by omega), Nat.le_refl _, fun m i hm => ?_⟩
          · rw [h2]; exact h1
          · have := (List.getElem?_eq_some_iff.1 hm).1
            omega
        · refine ⟨_, cap5, g, h1, by omega, fun _ => rfl, h2, fun m i hm => ?_⟩
          have hml := (List.getElem?_eq_some_iff.1 hm).1
          have ho := hM.ot
          rw [h1] at ho
          obtain ⟨o1, o2⟩ := oCells_get q O m i hm
          exact ⟨by rw [ho.cellAt (m * 2) (by omega)]; exact o1, by rw [ho.cellAt (m * 2 + 1) (by omega)]; exact o2⟩
      have hroom := fun t => hP.room (t := t)
      have hP1 := hP
      clear hP
      have pl0 : wr.rowIs w.heap.size 55 (c * 2) (plF q fun x => if x < 0 then some (sg fl O x) else fl x) := hM.pl.congr fun j _ => by simp [plF]
      have fi0 := hM.fi
      have be0 := hM.be
      have hsz := hM.sz
      clear hM
      go_wp2
      go_loopw [5, 42] (fun vo vi wq => ∃ t : Nat, t ≤ c ∧ vi = .int .i64 (t : Int) ∧ (∃ ad c', vo = .slice ad (O.length - un fl t) c' ∧ O.length - un fl t ≤ c' ∧ (un fl t < O.length → ad = some ⟨g, un fl t * 2, none⟩)) ∧ wq.rowIs w.heap.size 55 (c * 2) (plF q fun x => if x < t then some (sg fl O x) else fl x) ∧ wq.rowIs (w.heap.size + 1) 4 c (fun t => .bool (fl t).isSome) ∧ Below w.heap.size w wq ∧ (∀ m i, O[m]? = some i → wq.cell? ⟨g, m * 2, none⟩ = some (.int .i64 ((q.ix i : Nat) : Int)) ∧ wq.cell? ⟨g, m * 2 + 1, none⟩ = some (q.d i))) (fun _ i _ => c - (intOf i).toNat)
      case atStart => exact ⟨0, by omega, rfl, ⟨ad, cap5, rfl, hcl, had⟩, pl0, fi0, be0, hgc⟩
      case round =>
        clear pl0 fi0 be0 hgc had hcl
        obtain ⟨t, ht, rfl, ⟨ad, c', rfl, hc', had⟩, hpl, hfi, hbe, hgc⟩ := hrel
        by_cases hlt2 : t < c
        · have hlt2' : (t : Int) < (c : Int) := by omega
          have f0 := hfi.cell hlt2
          cases hf : fl t with
          | some i =>
            rw [hf] at f0
            have f0' : wr.cell? ⟨w.heap.size + 1, t, none⟩ = some (.bool true) := f0
            clear f0
            have hun : un fl (t + 1) = un fl t := by rw [un, hf]; rfl
            have hpl2 : wr.rowIs w.heap.size 55 (c * 2) (plF q fun x => if x < t + 1 then some (sg fl O x) else fl x) := hpl.congr fun j _ => by
              simp only [plF]
              by_cases e : j / 2 = t
              · rw [e, if_neg (by omega), if_pos (by omega), hf]
                simp only [sg, hf]
              · by_cases e2 : j / 2 < t
                · rw [if_pos e2, if_pos (by omega)]
                · rw [if_neg e2, if_neg (by omega)]
            rw [← hun] at hc' had ⊢
            go_wp2
            go_roundw
            case rel => exact ⟨t + 1, by omega, by go_num, ⟨ad, c', rfl, hc', had⟩, hpl2, hfi, hbe, hgc⟩
            case measure => simp [intOf]; omega
          | none =>
            rw [hf] at f0
            have f0' : wr.cell? ⟨w.heap.size + 1, t, none⟩ = some (.bool false) := f0
            clear f0
            have hm := hroom t hlt2 hf
            have had' := had hm
            subst had'
            clear had
            have hun : un fl (t + 1) = un fl t + 1 := by rw [un, hf]; rfl
            have hsg : O[un fl t]? = some (sg fl O t) := by
              simp only [sg, hf]
              rw [List.getD_eq_getElem?_getD, List.getElem?_eq_getElem hm]
              rfl
            obtain ⟨g0, g1⟩ := hgc _ _ hsg
            have p0 := hpl.cell (i := t * 2) (by omega)
            have pf0 := hpl.frozen (t * 2)
            have p1 := (hpl.set (t * 2) (.int .i64 ((q.ix (sg fl O t) : Nat) : Int))).cell (i := t * 2 + 1) (by omega)
            have pf1 := (hpl.set (t * 2) (.int .i64 ((q.ix (sg fl O t) : Nat) : Int))).frozen (t * 2 + 1)
            have hpl2 := (put_col (p := t) (i := sg fl O t) hpl).congr (g := plF q fun x => if x < t + 1 then some (sg fl O x) else fl x) fun j _ => by
              simp only [plF]
              by_cases e : j / 2 = t
              · rw [e, if_pos rfl, if_pos (by omega)]
              · rw [if_neg e]
                by_cases e2 : j / 2 < t
                · rw [if_pos e2, if_pos (by omega)]
                · rw [if_neg e2, if_neg (by omega)]
            have hfi2 := (hfi.setOther (a := ⟨w.heap.size, t * 2, none⟩) (by show w.heap.size + 1 ≠ w.heap.size; omega) (.int .i64 ((q.ix (sg fl O t) : Nat) : Int))).setOther (a := ⟨w.heap.size, t * 2 + 1, none⟩) (by show w.heap.size + 1 ≠ w.heap.size; omega) (q.d (sg fl O t))
            have hbe2 := (hbe.setCell (p := ⟨w.heap.size, t * 2, none⟩) (Nat.le_refl _) (.int .i64 ((q.ix (sg fl O t) : Nat) : Int))).setCell (p := ⟨w.heap.size, t * 2 + 1, none⟩) (Nat.le_refl _) (q.d (sg fl O t))
            have hgc2 : ∀ m i, O[m]? = some i → ((wr.setCell ⟨w.heap.size, t * 2, none⟩ (.int .i64 ((q.ix (sg fl O t) : Nat) : Int))).setCell ⟨w.heap.size, t * 2 + 1, none⟩ (q.d (sg fl O t))).cell? ⟨g, m * 2, none⟩ = some (.int .i64 ((q.ix i : Nat) : Int)) ∧ ((wr.setCell ⟨w.heap.size, t * 2, none⟩ (.int .i64 ((q.ix (sg fl O t) : Nat) : Int))).setCell ⟨w.heap.size, t * 2 + 1, none⟩ (q.d (sg fl O t))).cell? ⟨g, m * 2 + 1, none⟩ = some (q.d i) := fun m i hm => by
              have e : ((wr.setCell ⟨w.heap.size, t * 2, none⟩ (.int .i64 ((q.ix (sg fl O t) : Nat) : Int))).setCell ⟨w.heap.size, t * 2 + 1, none⟩ (q.d (sg fl O t))).heap[g]? = wr.heap[g]? := by
                rw [heap_setCell_other _ _ _ _ (by show g ≠ w.heap.size; omega), heap_setCell_other _ _ _ _ (by show g ≠ w.heap.size; omega)]
              exact ⟨(World.cell?_of_block (a := ⟨g, m * 2, none⟩) e).trans (hgc m i hm).1, (World.cell?_of_block (a := ⟨g, m * 2 + 1, none⟩) e).trans (hgc m i hm).2⟩
            have hlen : ∃ r, O.length - un fl t = r + 1 ∧ O.length - un fl (t + 1) = r := ⟨O.length - un fl (t + 1), by omega, rfl⟩
            obtain ⟨r, hr1, hr2⟩ := hlen
            rw [hr1] at hc' ⊢
            clear hgc hsg hpl hfi hbe hroom hP1 hpd hi
            simp only [CL.d] at *
            generalize sg fl O t = z at *
            generalize q.ix z = x at *
            generalize hy0 : plF q (fun x => if x < t then some (sg fl O x) else fl x) (t * 2) = y0 at p0
            generalize hy1 : (if t * 2 + 1 = t * 2 then Value.int .i64 ((x : Nat) : Int) else plF q (fun x => if x < t then some (sg fl O x) else fl x) (t * 2 + 1)) = y1 at p1
            clear hy0 hy1
            go_wp2
            go_roundw
            case rel =>
              refine ⟨t + 1, by omega, by go_num, ⟨_, c' - 1, by rw [hr2], by omega, fun h => ?_⟩, hpl2, hfi2, hbe2, hgc2⟩
              rw [if_neg (by omega), hun, show (un fl t + 1) * 2 = un fl t * 2 + 2 by omega]
            case measure => simp [intOf]; omega
        · obtain rfl : t = c := by omega
          have hnl : ¬ ((t : Int) < (t : Int)) := by omega
          go_wp2
          go_ret
          exact ⟨sg fl O, rfl, hpd, hpl.congr fun j hj => by simp only [plF]; rw [if_pos (by omega)], hbe⟩
theorem place_any (k b cap : Nat) (q : CL) (w : World) (hk : k ≤ 128) (hx : ∀ i, i < k → q.ix i < 128) (hc : CAt w b k q) (hi : ∀ i j, i < k → j < k → i ≠ j → q.ix i ≠ q.ix j) :
    Calls Tryz.prog 74 #[.slice (some ⟨b, 0, none⟩) k cap] w fun e w' => PlacePost k q w e w' := place_at k b 0 cap q w hk hx hc.co hi
end Go.Proofs.YtlghjjennhpjeaaGreatDoor

/-
  Columns that are enough and may stand together: run alone.
-/
namespace Go.Proofs.YtlghjjennhpjeaaGreatDoor
open Go.RowKit Go.Deep

end Go.Proofs.YtlghjjennhpjeaaGreatDoor

/-
  In company: a multiple of one row of bytes is added to another.
-/
namespace Go.Proofs.YtlghjjennhpjeaaGreatDoor
open Go.Conc Go.RowKit Go.Gh
open Go.ConcR (Payload)

def bytesA (xs : List Nat) : Array Value := (xs.map fun x => (Value.int .u8 ((x : Nat) : Int))).toArray
theorem bytesA_get (xs : List Nat) (i : Nat) : (bytesA xs)[i]? = (xs[i]?).map fun x => Value.int .u8 ((x : Nat) : Int) := by simp [bytesA]
theorem bytesA_set (xs : List Nat) (i x : Nat) : (bytesA xs).setIfInBounds i (.int .u8 ((x : Nat) : Int)) = bytesA (xs.set i x) := by simp [bytesA, List.map_set]
/-- To each byte the byte of another row at its place, times f. -/
def addT (f : Nat) : List Nat → List Nat → List Nat
  | x :: xs, y :: ys => (x ^^^ mul y f) :: addT f xs ys
  | xs, _ => xs
theorem addT_nil (f : Nat) (xs : List Nat) : addT f xs [] = xs := by cases xs <;> rfl
theorem addT_length (f : Nat) : ∀ xs ys : List Nat, (addT f xs ys).length = xs.length
  | [], _ => by simp [addT]
  | _ :: _, [] => by simp [addT]
  | x :: xs, y :: ys => by simp [addT, addT_length f xs ys]
theorem addT_zero : ∀ xs ys : List Nat, addT 0 xs ys = xs
  | [], _ => rfl
  | _ :: _, [] => rfl
  | x :: xs, y :: ys => by simp [addT, addT_zero xs ys, mul_zero]
theorem addT_get (f : Nat) : ∀ (xs ys : List Nat) (i : Nat), ys.length ≤ i → (addT f xs ys)[i]? = xs[i]?
  | [], _, _, _ => by simp [addT]
  | _ :: _, [], _, _ => by simp [addT]
  | x :: xs, y :: ys, 0, h => by simp at h
  | x :: xs, y :: ys, i + 1, h => by simp [addT, addT_get f xs ys i (by simpa using h)]
theorem addT_step (f : Nat) : ∀ (xs ys : List Nat) (m x y : Nat), xs[m]? = some x → ys[m]? = some y → (addT f xs (ys.take m)).set m (x ^^^ mul y f) = addT f xs (ys.take (m + 1))
  | [], _, _, _, _, h, _ => by simp at h
  | _ :: _, [], _, _, _, _, h => by simp at h
  | a :: xs, b :: ys, 0, x, y, h1, h2 => by
    simp at h1 h2
    subst h1; subst h2
    simp [addT, addT_nil]
  | a :: xs, b :: ys, m + 1, x, y, h1, h2 => by
    simp [addT]
    simpa using addT_step f xs ys m x y (by simpa using h1) (by simpa using h2)
theorem addT_lt (f : Nat) (hf : f < 256) : ∀ xs ys : List Nat, (∀ x ∈ xs, x < 256) → (∀ y ∈ ys, y < 256) → ∀ z ∈ addT f xs ys, z < 256
  | [], _, _, _ => by simp [addT]
  | _ :: _, [], h, _ => by simpa [addT] using h
  | x :: xs, y :: ys, h1, h2 => by
    intro z hz
    simp only [addT, List.mem_cons] at hz
    rcases hz with rfl | hz
    · exact xor_lt (h1 x (by simp)) (mul_lt (h2 y (by simp)))
    · exact addT_lt f hf xs ys (fun a ha => h1 a (by simp [ha])) (fun a ha => h2 a (by simp [ha])) z hz

theorem upon_k {o : Oper} {a : Act} {X : Act → World → Prop} {r : Result Next} (h : ∀ K : Act → World → Prop, (∀ a' w', X a' w' → K a' w') → uponK o a K r) : uponK o a X r := h X fun _ _ x => x

section
variable [Payload] [OldG] {main : Bool} {Wg C n B : Nat} {Cl : Nat → Prop}

/-- The row that is written (a block of its own), and the one that is read. -/
structure AF (Wg C n B : Nat) (Cl : Nat → Prop) (w0 : World) (bl : Nat) (cur : List Nat) (bo oo : Nat) (ys : List Nat) (w : World) : Prop where
  bs : Bs C B w
  ex : Ex Wg C n B Cl (· = bl) w0 w
  ml : Mine w bl
  neC : bl ≠ C
  hB : B ≤ bl
  rdo : Rdb Wg C B w bo
  lto : bo < w.heap.size
  neo : bo ≠ bl
  hx : w.heap[bl]? = some (.cells (bytesA cur) 5)
  hy : ∀ i y, ys[i]? = some y → w.cell? ⟨bo, oo + i, none⟩ = some (.int .u8 ((y : Nat) : Int))
section
variable {w0 w w₁ : World} {bl bo oo : Nat} {cur ys : List Nat}
theorem AF.call (h : AF Wg C n B Cl w0 bl cur bo oo ys w) (hb : Bs C B w₁) (r : Ex Wg C n B Cl (fun _ => False) w w₁) : AF Wg C n B Cl w0 bl cur bo oo ys w₁ :=
  ⟨hb, h.ex.trans (r.weaken fun _ => False.elim), r.own _ h.ml, h.neC, h.hB, r.rdb h.rdo, Nat.lt_of_lt_of_le h.lto r.size, h.neo, (r.mine _ h.ml id).trans h.hx, fun i y e => by
    rw [← h.hy i y e]; simp only [World.cell?, r.stands h.rdo id]⟩
theorem AF.rely (h : AF Wg C n B Cl w0 bl cur bo oo ys w) (r : Ro Wg C n B Cl w w₁) : AF Wg C n B Cl w0 bl cur bo oo ys w₁ := h.call (h.bs.rely r) r.ex
/-- One byte is written. -/
theorem AF.set (h : AF Wg C n B Cl w0 bl cur bo oo ys w) (i x : Nat) : AF Wg C n B Cl w0 bl (cur.set i x) bo oo ys (w.setCell ⟨bl, i, none⟩ (.int .u8 ((x : Nat) : Int))) :=
  ⟨h.bs.set _ _, h.ex.trans (Ex.set h.neC rfl (fun hh => by have := h.hB; dsimp only at hh; omega)), mine_grow (w := w) (w' := w.setCell _ _) rfl (by rw [sz_set]; omega) h.ml, h.neC, h.hB,
    h.rdo.imp (fun x => mine_grow (w := w) (w' := w.setCell _ _) rfl (by rw [sz_set]; omega) x) id, by rw [sz_set]; exact h.lto, h.neo, by rw [heap_set w h.hx, bytesA_set], fun i y e => by
    rw [World.cell?_setCell_other _ _ _ _ (by intro e; injection e with e1; exact h.neo e1.symm)]; exact h.hy i y e⟩
end
/-- .. with the table. -/
structure AG (Wg C n B : Nat) (Cl : Nat → Prop) (w0 : World) (bl : Nat) (cur : List Nat) (bo oo : Nat) (ys : List Nat) (N6 : Nat) (T : Array Value) (w : World) : Prop where
  af : AF Wg C n B Cl w0 bl cur bo oo ys w
  m6 : Mine w N6
  n6 : N6 ≠ bl
  h6 : w.heap[N6]? = some (.cells T 197)
section
variable {w0 w w₁ : World} {bl bo oo N6 : Nat} {T : Array Value} {cur ys : List Nat}
theorem AG.rely (h : AG Wg C n B Cl w0 bl cur bo oo ys N6 T w) (r : Ro Wg C n B Cl w w₁) : AG Wg C n B Cl w0 bl cur bo oo ys N6 T w₁ := ⟨h.af.rely r, (r.mineAt _).2 h.m6, h.n6, (r.mine _ h.m6).trans h.h6⟩
theorem AG.draw (h : AG Wg C n B Cl w0 bl cur bo oo ys N6 T w) (d : Nat) : AG Wg C n B Cl w0 bl cur bo oo ys N6 T { w with drawn := d } :=
  ⟨⟨⟨h.af.bs.tg, h.af.bs.hC, h.af.bs.hB, h.af.bs.ow⟩, ⟨h.af.ex.size, h.af.ex.tape, h.af.ex.os, h.af.ex.tag, h.af.ex.own, h.af.ex.mine, h.af.ex.low, h.af.ex.cell, h.af.ex.pay⟩, h.af.ml, h.af.neC, h.af.hB, h.af.rdo, h.af.lto, h.af.neo, h.af.hx, h.af.hy⟩, h.m6, h.n6, h.h6⟩
theorem AG.tab {f : Nat} (hT : ptab f 256 = T) (h : AG Wg C n B Cl w0 bl cur bo oo ys N6 T w) {x : Nat} (hx : x < 256) : w.cell? ⟨N6, x, none⟩ = some (.int .u8 ((mul x f : Nat) : Int)) := by
  rw [cell_of _ h.h6, ← hT, ptab_get _ _ _ hx, if_pos hx]
theorem AG.at (h : AG Wg C n B Cl w0 bl cur bo oo ys N6 T w) {i x : Nat} (hx : cur[i]? = some x) : w.cell? ⟨bl, i, none⟩ = some (.int .u8 ((x : Nat) : Int)) := by
  rw [cell_of _ h.af.hx, bytesA_get, hx]; rfl
theorem AG.set (h : AG Wg C n B Cl w0 bl cur bo oo ys N6 T w) (i x : Nat) : AG Wg C n B Cl w0 bl (cur.set i x) bo oo ys N6 T (w.setCell ⟨bl, i, none⟩ (.int .u8 ((x : Nat) : Int))) :=
  ⟨h.af.set i x, mine_grow (w := w) (w' := w.setCell _ _) rfl (by rw [sz_set]; omega) h.m6, h.n6, (Below.heap_setCell _ _ _ _ h.n6).trans h.h6⟩
theorem AF.alloc (h : AF Wg C n B Cl w0 bl cur bo oo ys w) (T : Array Value) : AG Wg C n B Cl w0 bl cur bo oo ys w.heap.size T (w.alloc (.cells T 197)) :=
  ⟨h.call (h.bs.alloc _) (Ex.alloc h.bs.hC h.bs.hB (fun _ x => h.bs.lt x) _), mine_fresh (w := w) (w' := w.alloc _) rfl h.bs.tg (Nat.le_refl _) (by rw [sz_alloc]; omega), by have := h.bs.lt h.ml; omega, heap_new w _⟩
theorem AG.row {T' : Array Value} (h : AG Wg C n B Cl w0 bl cur bo oo ys N6 T' w) (hneo : bo ≠ N6) (h0 : Bs C B w0) (hN : w0.heap.size ≤ N6) (T : Array Value) : AG Wg C n B Cl w0 bl cur bo oo ys N6 T (w.setRow N6 T) :=
  ⟨⟨h.af.bs.row _ _, ex_row h.af.ex h0 hN _, mine_grow (w := w) (w' := w.setRow _ _) rfl (by rw [sz_row]; omega) h.af.ml, h.af.neC, h.af.hB, h.af.rdo.imp (fun x => mine_grow (w := w) (w' := w.setRow _ _) rfl (by rw [sz_row]; omega) x) id,
    by rw [sz_row]; exact h.af.lto, h.af.neo, (heap_row_other w _ (Ne.symm h.n6)).trans h.af.hx, fun i y e => by rw [cell_row_other w _ (by exact hneo)]; exact h.af.hy i y e⟩,
    mine_grow (w := w) (w' := w.setRow _ _) rfl (by rw [sz_row]; omega) h.m6, h.n6, heap_row _ h.h6⟩
end

/-- The length (a name, so that the walk's reckoning leaves it alone). -/
def LenIs (ys : List Nat) (k : Nat) : Prop := ys.length = k
def AI (Wg C n B : Nat) (Cl : Nat → Prop) (w0 : World) (bl nl cl : Nat) (xs : List Nat) (bs : Option Addr) (bo oo co : Nat) (ys : List Nat) (N6 : Nat) (T : Array Value) (f k : Nat) (a : Act) (w : World) : Prop :=
  ∃ (m : Nat) (v3 v4 v5 v7 v8 v9 v10 v11 v12 v16 v17 v18 v19 v20 v21 v22 v23 v24 v25 v26 v27 v28 v29 : Value), m ≤ k ∧ AG Wg C n B Cl w0 bl (addT f xs (ys.take m)) bo oo ys N6 T w ∧ a = { tmps := #[.slice (some ⟨bl, 0, none⟩) nl cl, .int .u8 (f : Int), .slice bs k co, v3, v4, v5, .pointer (some ⟨N6, 0, none⟩), v7, v8, v9, v10, v11, v12, .slice bs k co, .int .i64 ((k : Nat) : Int), .int .i64 ((m : Nat) : Int), v16, v17, v18, v19, v20, v21, v22, v23, v24, v25, v26, v27, v28, v29], defers := [] }
def muA (k : Nat) (a : Act) (_ : World) : Nat := match a.tmps.getD 15 undef with | .int _ j => k - j.toNat | _ => 0

set_option maxRecDepth 100000 in
set_option maxHeartbeats 2000000 in
theorem addTimes_c (k : Nat) : ∃ q, ∀ (w : World) (bs : Option Addr) (bl nl cl bo oo co f : Nat) (xs ys : List Nat), (0 < k → bs = some ⟨bo, oo, none⟩) → f < 256 → (∀ x ∈ xs, x < 256) → (∀ y ∈ ys, y < 256) → LenIs xs nl → k ≤ nl → LenIs ys k → nl ≤ maxLen → AF Wg C n B Cl w bl xs bo oo ys w →
    CallsC Tryz.prog main (Ro Wg C n B Cl) (Dg Wg C n B Cl) 110 #[.slice (some ⟨bl, 0, none⟩) nl cl, .int .u8 (f : Int),   .slice bs k co] q w fun v w' => v = .tuple #[] ∧ AF Wg C n B Cl w bl (addT f xs ys) bo oo ys w' := by
  obtain ⟨kp, hp⟩ := products_c (main := main) (Wg := Wg) (C := C) (n := n) (B := B) (Cl := Cl)
  co_apply Exists.intro
  intro w bs bl nl cl bo oo co f xs ys hbs hf hxs hys hnl hle hk hmax hF
  have hbw := hF.bs
  co_apply callsC_of_wpC Tryz.func110 (by rfl) rfl
  simp only [Tryz.ntmps110, List.size_toArray, List.length_cons, List.length_nil, Nat.reduceAdd, Nat.reduceSub, Array.replicate_succ, Array.replicate_zero, List.push_toArray, List.append_toArray, List.nil_append, List.cons_append]
  co_apply wpC_seq termsG
  co_apply wpC_seq termsG
  co_reg termsG
  co_op AF.rely hF (co_quiet termsG)
  co_op AF.rely hF (co_quiet termsG)
  co_apply opsC_nil termsG
  co_then
  co_split termsG ((f : Int) == 0)
  · intro h0
    obtain rfl : f = 0 := by have : (f : Int) = 0 := by simpa using h0
                             omega
    co_apply wpC_ret termsG
    exact ⟨rfl, _, resultsC_none (by rfl) _, rfl, by rw [addT_zero]; exact hF⟩
  · intro h0
    clear h0
    co_ctl termsG
    co_then
    co_apply wpC_seq termsG
    co_reg termsG
    co_op AF.rely hF (co_quiet termsG)
    co_apply opsC_callG termsG rfl (by rfl) rfl
    · walk_nrm
      exact hp _ _ hf hF.bs
    rintro v w' ⟨rfl, hb', hex⟩
    replace hF := hF.call hb' hex
    clear hb' hex
    obtain ⟨T, hT, hTs, hT1⟩ : ∃ T, ptab f 256 = T ∧ T.size = 256 ∧ ∀ v ∈ T, v.oneCell' = true := ⟨_, rfl, ptab_size f _, ptab_one f _⟩
    simp only [hT]
    walk_nrm
    co_opw AF.rely hF (skip) (rw [listed_nil (by simp [go_sem])]; exact dg_alloc hF.bs.hC _ rfl)
    have hlo := hF.ex.size
    have hlt := hF.lto
    replace hF := hF.alloc Tryz.zeroCells197
    generalize hN6 : Array.size (World.heap _) = N6 at hF hlo hlt ⊢
    clear hN6
    co_apply opsC_cons rfl (by rfl)
    intro w₁ r
    replace hF := hF.rely r
    clear r
    have hz : Tryz.zeroCells197.size = 256 := by rw [ptab_zero f]; exact ptab_size f 0
    have hrun := run_store256 (c' := T) hF.h6 hz hTs hT1
    rw [run_op_store (v := .agg T) rfl rfl rfl hrun]
    simp only [uponK_skip]
    have hn6C : N6 ≠ C := by have := hbw.hC; omega
    refine ⟨?_, ?_⟩
    · unfold listed
      rw [ev_op_store (v := .agg T) rfl rfl rfl]
      exact dg_row hF.m6 hn6C (hF.af.bs.lt hF.m6) (fun e he => ev_store256 (c' := T) hF.h6 hz hTs hT1 e (mem_seen he))
    clear hrun
    replace hF := hF.row (by omega) hbw hlo T
    walk_nrm
    co_apply opsC_nil termsG
    co_then
    co_apply wpC_seq termsG
    co_reg termsG
    co_op AG.rely hF (co_quiet termsG)
    co_op AG.rely hF (co_quiet termsG)
    co_op AG.rely hF (co_quiet termsG)
    co_apply opsC_nil termsG
    co_then
    co_apply wpC_block termsG
    co_apply wpC_loop termsG (AI Wg C n B Cl w bl nl cl xs bs bo oo co ys N6 T f k) (muA k) _ k
    · exact ⟨0, _, _, _, _, _, _, _, _, _, _, _, _, _, _, _, _, _, _, _, _, _, _, _, Nat.zero_le _, by rw [List.take_zero, addT_nil]; exact hF, rfl⟩
    · simp [muA]
    rintro a w' ⟨m, v3, v4, v5, v7, v8, v9, v10, v11, v12, v16, v17, v18, v19, v20, v21, v22, v23, v24, v25, v26, v27, v28, v29, hm, hF, rfl⟩
    co_apply wpC_seq termsG
    co_reg termsG
    co_op AG.rely hF (co_quiet termsG)
    co_apply opsC_nil termsG
    co_then
    co_apply wpC_seq termsG
    co_split termsG (decide ((m : Int) < (k : Int)))
    · intro hml
      have hml' : m < k := by have := of_decide_eq_true hml; omega
      clear hml
      obtain rfl : bs = some ⟨bo, oo, none⟩ := hbs (by omega)
      obtain ⟨y, hy⟩ : ∃ y, ys[m]? = some y := ⟨ys[m]'(by rw [show ys.length = k from hk]; exact hml'), by simp⟩
      obtain ⟨x, hx⟩ : ∃ x, xs[m]? = some x := ⟨xs[m]'(by rw [show xs.length = nl from hnl]; omega), by simp⟩
      have hy256 : y < 256 := hys y (List.mem_of_getElem? hy)
      have hx256 : x < 256 := hxs x (List.mem_of_getElem? hx)
      have hcx : (addT f xs (ys.take m))[m]? = some x := by rw [addT_get f xs _ m (by simp; omega)]; exact hx
      have hmI : (m : Int) < (k : Int) := by omega
      have hmN : (m : Int) < (nl : Int) := by omega
      have hyI : (y : Int) < 256 := by omega
      have hmul : mul y f < 256 := mul_lt hy256
      co_ctl termsG
      co_then
      co_apply wpC_seq termsG
      co_apply wpC_block termsG
      co_apply wpC_seq termsG
      co_reg termsG
      co_op AG.rely hF (co_quiet termsG)
      co_opw AG.rely hF (skip) (co_still termsG)
      co_opw AG.rely hF (have hc := hF.af.hy m y hy) (refine dg_read hF.af.rdo hF.af.lto ?_; co_evs (exact ⟨_, rfl, rfl⟩))
      clear hc
      co_op AG.rely hF (co_quiet termsG)
      co_op AG.rely hF (co_quiet termsG)
      co_apply opsC_nil termsG
      co_then
      co_apply wpC_region_any (nf := 0) (S := AG Wg C n B Cl w bl (addT f xs (ys.take m)) bo oo ys N6 T) (lst := 9) termsG drawG (by first | kernel_rfl | rfl)
      intro w₁ r
      replace hF := (hF.rely r).draw (w₁.drawn + 1)
      clear r
      simp only [List.size_toArray, List.length_cons, List.length_nil, Nat.reduceAdd, Nat.zero_add]
      have hix : ∀ (w : World) (es : Array Event), (Instr.indexAt 197 (.pointer (some ⟨N6, 0, none⟩)) (.int .u8 (y : Int))).events Tryz.prog w es = es := fun w es => events_indexAt_array _ _ _ _ _ _ Tryz.underlying197 ⟨by omega, by omega⟩
      co_applyP anyX_take termsG (fun _ _ h r => AG.rely h r) (fun _ _ _ h r => wpC_rely termsG h r) (i := 0) rfl (by kernel_rfl) (by kernel_rfl) (by kernel_rfl) (by kernel_rfl) (by kernel_rfl) (.inl ⟨by rfl, fun _ hw => ⟨run_eq_of ?run0, ?guar0⟩⟩) hF ?rest0
      case run0 =>
        intro K hK
        skip
        go_simp
        exact hK
      case guar0 =>
        skip
        co_quiet termsG
      try walk_nrm
      co_applyP anyX_take termsG (fun _ _ h r => AG.rely h r) (fun _ _ _ h r => wpC_rely termsG h r) (i := 1) rfl (by kernel_rfl) (by kernel_rfl) (by kernel_rfl) (by kernel_rfl) (by kernel_rfl) (.inl ⟨by rfl, fun _ hw => ⟨run_eq_of ?run1, ?guar1⟩⟩) hF ?rest1
      case run1 =>
        intro K hK
        skip
        go_simp
        exact hK
      case guar1 =>
        skip
        co_quiet termsG
      try walk_nrm
      co_applyP anyX_take termsG (fun _ _ h r => AG.rely h r) (fun _ _ _ h r => wpC_rely termsG h r) (i := 2) rfl (by kernel_rfl) (by kernel_rfl) (by kernel_rfl) (by kernel_rfl) (by kernel_rfl) (.inl ⟨by rfl, fun _ hw => ⟨run_eq_of ?run2, ?guar2⟩⟩) hF ?rest2
      case run2 =>
        intro K hK
        skip
        go_simp
        exact hK
      case guar2 =>
        skip
        co_still termsG
      try walk_nrm
      co_applyP anyX_take termsG (fun _ _ h r => AG.rely h r) (fun _ _ _ h r => wpC_rely termsG h r) (i := 3) rfl (by kernel_rfl) (by kernel_rfl) (by kernel_rfl) (by kernel_rfl) (by kernel_rfl) (.inl ⟨by rfl, fun _ hw => ⟨run_eq_of ?run3, ?guar3⟩⟩) hF ?rest3
      case run3 =>
        intro K hK
        have hc := hw.at hcx
        go_simp
        exact hK
      case guar3 =>
        have hc := hw.at hcx
        refine dg_read (.inl hw.af.ml) (hw.af.bs.lt hw.af.ml) ?_; co_evs (exact ⟨_, rfl, rfl⟩)
      try walk_nrm
      co_applyP anyX_take termsG (fun _ _ h r => AG.rely h r) (fun _ _ _ h r => wpC_rely termsG h r) (i := 4) rfl (by kernel_rfl) (by kernel_rfl) (by kernel_rfl) (by kernel_rfl) (by kernel_rfl) (.inl ⟨by rfl, fun _ hw => ⟨run_eq_of ?run4, ?guar4⟩⟩) hF ?rest4
      case run4 =>
        intro K hK
        skip
        go_simp
        exact hK
      case guar4 =>
        skip
        co_quiet termsG
      try walk_nrm
      co_applyP anyX_take termsG (fun _ _ h r => AG.rely h r) (fun _ _ _ h r => wpC_rely termsG h r) (i := 5) rfl (by kernel_rfl) (by kernel_rfl) (by kernel_rfl) (by kernel_rfl) (by kernel_rfl) (.inl ⟨by rfl, fun _ hw => ⟨run_eq_of ?run5, ?guar5⟩⟩) hF ?rest5
      case run5 =>
        intro K hK
        skip
        go_simp
        exact hK
      case guar5 =>
        skip
        co_still termsG
      try walk_nrm
      co_applyP anyX_take termsG (fun _ _ h r => AG.rely h r) (fun _ _ _ h r => wpC_rely termsG h r) (i := 6) rfl (by kernel_rfl) (by kernel_rfl) (by kernel_rfl) (by kernel_rfl) (by kernel_rfl) (.inl ⟨by rfl, fun _ hw => ⟨run_eq_of ?run6, ?guar6⟩⟩) hF ?rest6
      case run6 =>
        intro K hK
        have hc := hw.tab hT hy256
        go_simp
        exact hK
      case guar6 =>
        have hc := hw.tab hT hy256
        refine dg_read (.inl hw.m6) (hw.af.bs.lt hw.m6) ?_; co_evs (exact ⟨_, rfl, rfl⟩)
      try walk_nrm
      co_applyP anyX_take termsG (fun _ _ h r => AG.rely h r) (fun _ _ _ h r => wpC_rely termsG h r) (i := 7) rfl (by kernel_rfl) (by kernel_rfl) (by kernel_rfl) (by kernel_rfl) (by kernel_rfl) (.inl ⟨by rfl, fun _ hw => ⟨run_eq_of ?run7, ?guar7⟩⟩) hF ?rest7
      case run7 =>
        intro K hK
        skip
        go_simp
        exact hK
      case guar7 =>
        skip
        co_quiet termsG
      try walk_nrm
      co_applyP anyX_take termsG (fun _ _ h r => AG.rely h r) (fun _ _ _ h r => wpC_rely termsG h r) (i := 8) rfl (by kernel_rfl) (by kernel_rfl) (by kernel_rfl) (by kernel_rfl) (by kernel_rfl) (.inl ⟨by rfl, fun _ hw => ⟨run_eq_of ?run8, ?guar8⟩⟩) hF ?rest8
      case run8 =>
        intro K hK
        skip
        go_simp
        exact hK
      case guar8 =>
        skip
        co_still termsG
      try walk_nrm
      co_applyP anyX_one (i := 9) (by kernel_rfl)
      refine ⟨_, rfl, .inl ⟨by rfl, ?_⟩⟩
      intro w₂ r
      replace hF := hF.rely r
      clear r
      refine upon_k ?_
      intro K hK
      have hc := hF.at hcx
      have hz := thaw_of _ hF.af.hx m
      go_simp
      try (unfold stored; go_simp)
      refine hK _ _ ⟨?_, fun h => absurd rfl h, ?_⟩
      · refine dg_set hF.af.ml hF.af.neC (hF.af.bs.lt hF.af.ml) ?_
        co_evs (exact ⟨_, _, rfl, rfl⟩)
      clear hK K hc hz
      replace hF := hF.set m (x ^^^ mul y f)
      rw [addT_step f xs ys m x y hx hy, ← u8_xor_nat _ _ hx256 hmul] at hF
      refine anyX_done (by kernel_rfl) ?_ _
      co_then
      co_reg termsG
      co_op AG.rely hF (co_quiet termsG)
      co_op AG.rely hF (co_quiet termsG)
      co_apply opsC_nil termsG
      co_then
      have hw1 : IntKind.i64.wrap ((m : Int) + 1) = ((m + 1 : Nat) : Int) := by
        have : nl ≤ 9223372036854775807 := by simpa [maxLen] using hmax
        rw [IntKind.wrap_i64]; omega
      simp only [hw1]
      refine ⟨⟨m + 1, _, _, _, _, _, _, _, _, _, _, _, _, _, _, _, _, _, _, _, _, _, _, _, by omega, hF, rfl⟩, ?_⟩
      simp [muA]
      omega
    · intro hml
      have hmk : m = k := by have := of_decide_eq_false hml; omega
      have hall : ys.take m = ys := List.take_of_length_le (by rw [show ys.length = k from hk]; omega)
      co_ctl termsG
      co_then
      exact ⟨rfl, _, resultsC_none (by rfl) _, rfl, by rw [hall] at hF; exact hF.af⟩
end
end Go.Proofs.YtlghjjennhpjeaaGreatDoor
