/-
  The columns that the statement lays up: run alone.
-/
import Derived.Test.YtkpcmfgeanlcnaaSvJ
import Derived.Lib.OwnKind
import Derived.Deep.Onto
namespace Go.Proofs.Ytkpcmfgeanlcnaa
open Go.RowKit Go.Deep

def byt (z : Int) : Nat := (z % 256).toNat
theorem byt_lt (z : Int) : byt z < 256 := by unfold byt; omega
theorem byt_wrap (z : Int) : IntKind.u8.wrap z = ((byt z : Nat) : Int) := by
  have : IntKind.u8.wrap z = z % 256 := by simp [IntKind.wrap, IntKind.bits, IntKind.signed]
  rw [this]
  unfold byt
  omega
/-- The byte at place m of column i. -/
def rb (zs : List Int) (L i m : Nat) : Nat := if zs.length = 0 then byt 0 else byt (zs.getD ((i * L + m) % zs.length) 0)
theorem rb_lt (zs : List Int) (L i m : Nat) : rb zs L i m < 256 := by unfold rb; split <;> exact byt_lt _
def rbV (zs : List Int) (L i m : Nat) : List Value := (List.range m).map fun j => .int .u8 ((rb zs L i j : Nat) : Int)
theorem rbV_snoc (zs : List Int) (L i m : Nat) : rbV zs L i (m + 1) = rbV zs L i m ++ [.int .u8 ((rb zs L i m : Nat) : Int)] := by simp [rbV, List.range_succ]
def clV (xs : List Nat) (D : Nat → Value) (i : Nat) : List Value := (List.range i).flatMap fun j => [.int .i64 ((xs.getD j 0 : Nat) : Int), D j]
theorem clV_snoc (xs : List Nat) (D : Nat → Value) (i : Nat) : clV xs D (i + 1) = clV xs D i ++ [.int .i64 ((xs.getD i 0 : Nat) : Int), D i] := by simp [clV, List.range_succ]
theorem clV_congr {xs : List Nat} {D D' : Nat → Value} {i : Nat} (h : ∀ j, j < i → D j = D' j) : clV xs D i = clV xs D' i := by
  induction i with
  | zero => rfl
  | succ i ih => rw [clV_snoc, clV_snoc, ih fun j hj => h j (by omega), h i (by omega)]

/-- Behind i columns. -/
structure Lay (w0 : World) (zs : List Int) (xs : List Nat) (L i : Nat) (vc : Value) (D : Nat → Value) (w : World) : Prop where
  cols : w.ownsRow w0.heap.size 43 2 vc i (clV xs D i)
  data : ∀ j, j < i → w.ownsRow w0.heap.size 5 1 (D j) L (rbV zs L j L)
  below : Below w0.heap.size w0 w
theorem lay_start (w0 : World) (zs : List Int) (xs : List Nat) (L : Nat) (D : Nat → Value) : Lay w0 zs xs L 0 (.slice none 0 0) D w0 := ⟨World.ownsRow_nil _ _ _ _, fun _ h => absurd h (by omega), Below.refl _ _⟩

/-- Within a round: the variable c at block M, m bytes of its data. -/
structure Lay2 (w0 : World) (zs : List Int) (xs : List Nat) (L i M m : Nat) (vc : Value) (D : Nat → Value) (dv : Value) (w : World) : Prop where
  lay : Lay w0 zs xs L i vc D w
  var : w.rowIs M 43 2 (fun j => if j = 0 then .int .i64 ((xs.getD i 0 : Nat) : Int) else dv)
  own : w.ownsRow (M + 1) 5 1 dv m (rbV zs L i m)
  low : ∀ j, j < i → ∀ g, (D j).ownBlock = some g → g < M
  lowc : ∀ g, vc.ownBlock = some g → g < M
  base : w0.heap.size ≤ M
  lt : M < w.heap.size
theorem owns_keep {w w' : World} {B e s n : Nat} {v : Value} {xs : List Value} (h : w.ownsRow B e s v n xs) (hk : ∀ g, v.ownBlock = some g → w'.heap[g]? = w.heap[g]?) (_ : w.heap.size ≤ w'.heap.size) : w'.ownsRow B e s v n xs := by
  refine ⟨h.1, ?_⟩
  rcases h.2 with h1 | ⟨g, cap, cur, h1, h2, h3, h4⟩
  · exact .inl h1
  · exact .inr ⟨g, cap, cur, h1, h2, by rw [hk g (by rw [h1]; rfl)]; exact h3, h4⟩
/-- What lies below stands. -/
theorem Lay.keep {w0 w w' : World} {zs : List Int} {xs : List Nat} {L i M : Nat} {vc : Value} {D : Nat → Value} (h : Lay w0 zs xs L i vc D w) (hM : w0.heap.size ≤ M) (hc : ∀ g, vc.ownBlock = some g → g < M) (hd : ∀ j, j < i → ∀ g, (D j).ownBlock = some g → g < M) (hb : Below M w w') : Lay w0 zs xs L i vc D w' :=
  ⟨owns_keep h.cols (fun g hg => hb.block g (hc g hg)) hb.size, fun j hj => owns_keep (h.data j hj) (fun g hg => hb.block g (hd j hj g hg)) hb.size, h.below.trans (hb.mono hM)⟩

/-- A byte more: the slice, the variable. -/
theorem Lay2.more {w0 w wa w1 : World} {zs : List Int} {xs : List Nat} {L i M m : Nat} {vc : Value} {D : Nat → Value} {dv v' : Value} (h : Lay2 w0 zs xs L i M m vc D dv w) (ha : Below w.heap.size w wa) (hg : wa.grownBy w1 dv.ownBlock) (ho : w1.ownsRow (M + 1) 5 1 v' (m + 1) (rbV zs L i m ++ [.int .u8 ((rb zs L i m : Nat) : Int)])) :
    Lay2 w0 zs xs L i M (m + 1) vc D v' (w1.setCell ⟨M, 1, none⟩ v') ∧ w1.cell? ⟨M, 1, none⟩ = some dv ∧ w1.frozen? ⟨M, 1, none⟩ = false := by
  have hlt := h.lt
  have k1 : ∀ g, g < M + 1 → w1.heap[g]? = w.heap[g]? := fun g hg' => by
    rw [hg.block g (by have := ha.size; omega) (fun e => by have := (h.own.lt g e.symm).1; omega)]
    exact ha.block g (by omega)
  have hb : Below M w (w1.setCell ⟨M, 1, none⟩ v') := by
    refine ⟨hg.os.trans ha.os, hg.tape.trans ha.tape, hg.output.trans ha.output, by have := ha.size; have := hg.size; simp; omega, fun g hg' => ?_⟩
    rw [heap_setCell_other _ _ _ _ (by show g ≠ M; omega)]
    exact k1 g (by omega)
  have v1 := h.var.of_block (k1 M (by omega))
  refine ⟨⟨h.lay.keep h.base h.lowc h.low hb, ?_, ?_, h.low, h.lowc, h.base, by have := ha.size; have := hg.size; simp; omega⟩, ?_, v1.frozen 1⟩
  · refine (v1.set 1 v').congr fun j hj => ?_
    have : j = 0 ∨ j = 1 := by omega
    rcases this with rfl | rfl <;> rfl
  · rw [rbV_snoc]
    exact ownsRow_setCell_below ho (a := ⟨M, 1, none⟩) (by show M < M + 1; omega) v'
  · have := v1.cell (i := 1) (by omega)
    exact this

def updD (D : Nat → Value) (i : Nat) (v : Value) (j : Nat) : Value := if j = i then v else D j
/-- A column more. -/
theorem Lay2.col {w0 w wa w1 : World} {zs : List Int} {xs : List Nat} {L i M : Nat} {vc : Value} {D : Nat → Value} {dv v' : Value} (h : Lay2 w0 zs xs L i M L vc D dv w) (ha : Below w.heap.size w wa) (hg : wa.grownBy w1 vc.ownBlock) (ho : w1.ownsRow w0.heap.size 43 2 v' (i + 1) (clV xs D i ++ [.int .i64 ((xs.getD i 0 : Nat) : Int), dv])) :
    Lay w0 zs xs L (i + 1) v' (updD D i dv) w1 := by
  have hlt := h.lt
  have hb := h.base
  have key : ∀ (u : Value) (B n : Nat) (ys : List Value), w.ownsRow B 5 1 u n ys → w1.ownsRow B 5 1 u n ys := fun u B n ys hu => by
    refine owns_keep hu (fun g hg' => ?_) (Nat.le_trans ha.size hg.size)
    have hgl := (hu.lt g hg').2
    rw [hg.block g (by have := ha.size; omega) (fun e => ?_)]
    · exact ha.block g hgl
    · obtain ⟨c1, f1, e1⟩ := Lib.ownsRow_kind hu g hg'
      obtain ⟨c2, f2, e2⟩ := Lib.ownsRow_kind h.lay.cols g e.symm
      rw [e1] at e2
      cases e2
  refine ⟨?_, fun j hj => ?_, ?_⟩
  · rw [clV_snoc, clV_congr (D' := D) (fun j hj => by rw [updD, if_neg (by omega)]), updD, if_pos rfl]
    exact ho
  · by_cases e : j = i
    · subst e
      rw [updD, if_pos rfl]
      exact (key _ _ _ _ h.own).mono (by omega)
    · rw [updD, if_neg e]
      exact key _ _ _ _ (h.lay.data j (by omega))
  · exact (h.lay.below.trans (ha.mono (by omega))).grown hg (by have := ha.size; omega) (fun g hg' => (h.lay.cols.lt g hg').1)
-- What stands when Rebuild is called.
set_option maxRecDepth 100000 in
def TSol (p Rb N L bc K cap : Nat) (T : Array Value) : Prop := ∃ f : Nat → Value, T = #[f 0, f 1, f 2, f 3, f 4, f 5, f 6, f 7, f 8, f 9, f 10, .pointer (some ⟨p, 0, none⟩), .slice (some ⟨Rb, 0, none⟩) N N, f 13, f 14, .int .i64 (L : Int), .slice (some ⟨bc, 0, none⟩) K cap, f 17, f 18, f 19, f 20, f 21, f 22, f 23, f 24, f 25, f 26, f 27, f 28, f 29, f 30, f 31, f 32, f 33, f 34, f 35, f 36, f 37, f 38, f 39, f 40, f 41, f 42, f 43, f 44, f 45, f 46, f 47, f 48, f 49, f 50, f 51, f 52, f 53, f 54, f 55, f 56, f 57, f 58, f 59, f 60, f 61, f 62, f 63, f 64, f 65, f 66, f 67, f 68, f 69, f 70, f 71, f 72, f 73, f 74, f 75, f 76, f 77, f 78, f 79, f 80, f 81, f 82, f 83, f 84, f 85, f 86, f 87, f 88, f 89, f 90, f 91, f 92, f 93, f 94, f 95, f 96, f 97, f 98, f 99, f 100, f 101, f 102, f 103, f 104, f 105, f 106, f 107, f 108, f 109, f 110, f 111, f 112, f 113, f 114, f 115, f 116, f 117, f 118, f 119, f 120, f 121, f 122, f 123, f 124, f 125, f 126, f 127, f 128, f 129, f 130, f 131, f 132, f 133, f 134, f 135, f 136, f 137, f 138, f 139, f 140, f 141, f 142, f 143, f 144, f 145, f 146, f 147, f 148, f 149, f 150, f 151, f 152, f 153, f 154, f 155, f 156, f 157, f 158, f 159, f 160, f 161, f 162, f 163, f 164, f 165, f 166, f 167, f 168, f 169, f 170, f 171, f 172, f 173, f 174, f 175, f 176, f 177, f 178, f 179, f 180, f 181, f 182, f 183, f 184, f 185, f 186, f 187, f 188, f 189, f 190, f 191]
set_option maxRecDepth 100000 in
theorem tsol_mk {p Rb N L bc K cap : Nat} {T : Array Value} (h : T = #[T.getD 0 undef, T.getD 1 undef, T.getD 2 undef, T.getD 3 undef, T.getD 4 undef, T.getD 5 undef, T.getD 6 undef, T.getD 7 undef, T.getD 8 undef, T.getD 9 undef, T.getD 10 undef, .pointer (some ⟨p, 0, none⟩), .slice (some ⟨Rb, 0, none⟩) N N, T.getD 13 undef, T.getD 14 undef, .int .i64 (L : Int), .slice (some ⟨bc, 0, none⟩) K cap, T.getD 17 undef, T.getD 18 undef, T.getD 19 undef, T.getD 20 undef, T.getD 21 undef, T.getD 22 undef, T.getD 23 undef, T.getD 24 undef, T.getD 25 undef, T.getD 26 undef, T.getD 27 undef, T.getD 28 undef, T.getD 29 undef, T.getD 30 undef, T.getD 31 undef, T.getD 32 undef, T.getD 33 undef, T.getD 34 undef, T.getD 35 undef, T.getD 36 undef, T.getD 37 undef, T.getD 38 undef, T.getD 39 undef, T.getD 40 undef, T.getD 41 undef, T.getD 42 undef, T.getD 43 undef, T.getD 44 undef, T.getD 45 undef, T.getD 46 undef, T.getD 47 undef, T.getD 48 undef, T.getD 49 undef, T.getD 50 undef, T.getD 51 undef, T.getD 52 undef, T.getD 53 undef, T.getD 54 undef, T.getD 55 undef, T.getD 56 undef, T.getD 57 undef, T.getD 58 undef, T.getD 59 undef, T.getD 60 undef, T.getD 61 undef, T.getD 62 undef, T.getD 63 undef, T.getD 64 undef, T.getD 65 undef, T.getD 66 undef, T.getD 67 undef, T.getD 68 undef, T.getD 69 undef, T.getD 70 undef, T.getD 71 undef, T.getD 72 undef, T.getD 73 undef, T.getD 74 undef, T.getD 75 undef, T.getD 76 undef, T.getD 77 undef, T.getD 78 undef, T.getD 79 undef, T.getD 80 undef, T.getD 81 undef, T.getD 82 undef, T.getD 83 undef, T.getD 84 undef, T.getD 85 undef, T.getD 86 undef, T.getD 87 undef, T.getD 88 undef, T.getD 89 undef, T.getD 90 undef, T.getD 91 undef, T.getD 92 undef, T.getD 93 undef, T.getD 94 undef, T.getD 95 undef, T.getD 96 undef, T.getD 97 undef, T.getD 98 undef, T.getD 99 undef, T.getD 100 undef, T.getD 101 undef, T.getD 102 undef, T.getD 103 undef, T.getD 104 undef, T.getD 105 undef, T.getD 106 undef, T.getD 107 undef, T.getD 108 undef, T.getD 109 undef, T.getD 110 undef, T.getD 111 undef, T.getD 112 undef, T.getD 113 undef, T.getD 114 undef, T.getD 115 undef, T.getD 116 undef, T.getD 117 undef, T.getD 118 undef, T.getD 119 undef, T.getD 120 undef, T.getD 121 undef, T.getD 122 undef, T.getD 123 undef, T.getD 124 undef, T.getD 125 undef, T.getD 126 undef, T.getD 127 undef, T.getD 128 undef, T.getD 129 undef, T.getD 130 undef, T.getD 131 undef, T.getD 132 undef, T.getD 133 undef, T.getD 134 undef, T.getD 135 undef, T.getD 136 undef, T.getD 137 undef, T.getD 138 undef, T.getD 139 undef, T.getD 140 undef, T.getD 141 undef, T.getD 142 undef, T.getD 143 undef, T.getD 144 undef, T.getD 145 undef, T.getD 146 undef, T.getD 147 undef, T.getD 148 undef, T.getD 149 undef, T.getD 150 undef, T.getD 151 undef, T.getD 152 undef, T.getD 153 undef, T.getD 154 undef, T.getD 155 undef, T.getD 156 undef, T.getD 157 undef, T.getD 158 undef, T.getD 159 undef, T.getD 160 undef, T.getD 161 undef, T.getD 162 undef, T.getD 163 undef, T.getD 164 undef, T.getD 165 undef, T.getD 166 undef, T.getD 167 undef, T.getD 168 undef, T.getD 169 undef, T.getD 170 undef, T.getD 171 undef, T.getD 172 undef, T.getD 173 undef, T.getD 174 undef, T.getD 175 undef, T.getD 176 undef, T.getD 177 undef, T.getD 178 undef, T.getD 179 undef, T.getD 180 undef, T.getD 181 undef, T.getD 182 undef, T.getD 183 undef, T.getD 184 undef, T.getD 185 undef, T.getD 186 undef, T.getD 187 undef, T.getD 188 undef, T.getD 189 undef, T.getD 190 undef, T.getD 191 undef]) : TSol p Rb N L bc K cap T := ⟨fun i => T.getD i undef, h⟩
structure SolF (w0 : World) (K N L : Nat) (yv : Nat → Nat → Nat) (p Rb bc : Nat) (q : CL) (bd : Nat → Nat) (w : World) : Prop where
  num : 1 ≤ K ∧ K ≤ N ∧ N ≤ 12 ∧ L < 5
  qL : q.L = L
  par0 : w.cell? ⟨p, 0, none⟩ = some (.int .i64 (K : Int))
  par1 : w.cell? ⟨p, 1, none⟩ = some (.int .i64 (N : Int))
  head : ∀ i, i < N → w.cell? ⟨Rb, i, none⟩ = some (.slice (some ⟨Rb + 1 + i, 0, none⟩) K K)
  rows : ∀ i j, i < N → j < K → w.cell? ⟨Rb + 1 + i, j, none⟩ = some (.int .u8 ((rowV K i j : Nat) : Int))
  cols : CAt w bc K q
  ixN : ∀ i, i < K → q.ix i < N
  inj : ∀ i j, i < K → j < K → i ≠ j → q.ix i ≠ q.ix j
  data : ∀ i, i < K → bd i < w.heap.size ∧ (0 < L → q.db i = some ⟨bd i, 0, none⟩) ∧ ∀ m, m < L → w.cell? ⟨bd i, m, none⟩ = some (.int .u8 ((yv i m : Nat) : Int))
  yl : ∀ i m, yv i m < 256
  below : Below w0.heap.size w0 w
theorem cell_lt {w : World} {b o : Nat} {v : Value} (h : w.cell? ⟨b, o, none⟩ = some v) : b < w.heap.size := block_lt_of_cell h
theorem SolF.keep {w0 w w' : World} {K N L : Nat} {yv : Nat → Nat → Nat} {p Rb bc : Nat} {q : CL} {bd : Nat → Nat} (h : SolF w0 K N L yv p Rb bc q bd w) (hb : Below w.heap.size w w') : SolF w0 K N L yv p Rb bc q bd w' := by
  have st : ∀ {b o : Nat} {v : Value}, w.cell? ⟨b, o, none⟩ = some v → w'.cell? ⟨b, o, none⟩ = some v := fun {b o v} hc => (hb.cell (p := ⟨b, o, none⟩) (cell_lt hc)).trans hc
  exact ⟨h.num, h.qL, st h.par0, st h.par1, fun i hi => st (h.head i hi), fun i j hi hj => st (h.rows i j hi hj), h.cols.below hb, h.ixN, h.inj, fun i hi => ⟨Nat.lt_of_lt_of_le (h.data i hi).1 hb.size, (h.data i hi).2.1, fun m hm => st ((h.data i hi).2.2 m hm)⟩, h.yl, h.below.trans (hb.mono h.below.size)⟩

theorem clV_get (xs : List Nat) (D : Nat → Value) : ∀ (n i : Nat), i < n → (clV xs D n)[i * 2]? = some (.int .i64 ((xs.getD i 0 : Nat) : Int)) ∧ (clV xs D n)[i * 2 + 1]? = some (D i)
  | 0, _, h => absurd h (by omega)
  | n + 1, i, h => by
    have hl : ∀ n, (clV xs D n).length = n * 2 := fun n => by
      induction n with
      | zero => rfl
      | succ n ih => rw [clV_snoc, List.length_append, ih]; simp; omega
    rw [clV_snoc]
    rcases Nat.lt_or_ge i n with h1 | h1
    · have := clV_get xs D n i h1
      rw [List.getElem?_append, if_pos (by rw [hl]; omega), List.getElem?_append, if_pos (by rw [hl]; omega)]
      exact this
    · obtain rfl : i = n := by omega
      rw [List.getElem?_append, if_neg (by rw [hl]; omega), List.getElem?_append, if_neg (by rw [hl]; omega), hl, show i * 2 - i * 2 = 0 by omega, show i * 2 + 1 - i * 2 = 1 by omega]
      exact ⟨rfl, rfl⟩
/-- All columns are laid up. -/
theorem Lay.cl {w4 w : World} {zs : List Int} {xs : List Nat} {L K : Nat} {vc : Value} {D : Nat → Value} (h : Lay w4 zs xs L K vc D w) (hK : 0 < K) :
    ∃ (bc cap : Nat) (q : CL) (bd : Nat → Nat), vc = .slice (some ⟨bc, 0, none⟩) K cap ∧ K ≤ cap ∧ q.L = L ∧ (∀ i, q.ix i = xs.getD i 0) ∧ CAt w bc K q ∧ ∀ i, i < K → bd i < w.heap.size ∧ (0 < L → q.db i = some ⟨bd i, 0, none⟩) ∧ ∀ m, m < L → w.cell? ⟨bd i, m, none⟩ = some (.int .u8 ((rb zs L i m : Nat) : Int)) := by
  obtain ⟨bc, cap, hv, h1, h2⟩ := h.cols.form hK
  have hcap : K ≤ cap := by
    rcases h.cols.2 with ⟨_, e⟩ | ⟨g, c', cur, e, _, _, e4, _⟩
    · omega
    · rw [hv] at e; cases e; exact e4
  have hD : ∀ i, ∃ (ad : Option Addr) (cd bd : Nat), i < K → D i = .slice ad L cd ∧ bd < w.heap.size ∧ (0 < L → ad = some ⟨bd, 0, none⟩) ∧ ∀ m, m < L → w.cell? ⟨bd, m, none⟩ = some (.int .u8 ((rb zs L i m : Nat) : Int)) := by
    intro i
    by_cases hi : i < K
    · have hd := h.data i hi
      rcases hd.2 with ⟨e1, e2⟩ | ⟨g, cap', cur, e1, e2, e3, _⟩
      · exact ⟨none, 0, bc, fun _ => ⟨by rw [e1, e2], h2, fun h => absurd h (by omega), fun m hm => absurd hm (by omega)⟩⟩
      · refine ⟨_, cap', g, fun _ => ⟨e1, (Array.getElem?_eq_some_iff.1 e3).1, fun _ => rfl, fun m hm => ?_⟩⟩
        rw [e1] at hd
        rw [hd.cellAt m (by omega)]
        simp [rbV, hm]
    · exact ⟨none, 0, 0, fun h => absurd h hi⟩
  refine ⟨bc, cap, ⟨L, fun i => xs.getD i 0, fun i => (hD i).choose, fun i => (hD i).choose_spec.choose⟩, fun i => (hD i).choose_spec.choose_spec.choose, hv, hcap, rfl, fun _ => rfl, ?_, fun i hi => ?_⟩
  · have hc := h.cols
    rw [hv] at hc
    refine ⟨h2, fun i hi => ?_, fun i hi => ?_⟩
    · rw [hc.cellAt (i * 2) (by omega)]
      exact (clV_get xs D K i hi).1
    · rw [hc.cellAt (i * 2 + 1) (by omega), (clV_get xs D K i hi).2, ((hD i).choose_spec.choose_spec.choose_spec hi).1]
      rfl
  · exact ((hD i).choose_spec.choose_spec.choose_spec hi).2
end Go.Proofs.Ytkpcmfgeanlcnaa
