/-
  The heap by numbers: Pop.
-/
import Derived.Test.YtlghjjennhpjeaaGreatDoorHqC
import Derived.Test.YtlghjjennhpjeaaGreatDoorRowW
import Derived.Test.YtlghjjennhpjeaaGreatDoorEnC
namespace Go.Proofs.YtlghjjennhpjeaaGreatDoor
open Go.RowKit Go.Deep Go.Hp
section
variable {S : Nat → List Value} {B h n : Nat} {f : Nat → Ent} {v : Value} {w : World}
set_option maxHeartbeats 1000000 in
theorem chain7 {w : World} {R t : Nat} {z1 z2 z3 z4 z5 z6 z7 : Value} (h : w.heap[R]? = some (.cells #[z1, z2, z3, z4, z5, z6, z7] t)) (x1 x2 x3 x4 x5 x6 x7 : Value) :
    (w.cell? ⟨R, 0, none⟩ = some z1 ∧ w.frozen? ⟨R, 0, none⟩ = false) ∧ ((w.setCell ⟨R, 0, none⟩ x1).cell? ⟨R, 1, none⟩ = some z2 ∧ (w.setCell ⟨R, 0, none⟩ x1).frozen? ⟨R, 1, none⟩ = false) ∧ (((w.setCell ⟨R, 0, none⟩ x1).setCell ⟨R, 1, none⟩ x2).cell? ⟨R, 2, none⟩ = some z3 ∧ ((w.setCell ⟨R, 0, none⟩ x1).setCell ⟨R, 1, none⟩ x2).frozen? ⟨R, 2, none⟩ = false) ∧ ((((w.setCell ⟨R, 0, none⟩ x1).setCell ⟨R, 1, none⟩ x2).setCell ⟨R, 2, none⟩ x3).cell? ⟨R, 3, none⟩ = some z4 ∧ (((w.setCell ⟨R, 0, none⟩ x1).setCell ⟨R, 1, none⟩ x2).setCell ⟨R, 2, none⟩ x3).frozen? ⟨R, 3, none⟩ = false) ∧ (((((w.setCell ⟨R, 0, none⟩ x1).setCell ⟨R, 1, none⟩ x2).setCell ⟨R, 2, none⟩ x3).setCell ⟨R, 3, none⟩ x4).cell? ⟨R, 4, none⟩ = some z5 ∧ ((((w.setCell ⟨R, 0, none⟩ x1).setCell ⟨R, 1, none⟩ x2).setCell ⟨R, 2, none⟩ x3).setCell ⟨R, 3, none⟩ x4).frozen? ⟨R, 4, none⟩ = false) ∧ ((((((w.setCell ⟨R, 0, none⟩ x1).setCell ⟨R, 1, none⟩ x2).setCell ⟨R, 2, none⟩ x3).setCell ⟨R, 3, none⟩ x4).setCell ⟨R, 4, none⟩ x5).cell? ⟨R, 5, none⟩ = some z6 ∧ (((((w.setCell ⟨R, 0, none⟩ x1).setCell ⟨R, 1, none⟩ x2).setCell ⟨R, 2, none⟩ x3).setCell ⟨R, 3, none⟩ x4).setCell ⟨R, 4, none⟩ x5).frozen? ⟨R, 5, none⟩ = false) ∧ (((((((w.setCell ⟨R, 0, none⟩ x1).setCell ⟨R, 1, none⟩ x2).setCell ⟨R, 2, none⟩ x3).setCell ⟨R, 3, none⟩ x4).setCell ⟨R, 4, none⟩ x5).setCell ⟨R, 5, none⟩ x6).cell? ⟨R, 6, none⟩ = some z7 ∧ ((((((w.setCell ⟨R, 0, none⟩ x1).setCell ⟨R, 1, none⟩ x2).setCell ⟨R, 2, none⟩ x3).setCell ⟨R, 3, none⟩ x4).setCell ⟨R, 4, none⟩ x5).setCell ⟨R, 5, none⟩ x6).frozen? ⟨R, 6, none⟩ = false) ∧ (((((((w.setCell ⟨R, 0, none⟩ x1).setCell ⟨R, 1, none⟩ x2).setCell ⟨R, 2, none⟩ x3).setCell ⟨R, 3, none⟩ x4).setCell ⟨R, 4, none⟩ x5).setCell ⟨R, 5, none⟩ x6).setCell ⟨R, 6, none⟩ x7).heap[R]? = some (.cells #[x1, x2, x3, x4, x5, x6, x7] t) := by
  have h1 : (World.setCell _ ⟨R, 0, none⟩ x1).heap[R]? = some (.cells #[x1, z2, z3, z4, z5, z6, z7] t) := heap_setCell_same _ R 0 _ t x1 h
  have h2 : (World.setCell _ ⟨R, 1, none⟩ x2).heap[R]? = some (.cells #[x1, x2, z3, z4, z5, z6, z7] t) := heap_setCell_same _ R 1 _ t x2 h1
  have h3 : (World.setCell _ ⟨R, 2, none⟩ x3).heap[R]? = some (.cells #[x1, x2, x3, z4, z5, z6, z7] t) := heap_setCell_same _ R 2 _ t x3 h2
  have h4 : (World.setCell _ ⟨R, 3, none⟩ x4).heap[R]? = some (.cells #[x1, x2, x3, x4, z5, z6, z7] t) := heap_setCell_same _ R 3 _ t x4 h3
  have h5 : (World.setCell _ ⟨R, 4, none⟩ x5).heap[R]? = some (.cells #[x1, x2, x3, x4, x5, z6, z7] t) := heap_setCell_same _ R 4 _ t x5 h4
  have h6 : (World.setCell _ ⟨R, 5, none⟩ x6).heap[R]? = some (.cells #[x1, x2, x3, x4, x5, x6, z7] t) := heap_setCell_same _ R 5 _ t x6 h5
  have h7 : (World.setCell _ ⟨R, 6, none⟩ x7).heap[R]? = some (.cells #[x1, x2, x3, x4, x5, x6, x7] t) := heap_setCell_same _ R 6 _ t x7 h6
  exact ⟨⟨cell_of _ h 0, thaw_of _ h 0⟩, ⟨cell_of _ h1 1, thaw_of _ h1 1⟩, ⟨cell_of _ h2 2, thaw_of _ h2 2⟩, ⟨cell_of _ h3 3, thaw_of _ h3 3⟩, ⟨cell_of _ h4 4, thaw_of _ h4 4⟩, ⟨cell_of _ h5 5, thaw_of _ h5 5⟩, ⟨cell_of _ h6 6, thaw_of _ h6 6⟩, h7⟩
theorem own_less {c : Ent → List Value} {s : Nat} (hc : ∀ e, (c e).length = s) {w : World} {B t n g cap : Nat} {f : Nat → Ent} (h : w.ownsRow B t s (.slice (some ⟨g, 0, none⟩) (n + 1) cap) (n + 1) (rowsL c (n + 1) f)) : w.ownsRow B t s (.slice (some ⟨g, 0, none⟩) n cap) n (rowsL c n f) := by
  refine ⟨rowsL_length hc n f, .inr ?_⟩
  rcases h.2 with ⟨h1, _⟩ | ⟨g', cap', cur, h1, h2, h3, h4, h5, h6, h7⟩
  · cases h1
  · cases h1
    refine ⟨g, cap, cur, rfl, h2, h3, by omega, h5, h6, ?_⟩
    have := congrArg (List.take (n * s)) h7
    rw [List.take_take, Nat.min_eq_left (Nat.mul_le_mul_right s (by omega)), rowsL_succ, List.take_append_of_le_length (by rw [rowsL_length hc]; omega)] at this
    rw [this, List.take_of_length_le (by rw [rowsL_length hc]; omega)]
theorem own_cells_other {B t s m g : Nat} {v : Value} {xs : List Value} (hv : v.ownBlock ≠ some g) : ∀ (vs : List Value) (p : Nat) (w : World), w.ownsRow B t s v m xs → (w.setCells g p vs).ownsRow B t s v m xs
  | [], _, _, h => h
  | u :: r, p, _, h => own_cells_other hv r (p + 1) _ (ownsRow_setCell_other h (a := ⟨g, p, none⟩) hv u)
theorem pack {W : World} {g m : Nat} {w1 : World} (H : HI S B h n f v W) (k2 : ∀ b, b ≠ g → W.heap[b]? = w1.heap[b]?) (k3 : W.heap.size = m) (b : Bt (some g) w1 W) : HI S B h n f v W.drew ∧ (∀ b, b ≠ g → W.drew.heap[b]? = w1.heap[b]?) ∧ W.drew.heap.size = m ∧ Bt (some g) w1 W.drew := ⟨H.drew1, k2, k3, b.drew1⟩
def PopI (S : Nat → List Value) (B h n : Nat) (f : Nat → Ent) (v : Value) (w : World) (r : Ending) (w' : World) : Prop := r = .returned (.agg (S (f 0).l).toArray) ∧ ∃ f' v', HI S B h n f' v' w' ∧ Rearr n (popF n f) f' ∧ Hp f' n ∧ Below h w w' ∧ B ≤ w'.heap.size ∧ ∀ b, b < w.heap.size → b ≠ h → some b ≠ v.ownBlock → w'.heap[b]? = w.heap[b]?

set_option maxHeartbeats 4000000 in
set_option maxRecDepth 100000 in
theorem popI_any (hS : ShOk S) (B h n : Nat) (f : Nat → Ent) (v : Value) (w : World) (H : HI S B h (n + 1) f v w) (hB : B ≤ w.heap.size) (hn : n ≤ 1048576) (hp : Hp f (n + 1)) :
    Calls Tryz.prog 47 #[.pointer (some ⟨h, 0, none⟩)] w fun r w' => PopI S B h n f v w r w' := by
  obtain ⟨g, cap, rfl, hg, hnc, hcm⟩ := H.form (by omega)
  have hcm' : cap ≤ 9223372036854775807 := hcm
  clear hcm
  have hlow := H.low
  have H0 : HI S B h (n + 1) f (.slice (some ⟨g, 0, none⟩) (n + 1) cap) (w.alloc (.cells #[.int .i64 0, .int .i64 0, .int .i64 0, .int .i64 0, .slice none 0 0, .slice none 0 0, .slice none 0 0] 41)) := ⟨H.var.alloc _, H.own.alloc _, H.low, H.sg⟩
  have s0 : (w.alloc (.cells #[.int .i64 0, .int .i64 0, .int .i64 0, .int .i64 0, .slice none 0 0, .slice none 0 0, .slice none 0 0] 41)).heap.size = w.heap.size + 1 := by simp
  have r0 := own_range (entD_length hS) H0.own (i := 0) (by omega)
  have sx := hS.one (f 0).l
  obtain ⟨x1, x2, x3, x4, x5, x6, x7, ex⟩ := eight (hS.len (f 0).l)
  unfold entD at r0
  rw [ex] at r0 sx
  obtain ⟨p0, p1, p2, p3, p4, p5, p6, p7⟩ := range8 r0
  simp only [Nat.zero_mul, Nat.zero_add] at p0 p1 p2 p3 p4 p5 p6 p7
  obtain ⟨t1, t2, t3, t4, t5, t6, t7⟩ := run_seven sx
  have a0 := H0.var.cell (i := 0) (by omega)
  have H1 : HI S B h (n + 1) f (.slice (some ⟨g, 0, none⟩) (n + 1) cap) ((w.alloc (.cells #[.int .i64 0, .int .i64 0, .int .i64 0, .int .i64 0, .slice none 0 0, .slice none 0 0, .slice none 0 0] 41)).alloc (.cells #[x1, x2, x3, x4, x5, x6, x7] 41)) := ⟨H0.var.alloc _, H0.own.alloc _, H0.low, H0.sg⟩
  have nF : ((w.alloc (.cells #[.int .i64 0, .int .i64 0, .int .i64 0, .int .i64 0, .slice none 0 0, .slice none 0 0, .slice none 0 0] 41)).alloc (.cells #[x1, x2, x3, x4, x5, x6, x7] 41)).heap[w.heap.size + 1]? = some (.cells #[x1, x2, x3, x4, x5, x6, x7] 41) := by
    rw [← s0]
    exact heap_alloc_new _ _
  have nR : ((w.alloc (.cells #[.int .i64 0, .int .i64 0, .int .i64 0, .int .i64 0, .slice none 0 0, .slice none 0 0, .slice none 0 0] 41)).alloc (.cells #[x1, x2, x3, x4, x5, x6, x7] 41)).heap[w.heap.size]? = some (.cells #[.int .i64 0, .int .i64 0, .int .i64 0, .int .i64 0, .slice none 0 0, .slice none 0 0, .slice none 0 0] 41) := (Below.heap_alloc _ _ _ (by omega)).trans (heap_alloc_new _ _)
  have b1 : Below w.heap.size w ((w.alloc (.cells #[.int .i64 0, .int .i64 0, .int .i64 0, .int .i64 0, .slice none 0 0, .slice none 0 0, .slice none 0 0] 41)).alloc (.cells #[x1, x2, x3, x4, x5, x6, x7] 41)) := ((Below.refl _ _).alloc (Nat.le_refl _) _).alloc (by omega) _
  have s1 : ((w.alloc (.cells #[.int .i64 0, .int .i64 0, .int .i64 0, .int .i64 0, .slice none 0 0, .slice none 0 0, .slice none 0 0] 41)).alloc (.cells #[x1, x2, x3, x4, x5, x6, x7] 41)).heap.size = w.heap.size + 2 := by simp
  have a1 := H1.var.cell (i := 0) (by omega)
  have ed : ((n : Int) + 1) - 1 = (n : Int) := by omega
  have hnl : (n : Int) < ((n + 1 : Nat) : Int) := by omega
  have hcap : (n : Int) ≤ (cap : Int) := by omega
  have hgR : g < w.heap.size := by
    rcases H.own.2 with ⟨q, _⟩ | ⟨g', cap', cur, q, _, q3, _⟩
    · cases q
    · cases q
      exact (Array.getElem?_eq_some_iff.1 q3).1
  go_enter Tryz.func47, Tryz.ntmps47
  clear H
  go_wp2_with fail
  generalize (w.alloc (.cells #[.int .i64 0, .int .i64 0, .int .i64 0, .int .i64 0, .slice none 0 0, .slice none 0 0, .slice none 0 0] 41)).alloc (.cells #[x1, x2, x3, x4, x5, x6, x7] 41) = w1 at *
  clear H0 a0 p0 p1 p2 p3 p4 p5 p6 p7 s0 r0
  have sy := hS.one (f n).l
  have rn := own_range (entD_length hS) H1.own (i := n) (by omega)
  have rz := own_range (entD_length hS) H1.own (i := 0) (by omega)
  have H2 := H1.put hS (i := 0) (by omega) hg (H1.sg n (by omega))
  have o1 := H1.own
  obtain ⟨y1, y2, y3, y4, y5, y6, y7, ey⟩ := eight (hS.len (f n).l)
  unfold entD at rn rz H2
  rw [ey] at rn sy H2
  rw [ex] at rz
  obtain ⟨q0, q1, q2, q3, q4, q5, q6, q7⟩ := range8 rn
  obtain ⟨p0, -⟩ := range8 rz
  simp only [Nat.zero_mul] at p0
  obtain ⟨u1, u2, u3, u4, u5, u6, u7⟩ := run_seven sy
  obtain ⟨⟨-, z0⟩, ⟨⟨_, c1⟩, z1⟩, ⟨⟨_, c2⟩, z2⟩, ⟨⟨_, c3⟩, z3⟩, ⟨⟨_, c4⟩, z4⟩, ⟨⟨_, c5⟩, z5⟩, ⟨⟨_, c6⟩, z6⟩, ⟨_, c7⟩, z7⟩ := chain8 o1 (o := 0) (by omega) (.int .i64 ((ekey (f n) : Nat) : Int)) y1 y2 y3 y4 y5 y6 y7
  have k2 : ∀ b, b ≠ g → (w1.setCells g (0 * 8) (.int .i64 ((ekey (f n) : Nat) : Int) :: [y1, y2, y3, y4, y5, y6, y7])).heap[b]? = w1.heap[b]? := fun b hb => by
    simp only [World.setCells]
    iterate 8 rw [Below.heap_setCell _ _ _ _ hb]
  have k3 : (w1.setCells g (0 * 8) (.int .i64 ((ekey (f n) : Nat) : Int) :: [y1, y2, y3, y4, y5, y6, y7])).heap.size = w.heap.size + 2 := by
    simp only [World.setCells]
    simpa using s1
  have b2 := bt_cells (o := some g) rfl (.int .i64 ((ekey (f n) : Nat) : Int) :: [y1, y2, y3, y4, y5, y6, y7]) (0 * 8) w1 (Bt.refl _ _)
  simp only [World.setCells, Nat.zero_mul, Nat.zero_add, Nat.reduceAdd] at c1 c2 c3 c4 c5 c6 c7 z0 z1 z2 z3 z4 z5 z6 z7 H2 k2 k3 b2
  clear o1 rn rz sy
  go_region
  obtain ⟨H2d, k2d, k3d, b2d⟩ := pack H2 k2 k3 b2
  clear a1 p0 q0 q1 q2 q3 q4 q5 q6 q7 c1 c2 c3 c4 c5 c6 c7 z0 z1 z2 z3 z4 z5 z6 z7 H1 H2 k2 k3 b2 u1 u2 u3 u4 u5 u6 u7
  generalize World.drew _ = W3 at H2d b2d k2d k3d ⊢
  have g0 := H2d.var.cell (i := 0) (by omega)
  have g1 := H2d.var.frozen 0
  have H3 : HI S B h n (popF n f) (.slice (some ⟨g, 0, none⟩) n cap) (W3.setCell ⟨h, 0, none⟩ (.slice (some ⟨g, 0, none⟩) n cap)) :=
    ⟨(H2d.var.set 0 (.slice (some ⟨g, 0, none⟩) n cap)).congr fun i hi => by rw [if_pos (by omega)], ownsRow_setCell_below (own_less (entD_length hS) H2d.own) (a := ⟨h, 0, none⟩) hlow _, hlow, fun i hi => H2d.sg i (by omega)⟩
  have nF3 : (W3.setCell ⟨h, 0, none⟩ (.slice (some ⟨g, 0, none⟩) n cap)).heap[w.heap.size + 1]? = some (.cells #[x1, x2, x3, x4, x5, x6, x7] 41) := (Below.heap_setCell _ _ _ _ (by show w.heap.size + 1 ≠ h; omega)).trans ((k2d _ (by omega)).trans nF)
  have nR3 := (Below.heap_setCell W3 ⟨h, 0, none⟩ (.slice (some ⟨g, 0, none⟩) n cap) w.heap.size (by show w.heap.size ≠ h; omega)).trans ((k2d _ (by omega)).trans nR)
  have s3 : (W3.setCell ⟨h, 0, none⟩ (.slice (some ⟨g, 0, none⟩) n cap)).heap.size = w.heap.size + 2 := by simpa using k3d
  have k5 := siftDownI_any hS B h n 0 (popF n f) _ _ H3 (by omega) (.inr rfl) (pop_dn hp)
  rw [show ((0 : Nat) : Int) = 0 from rfl] at k5
  have c7 := fun (W : World) (hR : W.heap[w.heap.size]? = some (.cells #[.int .i64 0, .int .i64 0, .int .i64 0, .int .i64 0, .slice none 0 0, .slice none 0 0, .slice none 0 0] 41)) => chain7 hR x1 x2 x3 x4 x5 x6 x7
  clear H2d nF nR
  go_wp2_with (first | (go_at_call 70; (with_reducible refine k5.mono ?_); rintro r W5 ⟨rfl, f', H5, hR5, hp5, hb5⟩; have nF5 := (hb5.block (w.heap.size + 1) (by omega) (by simp [Value.ownBlock]; omega)).trans nF3; have nR5 := (hb5.block w.heap.size (by omega) (by simp [Value.ownBlock]; omega)).trans nR3; obtain ⟨⟨e0, d0⟩, ⟨e1, d1⟩, ⟨e2, d2⟩, ⟨e3, d3⟩, ⟨e4, d4⟩, ⟨e5, d5⟩, ⟨e6, d6⟩, hfin⟩ := c7 W5 nR5; have m0 := cell_of W5 nF5 0; have m1 := cell_of W5 nF5 1; have m2 := cell_of W5 nF5 2; have m3 := cell_of W5 nF5 3; have m4 := cell_of W5 nF5 4; have m5 := cell_of W5 nF5 5; have m6 := cell_of W5 nF5 6; simp at m0 m1 m2 m3 m4 m5 m6; clear c7))
  have hs5 := hb5.size
  have b6 := bt_cells (o := some w.heap.size) rfl [x1, x2, x3, x4, x5, x6, x7] 0 W5 (Bt.refl _ _)
  have H6 : HI S B h n f' (.slice (some ⟨g, 0, none⟩) n cap) (W5.setCells w.heap.size 0 [x1, x2, x3, x4, x5, x6, x7]) := ⟨row_cells (by omega) _ _ _ H5.var, own_cells_other (by simp [Value.ownBlock]; omega) _ _ _ H5.own, H5.low, H5.sg⟩
  have hblk : ∀ b, b < w.heap.size → b ≠ h → b ≠ g → (W5.setCells w.heap.size 0 [x1, x2, x3, x4, x5, x6, x7]).heap[b]? = w.heap[b]? := fun b hb h1 h2 => by
    rw [b6.block b (by omega) (by simp; omega), hb5.block b (by omega) (by simp [Value.ownBlock]; omega), Below.heap_setCell _ _ _ _ h1, k2d b h2, b1.block b hb]
  have hbel : Below h w (W5.setCells w.heap.size 0 [x1, x2, x3, x4, x5, x6, x7]) := ⟨b6.os.trans (hb5.os.trans (b2d.os.trans b1.os)), b6.tape.trans (hb5.tape.trans (b2d.tape.trans b1.tape)), b6.output.trans (hb5.output.trans (b2d.output.trans b1.output)), by have := b6.size; omega, fun b hb => hblk b (by omega) (by omega) (by omega)⟩
  have hs6 : B ≤ (W5.setCells w.heap.size 0 [x1, x2, x3, x4, x5, x6, x7]).heap.size := by have := b6.size; omega
  simp only [World.setCells, Nat.zero_add, Nat.reduceAdd] at hblk H6 hbel hs6
  refine bodyPost_ret (results_cell_row (p := 2) rfl _ _ w.heap.size 41 _ (0, 0) _ (by rfl) hfin Tryz.underlying41 rfl (by kernel_rfl)) rfl ?_
  exact ⟨by rw [ex], f', _, H6, hR5, hp5, hbel, hs6, fun b hb h1 h2 => hblk b hb h1 (fun e => h2 (by rw [e]; rfl))⟩
end
end Go.Proofs.YtlghjjennhpjeaaGreatDoor

/-
  archive.byIndex: shards, by their indexes.
-/
namespace Go.Proofs.YtlghjjennhpjeaaGreatDoor
open Go.RowKit Go.Deep Go.Hp

theorem Tryz.infoShard : (Tryz.prog.info? 41).map (fun i => (i.zero, i.size, i.bytes)) = some (some (.agg #[.int .i64 0, .int .i64 0, .int .i64 0, .int .i64 0, .slice none 0 0, .slice none 0 0, .slice none 0 0]), 7, 104) := by kernel_rfl
/-- A list of shards where it lies. -/
def SC (w : World) (bo : Option Addr) (n : Nat) (S : Nat → List Value) : Prop := 0 < n → ∃ b o, bo = some ⟨b, o, none⟩ ∧ b < w.heap.size ∧ ∀ i, i < n → w.rangeAt b (o + i * 7) (S i)
theorem SC.below {w w' : World} {bo : Option Addr} {n B : Nat} {S : Nat → List Value} (h : SC w bo n S) (hb : Below B w w') (hB : w.heap.size ≤ B) : SC w' bo n S := fun hn => by
  obtain ⟨b, o, h1, h2, h3⟩ := h hn
  exact ⟨b, o, h1, Nat.lt_of_lt_of_le h2 hb.size, fun i hi j v hv => (hb.cell (p := ⟨b, _, none⟩) (Nat.lt_of_lt_of_le h2 hB)).trans (h3 i hi j v hv)⟩
/-- Shard number i, with its index. -/
def entI (ix : Nat → Nat) (i : Nat) : Ent := ⟨[UInt8.ofNat (ix i)], none, i, 0⟩
theorem entI_key {ix : Nat → Nat} {i : Nat} (h : ix i < 256) : ekey (entI ix i) = ix i := by
  show (UInt8.ofNat (ix i)).toNat = ix i
  simp [UInt8.toNat_ofNat', Nat.mod_eq_of_lt h]
theorem range7 {w : World} {g o : Nat} {b c d e x y z : Value} (h : w.rangeAt g o [b, c, d, e, x, y, z]) : w.cell? ⟨g, o, none⟩ = some b ∧ w.cell? ⟨g, o + 1, none⟩ = some c ∧ w.cell? ⟨g, o + 2, none⟩ = some d ∧ w.cell? ⟨g, o + 3, none⟩ = some e ∧ w.cell? ⟨g, o + 4, none⟩ = some x ∧ w.cell? ⟨g, o + 5, none⟩ = some y ∧ w.cell? ⟨g, o + 6, none⟩ = some z :=
  ⟨h 0 _ rfl, h 1 _ rfl, h 2 _ rfl, h 3 _ rfl, h 4 _ rfl, h 5 _ rfl, h 6 _ rfl⟩
section
variable {S : Nat → List Value}
theorem next_invI {h i m k : Nat} {f out fh f2 : Nat → Ent} {v v2 vs v' : Value} {w wq W2 wa w5 : World} (hk : i - m = k + 1) (hp : Hp fh (k + 1)) (hR : Rearr i f (fun x => if x < m then out x else fh (x - m)))
    (hsrt : ∀ x, x + 1 < m → Hp.le (out x).k (out (x + 1)).k) (hle : ∀ x, x < k + 1 → 0 < m → Hp.le (out (m - 1)).k (fh x).k) (H : HI S (h + 1) h (k + 1) fh v wq) (o0 : wq.ownsRow (h + 1) 41 7 vs m (rowsL (fun e => S e.l) m out)) (b0 : Below h w wq)
    (hR2 : Rearr k (popF k fh) f2) (hp2 : Hp f2 k) (H2 : HI S (h + 1) h k f2 v2 W2) (hb2 : Below h wq W2) (s2 : h + 1 ≤ W2.heap.size) (hfr : ∀ b, b < wq.heap.size → b ≠ h → some b ≠ v.ownBlock → W2.heap[b]? = wq.heap[b]?)
    (ha : Below W2.heap.size W2 wa) (hg : wa.grownBy w5 vs.ownBlock) (ho : w5.ownsRow (h + 1) 41 7 v' (m + 1) (rowsL (fun e => S e.l) m out ++ S (fh 0).l)) :
    m + 1 ≤ i ∧ HI S (h + 1) h (i - (m + 1)) f2 v2 w5 ∧ Hp f2 (i - (m + 1)) ∧ Rearr i f (fun x => if x < m + 1 then (fun x => if x = m then fh 0 else out x) x else f2 (x - (m + 1))) ∧ (∀ x, x + 1 < m + 1 → Hp.le ((fun x => if x = m then fh 0 else out x) x).k ((fun x => if x = m then fh 0 else out x) (x + 1)).k) ∧ (∀ x, x < i - (m + 1) → 0 < m + 1 → Hp.le ((fun x => if x = m then fh 0 else out x) (m + 1 - 1)).k (f2 x).k) ∧ w5.ownsRow (h + 1) 41 7 v' (m + 1) (rowsL (fun e => S e.l) (m + 1) (fun x => if x = m then fh 0 else out x)) ∧ Below h w w5 ∧ h + 1 ≤ w5.heap.size := by
  have ek : i - (m + 1) = k := by omega
  have hsa := ha.size
  have hsq := hb2.size
  have hR' := hR.trans ((Rearr.popped (k := k) (o := out) (g := fh) (show m + (k + 1) = i by omega)))
  have o4 : W2.ownsRow (h + 1) 41 7 vs m (rowsL (fun e => S e.l) m out) := owns_keep' o0 fun g hg' => hfr g (o0.lt g hg').2 (fun e => by have := (o0.lt g hg').1; omega) (fun e => kind_ne o0 H.own (by decide) hg' e.symm)
  have kb : ∀ b, b < W2.heap.size → some b ≠ vs.ownBlock → w5.heap[b]? = W2.heap[b]? := fun b hb hne => (hg.block b (by omega) hne).trans (ha.block b hb)
  have hbw : Below (h + 1) W2 w5 := ((ha.mono s2).grown hg (by omega) (fun x hx => (o4.lt x hx).1))
  have hs5 := hbw.size
  rw [ek]
  refine ⟨by omega, ⟨H2.var.of_block (kb h (by omega) (fun e => by have := (o4.lt h e.symm).1; omega)), owns_keep' H2.own fun g hg' => kb g (H2.own.lt g hg').2 (fun e => kind_ne H2.own o4 (by decide) hg' e.symm), H2.low, H2.sg⟩, hp2, ?_, ?_, ?_, ?_, (b0.trans hb2).trans (hbw.mono (by omega)), by omega⟩
  · exact hR'.trans (Rearr.tail (m := m + 1) (o := fun x => if x = m then fh 0 else out x) hR2 (by omega))
  · intro x hx
    dsimp only
    rw [if_neg (show ¬ x = m by omega)]
    by_cases e : x + 1 = m
    · rw [if_pos e]
      have := hle 0 (by omega) (by omega)
      rw [show m - 1 = x by omega] at this
      exact this
    · rw [if_neg e]
      exact hsrt x (by omega)
  · intro x hx _
    dsimp only
    rw [Nat.add_sub_cancel, if_pos rfl]
    obtain ⟨j, hj, ej⟩ := hR2.from hx
    rw [ej]
    unfold popF
    split
    · exact hp_min hp k (by omega)
    · exact hp_min hp j (by omega)
  · rw [rowsL_succ, if_pos rfl, rowsL_congr (g := out) fun j hj => by rw [if_neg (by omega)]]
    exact ho
theorem make_shards (n : Nat) (hn : n ≤ 1048576) (w : World) : (Instr.makeSlice 39 (.int .i64 0) (.int .i64 (n : Int))).run Tryz.prog w = .ok (.slice (some ⟨w.heap.size, 0, none⟩) 0 n) (w.alloc (.cells (madeCells #[.int .i64 0, .int .i64 0, .int .i64 0, .int .i64 0, .slice none 0 0, .slice none 0 0, .slice none 0 0] (n * 7)) 41)) := by
  obtain ⟨i0, hi0, hz0, hz1, hz2⟩ := info_parts Tryz.infoShard
  have := run_make (P := Tryz.prog) w 39 41 i0 _ Tryz.underlying39 hi0 hz0 .i64 .i64 0 n (by omega) (by omega) (by rw [hz2]; omega) (by omega)
  rw [hz1] at this
  simp only [Int.toNat_natCast] at this
  exact this
theorem owns_newI (w : World) (n B : Nat) (hB : B ≤ w.heap.size) (hn : n ≤ 1048576) : (w.alloc (.cells (madeCells #[.int .i64 0, .int .i64 0, .int .i64 0, .int .i64 0, .slice none 0 0, .slice none 0 0, .slice none 0 0] (n * 7)) 41)).ownsRow B 41 7 (.slice (some ⟨w.heap.size, 0, none⟩) 0 n) 0 [] :=
  ⟨rfl, .inr ⟨w.heap.size, n, madeCells #[.int .i64 0, .int .i64 0, .int .i64 0, .int .i64 0, .slice none 0 0, .slice none 0 0, .slice none 0 0] (n * 7), rfl, hB, heap_alloc_new _ _, by omega, by unfold maxLen; omega, size_madeCells _ _, rfl⟩⟩

def ByI (S : Nat → List Value) (ix : Nat → Nat) (n : Nat) (w : World) (r : Ending) (w' : World) : Prop :=
  Below w.heap.size w w' ∧ ∃ out v, r = .returned v ∧ Rearr n (entI ix) out ∧ (∀ i, i + 1 < n → Hp.le (out i).k (out (i + 1)).k) ∧ w'.ownsRow w.heap.size 41 7 v n (rowsL (fun e => S e.l) n out)

set_option maxHeartbeats 4000000 in
set_option maxRecDepth 100000 in
theorem byIndex_any (hS : ShOk S) (ix : Nat → Nat) (n cap : Nat) (bo : Option Addr) (w : World) (hn : n ≤ 1048576) (hB : SC w bo n S) (hx : ∀ i, i < n → ix i < 256 ∧ (S i)[2]? = some (.int .i64 ((ix i : Nat) : Int))) :
    Calls Tryz.prog 22 #[.slice bo n cap] w fun r w' => ByI S ix n w r w' := by
  obtain ⟨i0, hi0, hz0, hz1, hz2⟩ := info_parts Tryz.infoShard
  have v0 : (w.alloc (.cells #[.slice none 0 0] 112)).rowIs w.heap.size 112 1 (fun _ => .slice none 0 0) :=
    World.rowIs_alloc w #[.slice none 0 0] 112 (fun _ => .slice none 0 0) (fun i hi => by
      obtain rfl : i = 0 := by simp at hi; omega
      rfl)
  have b0 : Below w.heap.size w (w.alloc (.cells #[.slice none 0 0] 112)) := (Below.refl _ _).alloc (Nat.le_refl _) _
  have s0 : (w.alloc (.cells #[.slice none 0 0] 112)).heap.size = w.heap.size + 1 := by simp
  have H0 : HI S (w.heap.size + 1) w.heap.size 0 (entI ix) (.slice none 0 0) (w.alloc (.cells #[.slice none 0 0] 112)) := ⟨v0, World.ownsRow_nil _ _ _ _, by omega, fun i hi => absurd hi (by omega)⟩
  go_enter Tryz.func22, Tryz.ntmps22
  go_wp2
  generalize w.alloc (.cells #[.slice none 0 0] 112) = w0 at *
  generalize hh : w.heap.size = h at *
  go_loopw [5, 9] (fun _ vi wr => ∃ (i : Nat) (f' : Nat → Ent) (v : Value), i ≤ n ∧ vi = .int .i64 ((i : Nat) : Int) ∧ HI S (h + 1) h i f' v wr ∧ Rearr i (entI ix) f' ∧ Hp f' i ∧ Below h w wr ∧ h + 1 ≤ wr.heap.size) (fun _ vi _ => n - (intOf vi).toNat)
  case atStart => exact ⟨0, _, _, by omega, rfl, H0, Rearr.refl _ _, fun c _ hc => absurd hc (by omega), b0, by omega⟩
  case round =>
    clear v0 b0 s0 H0
    obtain ⟨i, f', v, hi, rfl, H, hR, hp, hb, hs⟩ := hrel
    by_cases hlt : i < n
    · have hlt' : (i : Int) < (n : Int) := by omega
      obtain ⟨b, o, rfl, hbl, hcell⟩ := hB.below hb (by omega) (by omega)
      have ri := hcell i hlt
      obtain ⟨hxi, h2⟩ := hx i hlt
      have sx := hS.one i
      have kp := fun w1 H1 s1 => pushI_any hS (h + 1) h i f' v (entI ix i) w1 ⟨_, rfl⟩ H1 s1 (by omega) hp
      rw [show (entI ix i).l = i from rfl, entI_key hxi] at kp
      obtain ⟨x1, x2, x3, x4, x5, x6, x7, ex⟩ := eight (hS.len i)
      rw [ex] at ri h2 sx kp
      simp only [List.getElem?_cons_succ, List.getElem?_cons_zero, Option.some.injEq] at h2
      subst h2
      obtain ⟨p0, p1, p2, p3, p4, p5, p6⟩ := range7 ri
      obtain ⟨t1, t2, -, t4, t5, t6, t7⟩ := run_seven sx
      have cn := cells_new wr [x1, x2, .int .i64 ((ix i : Nat) : Int), x4, x5, x6, x7] 41
      have c0 := cn 0
      have c1 := cn 1
      have c2 := cn 2
      have c3 := cn 3
      have c4 := cn 4
      have c5 := cn 5
      have c6 := cn 6
      simp only [List.getElem?_cons_zero, List.getElem?_cons_succ] at c0 c1 c2 c3 c4 c5 c6
      have H1 : HI S (h + 1) h i f' v (wr.alloc (.cells #[x1, x2, .int .i64 ((ix i : Nat) : Int), x4, x5, x6, x7] 41)) := ⟨H.var.alloc _, H.own.alloc _, H.low, H.sg⟩
      have b1 := hb.alloc (by omega) (.cells #[x1, x2, .int .i64 ((ix i : Nat) : Int), x4, x5, x6, x7] 41)
      have s1 : h + 1 ≤ (wr.alloc (.cells #[x1, x2, .int .i64 ((ix i : Nat) : Int), x4, x5, x6, x7] 41)).heap.size := by simp; omega
      have kp' := kp _ H1 s1
      have hR2 : Rearr (i + 1) (entI ix) (fun x => if x = i then entI ix i else f' x) := hR.snoc (fun _ _ => rfl) (fun x hx => by rw [if_neg (by omega)]) (by rw [if_pos rfl])
      clear H1 H hb cn kp hcell ri sx
      generalize hw1 : wr.alloc (.cells #[x1, x2, .int .i64 ((ix i : Nat) : Int), x4, x5, x6, x7] 41) = w1 at *
      go_wp2_with (first
        | (go_at_call 45; (with_reducible refine kp'.mono ?_); rintro r w2 ⟨rfl, f2, v2, H2, hR3, hp2, hb2, hs2⟩))
      go_roundw
      case rel => exact ⟨i + 1, f2, v2, by omega, by go_num, H2, hR2.trans hR3, hp2, b1.trans hb2, hs2⟩
      case measure => simp [intOf]; omega
    · obtain rfl : i = n := by omega
      have hnl : ¬ ((i : Int) < (i : Int)) := by omega
      have mk := make_shards i hn wr
      have own0 := owns_newI wr i (h + 1) hs hn
      generalize madeCells #[.int .i64 0, .int .i64 0, .int .i64 0, .int .i64 0, .slice none 0 0, .slice none 0 0, .slice none 0 0] (i * 7) = Z at *
      have H1 : HI S (h + 1) h i f' v (wr.alloc (.cells Z 41)) := ⟨H.var.alloc _, H.own.alloc _, H.low, H.sg⟩
      have b1 := hb.alloc (by omega) (.cells Z 41)
      have s1 : h + 1 ≤ (wr.alloc (.cells Z 41)).heap.size := by simp; omega
      clear H hb hs
      go_wp2
      generalize wr.alloc (.cells Z 41) = w1 at *
      go_loopw [6] (fun vs wq => ∃ (m : Nat) (out fh : Nat → Ent) (v : Value), m ≤ i ∧ HI S (h + 1) h (i - m) fh v wq ∧ Hp fh (i - m) ∧ Rearr i (entI ix) (fun x => if x < m then out x else fh (x - m)) ∧ (∀ x, x + 1 < m → Hp.le (out x).k (out (x + 1)).k) ∧ (∀ x, x < i - m → 0 < m → Hp.le (out (m - 1)).k (fh x).k) ∧ wq.ownsRow (h + 1) 41 7 vs m (rowsL (fun e => S e.l) m out) ∧ Below h w wq ∧ h + 1 ≤ wq.heap.size) (fun vs _ => match vs with | .slice _ m _ => i - m | _ => 0)
      case atStart => exact ⟨0, f', f', v, by omega, H1, hp, hR.congr fun x _ => by rw [if_neg (by omega), Nat.sub_zero], fun x hx => absurd hx (by omega), fun x _ h0 => absurd h0 (by omega), own0, b1, s1⟩
      case round =>
        clear H1 own0 b1 s1 mk hp hR
        obtain ⟨m, out, fh, v, hm, H, hp, hR, hsrt, hle, hown, hb, hs⟩ := hrel
        have kl := lenI_any H
        obtain ⟨bs, cs, rfl⟩ : ∃ bs cs, u6 = .slice bs m cs := by
          rcases hown.2 with ⟨rfl, rfl⟩ | ⟨g, cap, _, rfl, _⟩ <;> exact ⟨_, _, rfl⟩
        by_cases hmn : m < i
        · obtain ⟨k, hk'⟩ : ∃ k, i - m = k + 1 := ⟨i - m - 1, by omega⟩
          rw [hk'] at H hp kl hle
          have hgt : (0 : Int) < (k : Int) + 1 := by omega
          have kp := popI_any hS (h + 1) h k fh v _ H hs (by omega) hp
          unfold PopI at kp
          have sy := hS.one (fh 0).l
          have nx := fun {W2 wa w5 f2 v2 v'} => next_invI (W2 := W2) (wa := wa) (w5 := w5) (f2 := f2) (v2 := v2) (v' := v') hk' hp hR hsrt hle H hown hb
          obtain ⟨y1, y2, y3, y4, y5, y6, y7, ey⟩ := eight (hS.len (fh 0).l)
          rw [ey] at kp sy nx
          go_wp2_with (first
            | (go_at_call 46; (with_reducible refine kl.mono ?_); rintro r w' ⟨rfl, hw'⟩; obtain rfl := hw'.symm)
            | (go_at_call 47; (with_reducible refine kp.mono ?_); rintro r w2 ⟨rfl, f2, v2, H2, hR2, hp2, hb2, hs2, hfr⟩; have o2 := owns_keep' hown fun g hg' => hfr g (hown.lt g hg').2 (fun e => by have := (hown.lt g hg').1; omega) (fun e => kind_ne hown H.own (by decide) hg' e.symm))
            | (at_builtin; refine wpList_append_own _ rfl _ _ 39 rfl (h + 1) 41 i0 (.agg #[.int .i64 0, .int .i64 0, .int .i64 0, .int .i64 0, .slice none 0 0, .slice none 0 0, .slice none 0 0]) 7 104 Tryz.underlying39 hi0 hz0 hz1 hz2 rfl (by decide) _ _ _ rfl (o2.alloc _) ⟨w2.heap.size, 0, none⟩ 1 1 [y1, y2, y3, y4, y5, y6, y7] rfl rfl (cells_news _ _ _) sy (by unfold maxLen; omega) (by omega) (by simp; omega) ?_; intro v' w5 hown5 hgrow _; obtain ⟨gq, cq, rfl, _, _⟩ := hown5.form (by omega)))
          go_roundw
          case rel => exact ⟨m + 1, fun x => if x = m then fh 0 else out x, f2, v2, nx hR2 hp2 H2 hb2 hs2 hfr ((Below.refl _ _).alloc (Nat.le_refl _) _) hgrow hown5⟩
          case measure => simp; omega
        · obtain rfl : m = i := by omega
          rw [Nat.sub_self] at kl
          rw [show ((0 : Nat) : Int) = 0 from rfl] at kl
          have hfin : Rearr m (entI ix) out := hR.congr fun x hx => by rw [if_pos hx]
          clear hp hle hR H
          go_wp2_with (first | (go_at_call 46; (with_reducible refine kl.mono ?_); rintro r w' ⟨rfl, hw'⟩; obtain rfl := hw'.symm))
          go_ret
          exact ⟨by rw [hh]; exact hb, out, _, rfl, hfin, hsrt, by rw [hh]; exact hown.mono (by omega)⟩
end
end Go.Proofs.YtlghjjennhpjeaaGreatDoor

/-
  How the document reads a shard: the sum of sizes (Total), the length of a column (Length).
-/
namespace Go.Proofs.YtlghjjennhpjeaaGreatDoor
open Go.RowKit Go.Deep

/-- A slice of values of one cell each. -/
def Hold (w : World) (v : Value) (xs : List Value) : Prop :=
  (v = .slice none 0 0 ∧ xs = []) ∨ ∃ g off cap, v = .slice (some ⟨g, off, none⟩) xs.length cap ∧ ∀ j u, xs[j]? = some u → w.cell? ⟨g, off + j, none⟩ = some u
theorem Hold.heap {w w' : World} {v : Value} {xs : List Value} (h : Hold w v xs) (hh : w'.heap = w.heap) : Hold w' v xs := by
  rcases h with h | ⟨g, off, cap, rfl, hc⟩
  · exact .inl h
  · exact .inr ⟨g, off, cap, rfl, fun j u hj => by
      have := hc j u hj
      unfold World.cell? at *
      rw [hh]; exact this⟩
theorem hold_owns {w : World} {base e n : Nat} {v : Value} {xs : List Value} (h : w.ownsRow base e 1 v n xs) : Hold w v xs := by
  have hl : xs.length = n := by have := h.1; omega
  rcases h.2 with ⟨rfl, h0⟩ | ⟨g, cap, cur, rfl, _⟩
  · exact .inl ⟨rfl, List.length_eq_zero_iff.1 (by omega)⟩
  · exact .inr ⟨g, 0, cap, by rw [hl], fun j u hj => by
      have hj' : j < xs.length := (List.getElem?_eq_some_iff.1 hj).1
      have hc := h.cellAt j (by omega)
      rw [Nat.zero_add, hc]; exact hj⟩

def natV (l : List Nat) : List Value := l.map fun (z : Nat) => Value.int .i64 (z : Int)
theorem natV_at {l : List Nat} {j : Nat} (h : j < l.length) : (natV l)[j]? = some (.int .i64 ((l.getD j 0 : Nat) : Int)) := by
  simp [natV, List.getElem?_map, List.getD_eq_getElem?_getD, List.getElem?_eq_getElem h]
theorem natV_length (l : List Nat) : (natV l).length = l.length := by simp [natV]

/-- The sum of sizes; above 65536: 65537. -/
def totalS (l : List Nat) : Nat := if l.sum ≤ 65536 then l.sum else 65537
theorem totalS_le (l : List Nat) : totalS l ≤ 65537 := by unfold totalS; split <;> omega

theorem sum_le_of_take (l : List Nat) (i : Nat) : (l.take i).sum ≤ l.sum := by
  have := List.sum_append (l₁ := l.take i) (l₂ := l.drop i)
  rw [List.take_append_drop] at this
  omega
theorem sum_take_succ {l : List Nat} {i : Nat} (h : i < l.length) : (l.take (i + 1)).sum = (l.take i).sum + l.getD i 0 := by
  rw [List.take_succ_eq_append_getElem h, List.sum_append]
  simp [List.getD_eq_getElem?_getD, List.getElem?_eq_getElem h]

set_option maxHeartbeats 1000000 in
set_option maxRecDepth 100000 in
theorem total_any (v : Value) (l : List Nat) (hz : ∀ i, l.getD i 0 < 2 ^ 63) (hl : l.length < 2 ^ 60) (w : World) (h : Hold w v (natV l)) :
    Calls Tryz.prog 62 #[v] w fun r w' => r = .returned (.int .i64 (totalS l : Nat)) ∧ w' = w := by
  obtain ⟨ba, cap, rfl⟩ : ∃ ba cap, v = .slice ba l.length cap := by
    rcases h with ⟨rfl, h0⟩ | ⟨g, off, cap, rfl, _⟩
    · have : l = [] := by simpa [natV] using h0
      subst this
      exact ⟨none, 0, rfl⟩
    · exact ⟨_, cap, by rw [natV_length]⟩
  go_enter Tryz.func62, Tryz.ntmps62
  go_wp2
  go_loop [3, 4] (fun vt vi => ∃ i : Nat, i ≤ l.length ∧ vi = .int .i64 (i : Int) ∧ vt = .int .i64 ((l.take i).sum : Nat) ∧ (l.take i).sum ≤ 65536) (fun _ i => l.length - (intOf i).toNat)
  case atStart => exact ⟨0, by omega, rfl, by simp, by simp⟩
  case round =>
    obtain ⟨i, hi, rfl, rfl, hs⟩ := hrel
    by_cases hlt : i < l.length
    · obtain ⟨a, hc⟩ : ∃ a, ba = some a ∧ a.spot = none ∧ w.cell? ⟨a.block, a.off + i, none⟩ = some (.int .i64 ((l.getD i 0 : Nat) : Int)) := by
        rcases h with ⟨h0, h1⟩ | ⟨g, off, c, e, hc⟩
        · have : l = [] := by simpa [natV] using h1
          subst this
          simp at hlt
        · injection e with e1 e2 e3
          exact ⟨_, e1, rfl, hc i _ (natV_at hlt)⟩
      obtain ⟨rfl, hsp, hcell⟩ := hc
      obtain ⟨b, off, sp⟩ := a
      simp only at hsp hcell
      subst hsp
      have hz' := hz i
      have H1 : Hid _ := sum_take_succ hlt
      have H2 : Hid _ := sum_le_of_take l (i + 1)
      obtain ⟨z, ez⟩ : ∃ z, l.getD i 0 = z := ⟨_, rfl⟩
      obtain ⟨s, es⟩ : ∃ s, (l.take i).sum = s := ⟨_, rfl⟩
      rw [ez] at hcell hz' H1
      rw [es] at hs H1 ⊢
      clear ez es h hz
      by_cases hbig : 65536 < z
      · have HT : Hid (totalS l = 65537) := by
          show totalS l = 65537
          have := H1.out; have := H2.out
          unfold totalS; rw [if_neg (by omega)]
        clear H1 H2
        go_wp2
        go_ret
        exact ⟨by rw [HT.out]; rfl, rfl⟩
      · by_cases hbig2 : 65536 < s + z
        · have HT : Hid (totalS l = 65537) := by
            show totalS l = 65537
            have := H1.out; have := H2.out
            unfold totalS; rw [if_neg (by omega)]
          clear H1 H2
          go_wp2
          go_ret
          exact ⟨by rw [HT.out]; rfl, rfl⟩
        · clear H2
          go_wp2
          go_round
          case rel => exact ⟨i + 1, by omega, by go_num, by rw [H1.out]; go_num, by rw [H1.out]; omega⟩
          case measure => simp [intOf]; omega
    · have e : l.take i = l := List.take_of_length_le (by omega)
      rw [e] at hs ⊢
      have HT : Hid (totalS l = l.sum) := by show totalS l = l.sum; unfold totalS; rw [if_pos hs]
      obtain ⟨s, es⟩ : ∃ s, l.sum = s := ⟨_, rfl⟩
      rw [es] at HT hs ⊢
      clear e h hz es
      go_wp2
      go_ret
      exact ⟨ret_i64 (by rw [HT.out]), rfl⟩

/-- The length of a column. -/
def lengthS (k : Nat) (l : List Nat) : Nat := (totalS l + k - 1) / k
theorem lengthS_eq {k : Nat} (hk : 1 ≤ k) (l : List Nat) : lengthS k l = if totalS l / k * k < totalS l then totalS l / k + 1 else totalS l / k := by
  unfold lengthS
  generalize totalS l = t
  have h1 := Nat.div_add_mod t k
  have h2 := Nat.mod_lt t (show 0 < k by omega)
  rw [Nat.mul_comm] at h1
  split
  · rename_i h
    rw [Nat.div_eq_of_lt_le]
    · rw [Nat.add_mul]; omega
    · rw [Nat.add_mul, Nat.add_mul]; omega
  · rename_i h
    rw [Nat.div_eq_of_lt_le]
    · omega
    · rw [Nat.add_mul]; omega

set_option maxHeartbeats 1000000 in
set_option maxRecDepth 100000 in
theorem length_any (K : Int) (k : Nat) (hK : K = k) (hk : 1 ≤ k) (hk2 : k ≤ 255) (v : Value) (l : List Nat) (hz : ∀ i, l.getD i 0 < 2 ^ 63) (hl : l.length < 2 ^ 60) (w : World) (h : Hold w v (natV l)) :
    Calls Tryz.prog 32 #[.int .i64 K, v] w fun r w' => r = .returned (.int .i64 (lengthS k l : Nat)) ∧ w' = w := by
  subst hK
  have HL : Hid _ := lengthS_eq hk l
  have ht := totalS_le l
  obtain ⟨t, et⟩ : ∃ t, totalS l = t := ⟨_, rfl⟩
  have ET : Hid (totalS l = t) := et
  rw [et] at ht HL
  clear et
  obtain ⟨q, eq⟩ : ∃ q, t / k = q := ⟨_, rfl⟩
  have hq : q ≤ t := eq ▸ Nat.div_le_self _ _
  have hqk : q * k ≤ t := eq ▸ Nat.div_mul_le_self _ _
  rw [eq] at HL
  have in64 : ∀ n : Int, -9223372036854775808 ≤ n ∧ n ≤ 9223372036854775807 → wrap64 n = n := fun n hn => (IntWalk.i64_left n).symm.trans (IntWalk.i64_in n hn)
  have W1 : Hid (wrap64 ((t : Int) / (k : Int)) = (q : Int)) := by
    show wrap64 ((t : Int) / (k : Int)) = (q : Int)
    rw [← Int.natCast_ediv, eq]; exact in64 _ (by omega)
  have W2 : Hid (wrap64 ((q : Int) * (k : Int)) = ((q * k : Nat) : Int)) := by
    show wrap64 ((q : Int) * (k : Int)) = ((q * k : Nat) : Int)
    rw [← Int.natCast_mul]; exact in64 _ (by omega)
  have W3 : Hid (wrap64 ((q : Int) + 1) = ((q + 1 : Nat) : Int)) := by
    show wrap64 ((q : Int) + 1) = ((q + 1 : Nat) : Int)
    rw [in64 _ (by omega)]; rfl
  clear in64 hq hqk eq
  go_enter Tryz.func32, Tryz.ntmps32
  go_wp2_with (first | (go_at_call 62; refine (total_any v l hz hl _ h).mono ?_; rintro r w' ⟨rfl, hw'⟩; obtain rfl := hw'.symm; rw [ET.out]))
  · have hx : wrap64 (wrap64 ((t : Int) / (k : Int)) * (k : Int)) < (t : Int) := by assumption
    rw [W1.out, W2.out] at hx
    go_ret
    refine ⟨ret_i64 ?_, rfl⟩
    rw [HL.out, if_pos (by omega), W1.out, W3.out]
  · have hx : (t : Int) ≤ wrap64 (wrap64 ((t : Int) / (k : Int)) * (k : Int)) := by assumption
    rw [W1.out, W2.out] at hx
    go_ret
    refine ⟨ret_i64 ?_, rfl⟩
    rw [HL.out, if_neg (by omega), W1.out]
end Go.Proofs.YtlghjjennhpjeaaGreatDoor

/-
  slices.Equal of words and of numbers.
-/
namespace Go.Proofs.YtlghjjennhpjeaaGreatDoor
open Go.RowKit Go.Deep

theorem eq_of_get {α : Type} {a b : List α} (hl : a.length = b.length) (h : ∀ t, t < a.length → a[t]? = b[t]?) : a = b := by
  apply List.ext_getElem?
  intro i
  by_cases hi : i < a.length
  · exact h i hi
  · rw [List.getElem?_eq_none (by omega), List.getElem?_eq_none (by omega)]
theorem Lies.len {w : World} {v : Value} {xs : List Value} (h : Lies w v xs) : ∃ ba cap, v = .slice ba xs.length cap := by
  obtain ⟨ba, cap, e, _⟩ := h
  exact ⟨ba, cap, e⟩
theorem Lies.get {w : World} {ba : Option Addr} {cap n : Nat} {xs : List Value} (h : Lies w (.slice ba n cap) xs) {j : Nat} {u : Value} (hj : xs[j]? = some u) : ∃ b off, ba = some ⟨b, off, none⟩ ∧ w.cell? ⟨b, off + j, none⟩ = some u := by
  obtain ⟨ba', cap', e, _, h3⟩ := h
  cases e
  exact h3 j u hj

theorem drew_on {w w' : World} (h : ∃ m, w' = w.drewN m) : ∃ m, w'.drew = w.drewN m := by
  obtain ⟨m, rfl⟩ := h
  exact ⟨m + 1, rfl⟩
set_option maxHeartbeats 2000000 in
set_option maxRecDepth 100000 in
theorem eqStr_any (a b : List (List UInt8)) (va vb : Value) (w : World) (ha : Lies w va (nameV a)) (hb : Lies w vb (nameV b)) (hl : a.length ≤ 1048576) :
    Calls Tryz.prog 71 #[va, vb] w fun r w' => r = .returned (.bool (decide (a = b))) ∧ ∃ m, w' = w.drewN m := by
  obtain ⟨pa, ca, rfl⟩ := ha.len
  obtain ⟨pb, cb, rfl⟩ := hb.len
  rw [nameV_length] at ha hb ⊢
  rw [nameV_length]
  by_cases hn : a.length = b.length
  · have h1 : ((a.length : Int) == (b.length : Int)) = true := by simp; omega
    go_enter Tryz.func71, Tryz.ntmps71
    go_wp2
    go_loopw [5, 13] (fun _ vi wr => ∃ j : Nat, j ≤ a.length ∧ vi = .int .i64 (j : Int) ∧ (∃ m, wr = w.drewN m) ∧ ∀ t, t < j → a[t]? = b[t]?) (fun _ vi _ => a.length - (intOf vi).toNat)
    case atStart => exact ⟨0, by omega, rfl, ⟨0, rfl⟩, fun t ht => absurd ht (by omega)⟩
    case round =>
      obtain ⟨j, hj, rfl, hw, hsame⟩ := hrel
      by_cases hlt : j < a.length
      · have hlt' : (j : Int) < (a.length : Int) := by omega
        have hlt2 : (j : Int) < (b.length : Int) := by omega
        obtain ⟨ga, oa, rfl, c1⟩ := ha.get (nameV_at hlt)
        obtain ⟨gb, ob, rfl, c2⟩ := hb.get (nameV_at (l := b) (j := j) (by omega))
        replace c1 : wr.cell? ⟨ga, oa + j, none⟩ = some (.string ⟨(a.getD j []).toArray⟩) := by obtain ⟨m, rfl⟩ := hw; exact c1
        replace c2 : wr.cell? ⟨gb, ob + j, none⟩ = some (.string ⟨(b.getD j []).toArray⟩) := by obtain ⟨m, rfl⟩ := hw; exact c2
        by_cases e : a.getD j [] = b.getD j []
        · have hs : ∀ t, t < j + 1 → a[t]? = b[t]? := fun t ht => by
            by_cases et : t = j
            · subst et
              simp only [List.getD_eq_getElem?_getD, List.getElem?_eq_getElem hlt, List.getElem?_eq_getElem (show t < b.length by omega), Option.getD_some] at e ⊢
              rw [e]
            · exact hsame t (by omega)
          rw [e] at c1
          clear hb ha
          go_wp2_with fail
          go_region
          go_wp2
          go_roundw
          case rel => exact ⟨j + 1, by omega, by go_num, drew_on hw, hs⟩
          case measure => simp [intOf]; omega
        · have hne : (a.getD j [] == b.getD j []) = false := beq_eq_false_iff_ne.2 e
          have hd : decide (a = b) = false := decide_eq_false fun h => e (by rw [h])
          clear hb ha
          generalize a.getD j [] = x at *
          generalize b.getD j [] = y at *
          go_wp2_with fail
          go_region
          go_wp2
          go_ret
          exact ⟨by rw [hd]; rfl, drew_on hw⟩
      · obtain rfl : j = a.length := by omega
        have hnl : ¬ ((a.length : Int) < (a.length : Int)) := by omega
        have hd : decide (a = b) = true := decide_eq_true (eq_of_get hn hsame)
        go_wp2
        go_ret
        exact ⟨by first | rfl | (rw [hd]; rfl), hw⟩
  · have h1 : ((a.length : Int) == (b.length : Int)) = false := by simp; omega
    have hd : decide (a = b) = false := decide_eq_false fun h => hn (by rw [h])
    go_enter Tryz.func71, Tryz.ntmps71
    go_wp2
    go_ret
    exact ⟨by rw [hd]; rfl, 0, rfl⟩
set_option maxHeartbeats 2000000 in
set_option maxRecDepth 100000 in
theorem eqInt_any (a b : List Nat) (va vb : Value) (w : World) (ha : Lies w va (natV a)) (hb : Lies w vb (natV b)) (hl : a.length ≤ 1048576) :
    Calls Tryz.prog 72 #[va, vb] w fun r w' => r = .returned (.bool (decide (a = b))) ∧ ∃ m, w' = w.drewN m := by
  obtain ⟨pa, ca, rfl⟩ := ha.len
  obtain ⟨pb, cb, rfl⟩ := hb.len
  rw [natV_length] at ha hb ⊢
  rw [natV_length]
  by_cases hn : a.length = b.length
  · have h1 : ((a.length : Int) == (b.length : Int)) = true := by simp; omega
    go_enter Tryz.func72, Tryz.ntmps72
    go_wp2
    go_loopw [5, 13] (fun _ vi wr => ∃ j : Nat, j ≤ a.length ∧ vi = .int .i64 (j : Int) ∧ (∃ m, wr = w.drewN m) ∧ ∀ t, t < j → a[t]? = b[t]?) (fun _ vi _ => a.length - (intOf vi).toNat)
    case atStart => exact ⟨0, by omega, rfl, ⟨0, rfl⟩, fun t ht => absurd ht (by omega)⟩
    case round =>
      obtain ⟨j, hj, rfl, hw, hsame⟩ := hrel
      by_cases hlt : j < a.length
      · have hlt' : (j : Int) < (a.length : Int) := by omega
        have hlt2 : (j : Int) < (b.length : Int) := by omega
        obtain ⟨ga, oa, rfl, c1⟩ := ha.get (natV_at hlt)
        obtain ⟨gb, ob, rfl, c2⟩ := hb.get (natV_at (l := b) (j := j) (by omega))
        replace c1 : wr.cell? ⟨ga, oa + j, none⟩ = some (.int .i64 ((a.getD j 0 : Nat) : Int)) := by obtain ⟨m, rfl⟩ := hw; exact c1
        replace c2 : wr.cell? ⟨gb, ob + j, none⟩ = some (.int .i64 ((b.getD j 0 : Nat) : Int)) := by obtain ⟨m, rfl⟩ := hw; exact c2
        by_cases e : a.getD j 0 = b.getD j 0
        · have hs : ∀ t, t < j + 1 → a[t]? = b[t]? := fun t ht => by
            by_cases et : t = j
            · subst et
              simp only [List.getD_eq_getElem?_getD, List.getElem?_eq_getElem hlt, List.getElem?_eq_getElem (show t < b.length by omega), Option.getD_some] at e ⊢
              rw [e]
            · exact hsame t (by omega)
          rw [e] at c1
          clear hb ha
          go_wp2_with fail
          go_region
          go_wp2
          go_roundw
          case rel => exact ⟨j + 1, by omega, by go_num, drew_on hw, hs⟩
          case measure => simp [intOf]; omega
        · have hne : (((a.getD j 0 : Nat) : Int) == ((b.getD j 0 : Nat) : Int)) = false := beq_eq_false_iff_ne.2 fun x => e (by omega)
          have hd : decide (a = b) = false := decide_eq_false fun h => e (by rw [h])
          clear hb ha
          generalize a.getD j 0 = x at *
          generalize b.getD j 0 = y at *
          go_wp2_with fail
          go_region
          go_wp2
          go_ret
          exact ⟨by rw [hd]; rfl, drew_on hw⟩
      · obtain rfl : j = a.length := by omega
        have hnl : ¬ ((a.length : Int) < (a.length : Int)) := by omega
        have hd : decide (a = b) = true := decide_eq_true (eq_of_get hn hsame)
        go_wp2
        go_ret
        exact ⟨by first | rfl | (rw [hd]; rfl), hw⟩
  · have h1 : ((a.length : Int) == (b.length : Int)) = false := by simp; omega
    have hd : decide (a = b) = false := decide_eq_false fun h => hn (by rw [h])
    go_enter Tryz.func72, Tryz.ntmps72
    go_wp2
    go_ret
    exact ⟨by rw [hd]; rfl, 0, rfl⟩
end Go.Proofs.YtlghjjennhpjeaaGreatDoor

/-
  How the document reads a shard: the small calls once more, what is wrong said by one thing: nothing, or the first error and its place.
-/
namespace Go.Proofs.YtlghjjennhpjeaaGreatDoor
open Go.RowKit Go.Deep

def eR : Option (Nat × Nat) → Nat
  | none => 0
  | some x => x.1
def pR : Option (Nat × Nat) → Nat
  | none => 0
  | some x => x.2
def orE (r s : Option (Nat × Nat)) : Option (Nat × Nat) := match r with | none => s | some x => some x
/-- No error's number is 0. -/
def Errs (r : Option (Nat × Nat)) : Prop := ∀ x, r = some x → x.1 ≠ 0
theorem errs_none : Errs none := fun _ h => by cases h
theorem errs_some {x y : Nat} (h : x ≠ 0) : Errs (some (x, y)) := fun _ e => by cases e; exact h
theorem Errs.or {r s : Option (Nat × Nat)} (h : Errs r) (h' : Errs s) : Errs (orE r s) := by
  cases r with
  | none => exact h'
  | some x => exact h
theorem Errs.zero {r : Option (Nat × Nat)} (h : Errs r) : eR r = 0 ↔ r = none := by
  cases r with
  | none => simp [eR]
  | some x => simp [eR, h x rfl]
theorem eOf_eR {r s : Option (Nat × Nat)} (h : Errs r) : eOf s (eR r) = eR (orE r s) := by
  cases r with
  | none => cases s <;> simp [eOf, eR, orE, first]
  | some x => rw [eOf_err (by exact h x rfl)]; rfl
theorem pOf_pR {r s : Option (Nat × Nat)} (h : Errs r) : pOf s (eR r) (pR r) = pR (orE r s) := by
  cases r with
  | none => cases s <;> simp [pOf, eR, pR, orE, firstP]
  | some x => rw [pOf_err (by exact h x rfl)]; rfl
theorem errs_fixE (l : List UInt8) : ∀ (ws : List UInt8) (a : Nat), Errs (fixE l a ws)
  | [], _ => errs_none
  | c :: ws, a => by
    unfold fixE
    split
    · exact errs_some (by decide)
    · split
      · exact errs_fixE l ws (a + 1)
      · exact errs_some (by decide)
theorem errs_sealE (l : List UInt8) (a n : Nat) : Errs (sealE l a n) := by
  unfold sealE
  split
  · exact errs_some (by decide)
  · split
    · exact errs_none
    · exact errs_some (by decide)
/-- What a test finds. -/
def mustE (ok : Bool) (x y : Nat) : Option (Nat × Nat) := if ok then none else some (x, y)
theorem errs_mustE {ok : Bool} {x y : Nat} (h : x ≠ 0) : Errs (mustE ok x y) := by
  unfold mustE
  split
  · exact errs_none
  · exact errs_some h

structure ScR (w : World) (sb : Nat) (v : Value) (at_ : Nat) (r : Option (Nat × Nat)) : Prop where
  scn : Scn w sb v at_ (eR r) (pR r)
  errs : Errs r
theorem ScR.later {w w' : World} {sb : Nat} {v : Value} {at_ B : Nat} {r : Option (Nat × Nat)} {S : Nat → Prop} (h : ScR w sb v at_ r) (hb : But B S w w') (h1 : sb < B) (h2 : ¬ S sb) : ScR w' sb v at_ r := ⟨h.scn.later hb h1 h2, h.errs⟩
theorem ScR.heap {w w' : World} {sb : Nat} {v : Value} {at_ : Nat} {r : Option (Nat × Nat)} (h : ScR w sb v at_ r) (hh : w'.heap = w.heap) : ScR w' sb v at_ r := ⟨h.scn.heap hh, h.errs⟩
theorem ScR.lt {w : World} {sb : Nat} {v : Value} {at_ : Nat} {r : Option (Nat × Nat)} (h : ScR w sb v at_ r) : sb < w.heap.size := RowAt.lt h.scn

section
variable {sb : Nat} {v : Value} {at_ : Nat} {r : Option (Nat × Nat)} {w : World}
theorem err_r (X Y : Int) (x y : Nat) (hX : X = x) (hY : Y = y) (hx : x ≠ 0) (h : ScR w sb v at_ r) :
    Calls Tryz.prog 61 #[.pointer (some ⟨sb, 0, none⟩), .int .i64 X, .int .i64 Y] w fun q w' => q = .returned (.tuple #[]) ∧ ScR w' sb v at_ (orE r (some (x, y))) ∧ But w.heap.size (· = sb) w w' := by
  refine (err_any sb X Y x y hX hY v at_ _ _ w h.scn).mono ?_
  rintro q w' ⟨h1, h2, h3⟩
  refine ⟨h1, ⟨?_, h.errs.or (errs_some hx)⟩, h3⟩
  have e1 := eOf_eR (s := some (x, y)) h.errs
  have e2 := pOf_pR (s := some (x, y)) h.errs
  rw [← e1, ← e2]
  exact h2
theorem must_r (ok : Bool) (X Y : Int) (x y : Nat) (hX : X = x) (hY : Y = y) (hx : x ≠ 0) (h : ScR w sb v at_ r) :
    Calls Tryz.prog 31 #[.pointer (some ⟨sb, 0, none⟩), .bool ok, .int .i64 X, .int .i64 Y] w fun q w' => q = .returned (.tuple #[]) ∧ ScR w' sb v at_ (orE r (mustE ok x y)) ∧ But w.heap.size (· = sb) w w' := by
  refine (must_any sb ok X Y x y hX hY v at_ _ _ w h.scn).mono ?_
  rintro q w' ⟨h1, h2, h3⟩
  refine ⟨h1, ⟨?_, h.errs.or (errs_mustE hx)⟩, h3⟩
  rw [← eOf_eR h.errs, ← pOf_pR h.errs]
  cases ok <;> exact h2
end
section
variable {sb bb bo cap : Nat} {l : List UInt8} {at_ : Nat} {r : Option (Nat × Nat)} {w : World}
theorem fixed_r (ws : List UInt8) (hws : ws.length < 100) (hbs : bb ≠ sb) (hl : l.length < 2 ^ 60) (ha : at_ < 2 ^ 60) (h : ScR w sb (.slice (some ⟨bb, bo, none⟩) l.length cap) at_ r) (hb : Byt w bb bo l) (hbb : bb < w.heap.size) :
    Calls Tryz.prog 34 #[.pointer (some ⟨sb, 0, none⟩), .string ⟨ws.toArray⟩] w fun q w' => q = .returned (.tuple #[]) ∧ ScR w' sb (.slice (some ⟨bb, bo, none⟩) l.length cap) at_ (orE r (fixE l at_ ws)) ∧ But w.heap.size (· = sb) w w' := by
  refine (fixed_any sb ws hws bb bo cap hbs l hl at_ _ _ ha w h.scn hb hbb).mono ?_
  rintro q w' ⟨h1, h2, h3⟩
  refine ⟨h1, ⟨?_, h.errs.or (errs_fixE _ _ _)⟩, h3⟩
  rw [← eOf_eR h.errs, ← pOf_pR h.errs]
  exact h2
theorem seal_r (N : Int) (n : Nat) (hN : N = n) (hn : n < 2 ^ 30) (hbs : bb ≠ sb) (hl : l.length < 2 ^ 60) (hcap : l.length ≤ cap) (ha : at_ < 2 ^ 59) (h : ScR w sb (.slice (some ⟨bb, bo, none⟩) l.length cap) at_ r) (hb : Byt w bb bo l) (hbb : bb < w.heap.size) :
    Calls Tryz.prog 60 #[.pointer (some ⟨sb, 0, none⟩), .int .i64 N] w fun q w' => q = .returned (.tuple #[]) ∧ ScR w' sb (.slice (some ⟨bb, bo, none⟩) l.length cap) at_ (orE r (sealE l at_ n)) ∧ But w.heap.size (· = sb) w w' := by
  refine (seal_any sb N n hN hn bb bo cap hbs l hl hcap at_ _ _ ha w h.scn hb hbb).mono ?_
  rintro q w' ⟨h1, h2, h3⟩
  refine ⟨h1, ⟨?_, h.errs.or (errs_sealE _ _ _)⟩, h3⟩
  rw [← eOf_eR h.errs, ← pOf_pR h.errs]
  exact h2
theorem num_ok (A N : Int) (a n : Nat) (hA : A = a) (hN : N = n) (hn : n ≤ 4) (hl : l.length < 2 ^ 60) (h : ScR w sb (.slice (some ⟨bb, bo, none⟩) l.length cap) at_ none) (hb : Byt w bb bo l) (hr : a + n ≤ l.length) :
    Calls Tryz.prog 29 #[.pointer (some ⟨sb, 0, none⟩), .int .i64 A, .int .i64 N] w fun q w' => q = .returned (.int .i64 (le l a n : Nat)) ∧ w' = w :=
  snum_any sb A N a n hA hN hn bb bo cap l hl at_ 0 0 w h.scn hb (fun _ => hr)
theorem num_err (A N : Int) (a n : Nat) (hA : A = a) (hN : N = n) (hn : n ≤ 4) (hl : l.length < 2 ^ 60) (x : Nat × Nat) (h : ScR w sb (.slice (some ⟨bb, bo, none⟩) l.length cap) at_ (some x)) (hb : Byt w bb bo l) :
    Calls Tryz.prog 29 #[.pointer (some ⟨sb, 0, none⟩), .int .i64 A, .int .i64 N] w fun q w' => q = .returned (.int .i64 0) ∧ w' = w := by
  have hx : x.1 ≠ 0 := h.errs x rfl
  refine (snum_any sb A N a n hA hN hn bb bo cap l hl at_ x.1 x.2 w h.scn hb (fun e => absurd e hx)).mono ?_
  rintro q w' ⟨h1, h2⟩
  rw [if_neg hx] at h1
  exact ⟨h1, h2⟩
end
end Go.Proofs.YtlghjjennhpjeaaGreatDoor
