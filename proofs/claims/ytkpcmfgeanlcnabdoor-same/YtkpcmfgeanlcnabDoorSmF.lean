/-
  The statement Same from its first Encode to its end.
-/
import Derived.Test.YtkpcmfgeanlcnabDoorSmE
import Derived.Sort.QuietIn
namespace Go.Proofs.YtkpcmfgeanlcnabDoor
open Go.RowKit Go.Deep Go.Lf Go.Conc Go.Hp

noncomputable def fr9 (T : Array Value) : Frame := (base 3).at ⟨T, []⟩ (.inRegion sO9 [2, 3, 4, 5, 6, 7] :: [.code sa10])
noncomputable def fr10 (T : Array Value) : Frame := (base 3).at ⟨T, []⟩ (.inRegion sO10 [2, 3, 4, 5, 6, 7] :: [.code sa11])
noncomputable def fr21 (T : Array Value) : Frame := (base 3).at ⟨T, []⟩ (.inRegion sO21 [2, 3, 4, 5, 6, 7] :: [.code sa22])
/-- .. with the first list of shards. -/
def TS2 (pb : Nat) (vb vt va : Value) (T : Array Value) : Prop := ∃ f : Nat → Value, T = #[f 0, f 1, f 2, f 3, f 4, f 5, f 6, f 7, f 8, f 9, f 10, .pointer (some ⟨pb, 0, none⟩), vb, f 13, vt, f 15, va, .int .i64 0, f 18, f 19, f 20, f 21, f 22, f 23, f 24, f 25, f 26, f 27, f 28, f 29, f 30, f 31, f 32, f 33, f 34, f 35, f 36, f 37, f 38, f 39, f 40, f 41, f 42, f 43, f 44, f 45, f 46, f 47, f 48, f 49, f 50, f 51, f 52, f 53, f 54, f 55, f 56, f 57, f 58, f 59, f 60, f 61, f 62, f 63, f 64, f 65, f 66, f 67, f 68, f 69, f 70, f 71, f 72, f 73, f 74, f 75, f 76, f 77, f 78, f 79, f 80, f 81, f 82, f 83, f 84, f 85, f 86, f 87, f 88, f 89, f 90, f 91, f 92, f 93, f 94, f 95, f 96, f 97, f 98, f 99, f 100, f 101, f 102, f 103, f 104, f 105, f 106, f 107, f 108, f 109, f 110, f 111, f 112, f 113, f 114, f 115, f 116, f 117, f 118, f 119, f 120]
theorem ts2_mk {pb : Nat} {vb vt va : Value} {T : Array Value} (h : T = #[T.getD 0 undef, T.getD 1 undef, T.getD 2 undef, T.getD 3 undef, T.getD 4 undef, T.getD 5 undef, T.getD 6 undef, T.getD 7 undef, T.getD 8 undef, T.getD 9 undef, T.getD 10 undef, .pointer (some ⟨pb, 0, none⟩), vb, T.getD 13 undef, vt, T.getD 15 undef, va, .int .i64 0, T.getD 18 undef, T.getD 19 undef, T.getD 20 undef, T.getD 21 undef, T.getD 22 undef, T.getD 23 undef, T.getD 24 undef, T.getD 25 undef, T.getD 26 undef, T.getD 27 undef, T.getD 28 undef, T.getD 29 undef, T.getD 30 undef, T.getD 31 undef, T.getD 32 undef, T.getD 33 undef, T.getD 34 undef, T.getD 35 undef, T.getD 36 undef, T.getD 37 undef, T.getD 38 undef, T.getD 39 undef, T.getD 40 undef, T.getD 41 undef, T.getD 42 undef, T.getD 43 undef, T.getD 44 undef, T.getD 45 undef, T.getD 46 undef, T.getD 47 undef, T.getD 48 undef, T.getD 49 undef, T.getD 50 undef, T.getD 51 undef, T.getD 52 undef, T.getD 53 undef, T.getD 54 undef, T.getD 55 undef, T.getD 56 undef, T.getD 57 undef, T.getD 58 undef, T.getD 59 undef, T.getD 60 undef, T.getD 61 undef, T.getD 62 undef, T.getD 63 undef, T.getD 64 undef, T.getD 65 undef, T.getD 66 undef, T.getD 67 undef, T.getD 68 undef, T.getD 69 undef, T.getD 70 undef, T.getD 71 undef, T.getD 72 undef, T.getD 73 undef, T.getD 74 undef, T.getD 75 undef, T.getD 76 undef, T.getD 77 undef, T.getD 78 undef, T.getD 79 undef, T.getD 80 undef, T.getD 81 undef, T.getD 82 undef, T.getD 83 undef, T.getD 84 undef, T.getD 85 undef, T.getD 86 undef, T.getD 87 undef, T.getD 88 undef, T.getD 89 undef, T.getD 90 undef, T.getD 91 undef, T.getD 92 undef, T.getD 93 undef, T.getD 94 undef, T.getD 95 undef, T.getD 96 undef, T.getD 97 undef, T.getD 98 undef, T.getD 99 undef, T.getD 100 undef, T.getD 101 undef, T.getD 102 undef, T.getD 103 undef, T.getD 104 undef, T.getD 105 undef, T.getD 106 undef, T.getD 107 undef, T.getD 108 undef, T.getD 109 undef, T.getD 110 undef, T.getD 111 undef, T.getD 112 undef, T.getD 113 undef, T.getD 114 undef, T.getD 115 undef, T.getD 116 undef, T.getD 117 undef, T.getD 118 undef, T.getD 119 undef, T.getD 120 undef]) : TS2 pb vb vt va T := ⟨fun i => T.getD i undef, h⟩
/-- .. with the list that bears a blob twice. -/
def TS3 (pb : Nat) (vc : Value) (T : Array Value) : Prop := ∃ f : Nat → Value, T = #[f 0, f 1, f 2, f 3, f 4, f 5, f 6, f 7, f 8, f 9, f 10, .pointer (some ⟨pb, 0, none⟩), f 12, f 13, f 14, f 15, f 16, f 17, f 18, f 19, f 20, vc, f 22, f 23, f 24, f 25, f 26, f 27, f 28, f 29, f 30, f 31, f 32, f 33, f 34, f 35, f 36, f 37, f 38, f 39, f 40, f 41, f 42, f 43, f 44, f 45, f 46, f 47, f 48, f 49, f 50, f 51, f 52, f 53, f 54, f 55, f 56, f 57, f 58, f 59, f 60, f 61, f 62, f 63, f 64, f 65, f 66, f 67, f 68, f 69, f 70, f 71, f 72, f 73, f 74, f 75, f 76, f 77, f 78, f 79, f 80, f 81, f 82, f 83, f 84, f 85, f 86, f 87, f 88, f 89, f 90, f 91, f 92, f 93, f 94, f 95, f 96, f 97, f 98, f 99, f 100, f 101, f 102, f 103, f 104, f 105, f 106, f 107, f 108, f 109, f 110, f 111, f 112, f 113, f 114, f 115, f 116, f 117, f 118, f 119, f 120]
theorem ts3_mk {pb : Nat} {vc : Value} {T : Array Value} (h : T = #[T.getD 0 undef, T.getD 1 undef, T.getD 2 undef, T.getD 3 undef, T.getD 4 undef, T.getD 5 undef, T.getD 6 undef, T.getD 7 undef, T.getD 8 undef, T.getD 9 undef, T.getD 10 undef, .pointer (some ⟨pb, 0, none⟩), T.getD 12 undef, T.getD 13 undef, T.getD 14 undef, T.getD 15 undef, T.getD 16 undef, T.getD 17 undef, T.getD 18 undef, T.getD 19 undef, T.getD 20 undef, vc, T.getD 22 undef, T.getD 23 undef, T.getD 24 undef, T.getD 25 undef, T.getD 26 undef, T.getD 27 undef, T.getD 28 undef, T.getD 29 undef, T.getD 30 undef, T.getD 31 undef, T.getD 32 undef, T.getD 33 undef, T.getD 34 undef, T.getD 35 undef, T.getD 36 undef, T.getD 37 undef, T.getD 38 undef, T.getD 39 undef, T.getD 40 undef, T.getD 41 undef, T.getD 42 undef, T.getD 43 undef, T.getD 44 undef, T.getD 45 undef, T.getD 46 undef, T.getD 47 undef, T.getD 48 undef, T.getD 49 undef, T.getD 50 undef, T.getD 51 undef, T.getD 52 undef, T.getD 53 undef, T.getD 54 undef, T.getD 55 undef, T.getD 56 undef, T.getD 57 undef, T.getD 58 undef, T.getD 59 undef, T.getD 60 undef, T.getD 61 undef, T.getD 62 undef, T.getD 63 undef, T.getD 64 undef, T.getD 65 undef, T.getD 66 undef, T.getD 67 undef, T.getD 68 undef, T.getD 69 undef, T.getD 70 undef, T.getD 71 undef, T.getD 72 undef, T.getD 73 undef, T.getD 74 undef, T.getD 75 undef, T.getD 76 undef, T.getD 77 undef, T.getD 78 undef, T.getD 79 undef, T.getD 80 undef, T.getD 81 undef, T.getD 82 undef, T.getD 83 undef, T.getD 84 undef, T.getD 85 undef, T.getD 86 undef, T.getD 87 undef, T.getD 88 undef, T.getD 89 undef, T.getD 90 undef, T.getD 91 undef, T.getD 92 undef, T.getD 93 undef, T.getD 94 undef, T.getD 95 undef, T.getD 96 undef, T.getD 97 undef, T.getD 98 undef, T.getD 99 undef, T.getD 100 undef, T.getD 101 undef, T.getD 102 undef, T.getD 103 undef, T.getD 104 undef, T.getD 105 undef, T.getD 106 undef, T.getD 107 undef, T.getD 108 undef, T.getD 109 undef, T.getD 110 undef, T.getD 111 undef, T.getD 112 undef, T.getD 113 undef, T.getD 114 undef, T.getD 115 undef, T.getD 116 undef, T.getD 117 undef, T.getD 118 undef, T.getD 119 undef, T.getD 120 undef]) : TS3 pb vc T := ⟨fun i => T.getD i undef, h⟩

section
variable {X : Nat → Prop} {Y : Nat → Option Obj} {D : Nat → World → Array Event → Prop} {Stop : Goroutine → World → Prop} {w : World} {h0 K N C m : Nat} {f : Nat → Ent} {Dt : Nat → List UInt8} {xs : List Nat} {pb : Nat} {vb vt va : Value}
set_option maxHeartbeats 8000000 in
set_option maxRecDepth 100000 in
theorem into9 (hDk : Dok X D) {T : Array Value} (hT : TS pb vb vt T) (hS : SmS h0 K N C m f Dt xs pb vb vt w)
    (hnext : ∀ T', TS pb vb vt T' → ReaI Tryd.prog X Y D Stop 7 [fr9 T'] [.code enBody] ⟨#[vb, .agg #[.int .i64 ((K : Nat) : Int), .int .i64 ((N : Nat) : Int), .int .i64 ((C : Nat) : Int)]] ++ Array.replicate 26 undef, []⟩ w) :
    ReaI Tryd.prog X Y D Stop 3 [] [.code sa9] ⟨T, []⟩ w := by
  obtain ⟨g, rfl⟩ := hT
  have c0 := hS.pre.par.cell (i := 0) rfl
  have c1 := hS.pre.par.cell (i := 1) rfl
  have c2 := hS.pre.par.cell (i := 2) rfl
  rw [sa9_eq]
  refine reachI_split hDk rfl (reaI_region hDk ?_)
  rw [sO9_size]
  simp only [List.range, List.range.loop]
  refine reaR_op goodF hDk vb (by simp only [sO9, q9]; rfl) rfl (by kernel_rfl) (fun z _ => by go_simp) ?_
  walk_nrm
  refine reaR_op goodF hDk (.agg #[.int .i64 ((K : Nat) : Int), .int .i64 ((N : Nat) : Int), .int .i64 ((C : Nat) : Int)]) (by simp only [sO9, q9]; rfl) rfl (by kernel_rfl) (fun z hz => by
    have e : ∀ a, z.cell? a = w.cell? a := fun a => by simp only [World.cell?, hz]
    rw [← e] at c0 c1 c2
    go_simp) ?_
  walk_nrm
  refine reaR_call hDk (by simp only [sO9, q9]; rfl) rfl (by rfl) Tryd.func7 (by kernel_rfl) (c := enBody) (by kernel_rfl) (vs := #[vb, .agg #[.int .i64 ((K : Nat) : Int), .int .i64 ((N : Nat) : Int), .int .i64 ((C : Nat) : Int)]]) (n := 26) (by simp [Act.eval]) (by kernel_rfl) ?_
  unfold fr9 at hnext
  exact hnext _ (ts_mk rfl)
set_option maxHeartbeats 8000000 in
set_option maxRecDepth 100000 in
theorem into10 (hDk : Dok X D) {T : Array Value} (hT : TS pb vb vt T) (hS : SmS h0 K N C m f Dt xs pb vb vt w)
    (hnext : ∀ T', TS2 pb vb vt va T' → ReaI Tryd.prog X Y D Stop 7 [fr10 T'] [.code enBody] ⟨#[vt, .agg #[.int .i64 ((K : Nat) : Int), .int .i64 ((N : Nat) : Int), .int .i64 ((C : Nat) : Int)]] ++ Array.replicate 26 undef, []⟩ w) :
    ∀ z, SimT X Y z w → GoesI Tryd.prog D Stop (G ((fr9 T).finish (.tuple #[va, .int .i64 0])) []) z := by
  rw [show fr9 T = Dn none [] 3 T (.inRegion sO9 [2, 3, 4, 5, 6, 7] :: [.code sa10]) from rfl]
  rw [Dn_finish (by simp only [sO9, q9]; rfl)]
  show ReaR _ _ _ _ _ _ _ _ _ _ _ _
  obtain ⟨g, rfl⟩ := hT
  have c0 := hS.pre.par.cell (i := 0) rfl
  have c1 := hS.pre.par.cell (i := 1) rfl
  have c2 := hS.pre.par.cell (i := 2) rfl
  walk_nrm
  refine reaR_op goodF hDk (.tuple #[va, .int .i64 0]) (by simp only [sO9, q9]; rfl) rfl (by kernel_rfl) (fun z _ => by go_simp) ?_
  walk_nrm
  refine reaR_op goodF hDk va (by simp only [sO9, q9]; rfl) rfl (by kernel_rfl) (fun z _ => by go_simp) ?_
  walk_nrm
  refine reaR_op goodF hDk (.int .i64 0) (by simp only [sO9, q9]; rfl) rfl (by kernel_rfl) (fun z _ => by go_simp) ?_
  walk_nrm
  refine reaR_op goodF hDk va (by simp only [sO9, q9]; rfl) rfl (by kernel_rfl) (fun z _ => by go_simp) ?_
  walk_nrm
  refine reaR_op goodF hDk (.int .i64 0) (by simp only [sO9, q9]; rfl) rfl (by kernel_rfl) (fun z _ => by go_simp) ?_
  walk_nrm
  refine reaR_endReg hDk ?_
  rw [sa10_eq]
  refine reaR_split hDk (reaR_region hDk ?_)
  rw [sO10_size]
  simp only [List.range, List.range.loop]
  refine reaR_op goodF hDk vt (by simp only [sO10, q10]; rfl) rfl (by kernel_rfl) (fun z _ => by go_simp) ?_
  walk_nrm
  refine reaR_op goodF hDk (.agg #[.int .i64 ((K : Nat) : Int), .int .i64 ((N : Nat) : Int), .int .i64 ((C : Nat) : Int)]) (by simp only [sO10, q10]; rfl) rfl (by kernel_rfl) (fun z hz => by
    have e : ∀ a, z.cell? a = w.cell? a := fun a => by simp only [World.cell?, hz]
    rw [← e] at c0 c1 c2
    go_simp) ?_
  walk_nrm
  refine reaR_call hDk (by simp only [sO10, q10]; rfl) rfl (by rfl) Tryd.func7 (by kernel_rfl) (c := enBody) (by kernel_rfl) (vs := #[vt, .agg #[.int .i64 ((K : Nat) : Int), .int .i64 ((N : Nat) : Int), .int .i64 ((C : Nat) : Int)]]) (n := 26) (by simp [Act.eval]) (by kernel_rfl) ?_
  unfold fr10 at hnext
  exact hnext _ (ts2_mk rfl)
/-- Alike but for the tape. -/
def EqW (w w' : World) : Prop := w'.heap = w.heap ∧ w'.os = w.os ∧ w'.output = w.output
theorem EqW.bel {w w' : World} (h : EqW w w') (B : Nat) : Bel B w w' := ⟨h.2.1, rfl, h.2.2, by rw [h.1]; exact Nat.le_refl _, fun k _ => by rw [h.1]⟩
/-- The blobs turned about, and the first once more. -/
def twice (f : Nat → Ent) (xs : List Nat) (m : Nat) : Nat → Ent := fun j => if j = m then f 0 else turn f xs j
/-- A list of shards, where it lies. -/
structure ShI (N bh : Nat) (L : Nat → List UInt8) (w : World) : Prop where
  at_ : ∀ i, i < N → ∃ v, w.cell? ⟨bh, i, none⟩ = some v ∧ Holds8 w v (L i)
theorem h8_heap {w w' : World} {v : Value} {l : List UInt8} (h : Holds8 w v l) (e : w'.heap = w.heap) : Holds8 w' v l := by
  have ec : ∀ a, w'.cell? a = w.cell? a := fun a => by simp only [World.cell?, e]
  rcases h with h2 | ⟨a, cap, h3, h4⟩
  · exact .inl h2
  · exact .inr ⟨a, cap, h3, fun j hj => by rw [ec]; exact h4 j hj⟩
theorem ShI.heap {N bh : Nat} {L : Nat → List UInt8} {w w' : World} (h : ShI N bh L w) (e : w'.heap = w.heap) : ShI N bh L w' := ⟨fun i hi => by
  obtain ⟨v, h1, h2⟩ := h.at_ i hi
  have ec : ∀ a, w'.cell? a = w.cell? a := fun a => by simp only [World.cell?, e]
  exact ⟨v, by rw [ec]; exact h1, h8_heap h2 e⟩⟩
theorem sa11_eq : sa11 = .seq (gFst sa11) (.seq (gFst (gSnd sa11)) (.seq (gFst (gSnd (gSnd sa11))) (.seq (gFst (gSnd (gSnd (gSnd sa11)))) sa21))) := by kernel_rfl
theorem SmS.eqw {w w' : World} (h : SmS h0 K N C m f Dt xs pb vb vt w) (e : EqW w w') : SmS h0 K N C m f Dt xs pb vb vt w' := ⟨h.pre.bel (e.bel w.heap.size) (Nat.le_refl _), by obtain ⟨B, h1, h2⟩ := h.owt; exact ⟨B, h1, owns_bel h2 (e.bel w.heap.size) (Nat.le_refl _)⟩, h.once⟩
noncomputable def sa18 : Code := gSnd (gSnd sa11)
theorem SmS.grow {wB w1 : World} {Bt gg cc : Nat} {o : Obj} (h : SmS h0 K N C m f Dt xs pb vb vt wB) (hot : wB.ownsRow Bt 31 2 vt m (blobL m (turn f xs))) (hBt : h0 ≤ Bt) (hBl : Bt ≤ wB.heap.size) (hm : 0 < m)
    (ho : w1.ownsRow Bt 31 2 (.slice (some ⟨gg, 0, none⟩) (m + 1) cc) (m + 1) (blobL m (turn f xs) ++ [.string ⟨(f 0).k.toArray⟩, .slice (f 0).a (f 0).l (f 0).c])) (hg : (wB.alloc o).grownBy w1 vt.ownBlock) :
    Args w1 (some ⟨gg, 0, none⟩) (m + 1) cc (twice f xs m) (dOf Dt) ∧ RowAt w1 pb [.int .i64 ((K : Nat) : Int), .int .i64 ((N : Nat) : Int), .int .i64 ((C : Nat) : Int)] 24 ∧ Bel h0 wB w1 := by
  have hm5 := h.pre.hm
  have hk : ∀ {B n : Nat} {v : Value} {xs : List Value}, wB.ownsRow B 5 1 v n xs → w1.ownsRow B 5 1 v n xs := fun hx => owns_keep' hx fun g hg' => by
    have hlt := (hx.lt g hg').2
    rw [hg.block g (by simp; omega) (fun e => kind_ne hot hx (by decide) e.symm hg'), Below.heap_alloc _ _ _ hlt]
  have e1 : blobL m (turn f xs) ++ [.string ⟨(f 0).k.toArray⟩, .slice (f 0).a (f 0).l (f 0).c] = blobL (m + 1) (twice f xs m) := by
    rw [blobL_succ, blobL_congr (f := twice f xs m) (g := turn f xs) fun i hi => by unfold twice; rw [if_neg (by omega)]]
    unfold twice
    rw [if_pos rfl]
    rfl
  rw [e1] at ho
  obtain ⟨bo, cap, e2, h1, h2, hB⟩ := BC.of_owns ho
  cases e2
  have key : ∀ i, i < m + 1 → ∃ j, j < m ∧ twice f xs m i = f j := fun i hi => by
    unfold twice
    split
    · exact ⟨0, by omega, rfl⟩
    · exact turn_of h.once i (by omega)
  refine ⟨⟨by omega, h1, h2, fun i hi => ?_, fun i hi => ?_, hB, fun i hi => ?_⟩, ?_, ?_⟩
  · obtain ⟨j, hj, e⟩ := key i hi
    rw [e, h.pre.nm j hj]
    simp [nmOf]
  · obtain ⟨j, hj, e⟩ := key i hi
    have := (h.pre.len2 j hj).2
    rw [e]
    omega
  · obtain ⟨j, hj, e⟩ := key i hi
    obtain ⟨B, hd⟩ := h.pre.dat j hj
    rw [e, dOf_nm Dt (by omega) (h.pre.nm j hj)]
    exact data_owns (hk hd)
  · have hlt := h.pre.par.lt
    unfold RowAt
    rw [hg.block pb (by simp; omega) (fun e => by
      obtain ⟨c2, f2, h2⟩ := Lib.ownsRow_kind hot pb e.symm
      have h3 := h.pre.par
      unfold RowAt at h3
      rw [h3] at h2
      cases h2), Below.heap_alloc _ _ _ hlt]
    exact h.pre.par
  · exact Bel.of (((Below.refl h0 wB).alloc (by omega) o).grown hg (by simp; omega) (fun x hx => by have := (hot.lt x hx).1; omega))
def gThen : Code → Code | .cond _ c _ => c | c => c
theorem sa18_eq : sa18 = .seq (.seq (gFst (gFst sa18)) (.cond (.tmp 101) (.seq (gFst (gThen (gSnd (gFst sa18)))) .ret) .skip)) (.seq (gFst (gSnd sa18)) sa21) := by kernel_rfl
set_option maxHeartbeats 8000000 in
set_option maxRecDepth 100000 in
theorem tail18 (hDk : Dok X D) {T : Array Value} (hT : TS pb vb vt T) (hS : SmS h0 K N C m f Dt xs pb vb vt w)
    (hend : m = 0 → ∀ T' k w', T'.getD 10 undef = .bool true → EqW w w' → ReaR Tryd.prog X Y D Stop none [] 3 [] (.code .ret :: k) T' w')
    (hnext : 0 < m → ∀ T' bo cap w', TS3 pb (.slice bo (m + 1) cap) T' → Args w' bo (m + 1) cap (twice f xs m) (dOf Dt) → RowAt w' pb [.int .i64 ((K : Nat) : Int), .int .i64 ((N : Nat) : Int), .int .i64 ((C : Nat) : Int)] 24 → Bel h0 w w' → ReaR Tryd.prog X Y D Stop none [] 3 [] [.code sa21] T' w') :
    ReaR Tryd.prog X Y D Stop none [] 3 [] [.code sa18] T w := by
  obtain ⟨bo, cap, rfl, hAb⟩ := hS.pre.args
  obtain ⟨Bt, hBt, hot⟩ := hS.owt
  obtain ⟨g, rfl⟩ := hT
  rw [sa18_eq]
  refine reaR_split hDk (reaR_split hDk ?_)
  by_cases hm0 : m = 0
  · have em : (m : Int) = 0 := by omega
    refine reaR_go goodF hDk (by kernel_rfl) sfsa fun R hR τ d => ?_
    simp only [gFst, gSnd, sa18, sa11, sa10, sa9, saBody, Tryd.f3, Option.getD_some]
    go_wp2
    refine reaR_cond (b := true) hDk rfl ?_
    simp only [if_true]
    refine reaR_split hDk ?_
    refine reaR_go goodF hDk (by kernel_rfl) sfsa fun R hR τ d => ?_
    simp only [gFst, gSnd, gThen, sa18, sa11, sa10, sa9, saBody, Tryd.f3, Option.getD_some]
    go_wp2
    exact hend hm0 _ _ _ rfl ⟨rfl, rfl, rfl⟩
  · have em : ¬ ((m : Int) = 0) := by omega
    refine reaR_go goodF hDk (by kernel_rfl) sfsa fun R hR τ d => ?_
    have e1 : EqW w { w with tape := τ, drawn := d } := ⟨rfl, rfl, rfl⟩
    generalize ({ w with tape := τ, drawn := d } : World) = wA at e1 ⊢
    simp only [gFst, gSnd, sa18, sa11, sa10, sa9, saBody, Tryd.f3, Option.getD_some]
    go_wp2
    refine reaR_cond (b := false) hDk (congrArg Value.bool (beq_eq_false_iff_ne.2 em)) ?_
    simp only [Bool.false_eq_true, if_false]
    refine reaR_skip hDk (reaR_split hDk ?_)
    refine reaR_go goodF hDk (by kernel_rfl) sfsa fun R hR τ d => ?_
    have e2 : EqW w { wA with tape := τ, drawn := d } := e1
    generalize ({ wA with tape := τ, drawn := d } : World) = wB at e2 ⊢
    obtain ⟨i1, hi1, hy0, hy1, hy2⟩ := info_parts Tryd.infoBlob
    have hSB := hS.eqw e2
    replace hot := owns_bel hot (e2.bel w.heap.size) (Nat.le_refl _)
    replace hAb := hAb.bel (e2.bel w.heap.size)
    have bl := e2.bel h0
    have hm5 := hS.pre.hm
    obtain ⟨bb, oo, rfl, hbb, hcell⟩ := hAb.bc.here (by omega)
    obtain ⟨c0, c1⟩ := hcell 0 (by omega)
    clear hcell
    simp only [strV, Ent.d, Nat.zero_mul, Nat.add_zero] at c0 c1
    have hl0 : (0 : Int) < (m : Int) := by omega
    have hBl : Bt ≤ wB.heap.size := by
      obtain ⟨gg, cc, _, h1, h2⟩ := hot.form (by omega)
      omega
    clear e1 hS hAb
    simp only [gFst, gSnd, sa18, sa11, sa10, sa9, saBody, Tryd.f3, Option.getD_some]
    go_wp2_with (at_builtin; go_loud (refine wpList_append_own _ rfl _ _ 26 rfl Bt 31 i1 (.agg #[.string ⟨#[]⟩, .slice none 0 0]) 2 40 Tryd.underlying26 hi1 hy0 hy1 hy2 rfl (by decide) _ _ _ rfl (hot.alloc _) ⟨wB.heap.size, 0, none⟩ 1 1 [.string ⟨(f 0).k.toArray⟩, .slice (f 0).a (f 0).l (f 0).c] rfl rfl (cell_two_new _ _ _ _) (blobC_one' _ _ _ _) (by unfold maxLen; omega) (by omega) (by simp; omega) ?_; intro v' w1 hown' hgrow _; obtain ⟨gg, cc, rfl, _, _⟩ := hown'.form (by omega)))
    obtain ⟨h1, h2, h3⟩ := hSB.grow hot hBt hBl (by omega) hown' hgrow
    exact hnext (by omega) _ _ _ _ (ts3_mk rfl) h1 h2 (bl.trans h3 (Nat.le_refl _))
set_option maxHeartbeats 8000000 in
set_option maxRecDepth 100000 in
theorem after10 (hDk : Dok X D) {T : Array Value} {L : Nat → List UInt8} {b1 b2 : Nat} (hT : TS2 pb vb vt (.slice (some ⟨b1, 0, none⟩) N N) T) (hS : SmS h0 K N C m f Dt xs pb vb vt w) (hN : N ≤ 12) (h1 : ShI N b1 L w) (h2 : ShI N b2 L w)
    (hend : m = 0 → ∀ T' k w', T'.getD 10 undef = .bool true → EqW w w' → ReaR Tryd.prog X Y D Stop none [] 3 [] (.code .ret :: k) T' w')
    (hnext : 0 < m → ∀ T' bo cap w', TS3 pb (.slice bo (m + 1) cap) T' → Args w' bo (m + 1) cap (twice f xs m) (dOf Dt) → RowAt w' pb [.int .i64 ((K : Nat) : Int), .int .i64 ((N : Nat) : Int), .int .i64 ((C : Nat) : Int)] 24 → Bel h0 w w' → ReaR Tryd.prog X Y D Stop none [] 3 [] [.code sa21] T' w') :
    ∀ z, SimT X Y z w → GoesI Tryd.prog D Stop (G ((fr10 T).finish (.tuple #[.slice (some ⟨b2, 0, none⟩) N N, .int .i64 0])) []) z := by
  rw [show fr10 T = Dn none [] 3 T (.inRegion sO10 [2, 3, 4, 5, 6, 7] :: [.code sa11]) from rfl]
  rw [Dn_finish (by simp only [sO10, q10]; rfl)]
  show ReaR _ _ _ _ _ _ _ _ _ _ _ _
  obtain ⟨g, rfl⟩ := hT
  walk_nrm
  refine reaR_op goodF hDk (.tuple #[.slice (some ⟨b2, 0, none⟩) N N, .int .i64 0]) (by simp only [sO10, q10]; rfl) rfl (by kernel_rfl) (fun z _ => by go_simp) ?_
  walk_nrm
  refine reaR_op goodF hDk (.slice (some ⟨b2, 0, none⟩) N N) (by simp only [sO10, q10]; rfl) rfl (by kernel_rfl) (fun z _ => by go_simp) ?_
  walk_nrm
  refine reaR_op goodF hDk (.int .i64 0) (by simp only [sO10, q10]; rfl) rfl (by kernel_rfl) (fun z _ => by go_simp) ?_
  walk_nrm
  refine reaR_op goodF hDk (.slice (some ⟨b2, 0, none⟩) N N) (by simp only [sO10, q10]; rfl) rfl (by kernel_rfl) (fun z _ => by go_simp) ?_
  walk_nrm
  refine reaR_op goodF hDk (.int .i64 0) (by simp only [sO10, q10]; rfl) rfl (by kernel_rfl) (fun z _ => by go_simp) ?_
  walk_nrm
  refine reaR_endReg hDk ?_
  rw [sa11_eq]
  have c1 := hS.pre.par.cell (i := 1) rfl
  have c0 := hS.pre.par.cell (i := 0) rfl
  refine reaR_split hDk (reaR_go goodF hDk (by kernel_rfl) sfsa fun R hR τ d => ?_)
  have e1 : EqW w { w with tape := τ, drawn := d } := ⟨rfl, rfl, rfl⟩
  generalize hwA : ({ w with tape := τ, drawn := d } : World) = wA at e1 ⊢
  have ec : ∀ a, wA.cell? a = w.cell? a := fun a => by simp only [World.cell?, e1.1]
  rw [← ec] at c0 c1
  clear hwA
  simp only [gFst, gSnd, sa11, sa10, sa9, saBody, Tryd.f3, Option.getD_some]
  go_wp2
  refine reaR_split hDk (reaR_go goodF hDk (by kernel_rfl) sfsa fun R hR τ d => ?_)
  have e2 : EqW w { wA with tape := τ, drawn := d } := e1
  generalize hwB : ({ wA with tape := τ, drawn := d } : World) = wB at e2 ⊢
  have ec' : ∀ a, wB.cell? a = wA.cell? a := fun a => by simp only [World.cell?, e1.1, e2.1]
  rw [← ec'] at c0 c1
  clear hwB ec ec' e1
  simp only [gFst, gSnd, sa11, sa10, sa9, saBody, Tryd.f3, Option.getD_some]
  go_wp2
  go_loopw [20] (fun vi wr => ∃ i : Nat, i ≤ N ∧ vi = .int .i64 ((i : Nat) : Int) ∧ EqW w wr) (fun vi _ => N - (intOf vi).toNat)
  case atStart => exact ⟨0, by omega, rfl, e2⟩
  case round =>
    obtain ⟨i, hi, rfl, hh⟩ := hrel
    have ec : ∀ a, wr.cell? a = wB.cell? a := fun a => by simp only [World.cell?, hh.1, e2.1]
    rw [← ec] at c0 c1
    clear ec
    by_cases hlt : i < N
    · have hlt' : (i : Int) < (N : Int) := by omega
      obtain ⟨v1, k1, k2⟩ := (h1.heap hh.1).at_ i hlt
      obtain ⟨v2, k3, k4⟩ := (h2.heap hh.1).at_ i hlt
      have s1 : ∀ n, (convert 29 9 v1).run Tryd.prog (wr.drewN n) = .ok (.string ⟨(L i).toArray⟩) (wr.drewN n) := fun n => (h8_heap (w' := wr.drewN n) k2 rfl).string
      have s2 : ∀ n, (convert 29 9 v2).run Tryd.prog (wr.drewN n) = .ok (.string ⟨(L i).toArray⟩) (wr.drewN n) := fun n => (h8_heap (w' := wr.drewN n) k4 rfl).string
      go_wp2
      go_big_quiet (fail)
      go_wp2
      go_roundw
      case rel => exact ⟨i + 1, by omega, by go_num, hh⟩
      case measure => simp [intOf]; omega
    · obtain rfl : i = N := by omega
      have hnl : ¬ ((i : Int) < (i : Int)) := by omega
      go_wp2
      exact tail18 hDk (ts_mk rfl) (hS.eqw hh) (fun hm T' k w' h e => hend hm T' k w' h ⟨e.1.trans hh.1, e.2.1.trans hh.2.1, e.2.2.trans hh.2.2⟩) (fun hm T' bo cap w' h1 h2 h3 h4 => hnext hm T' bo cap w' h1 h2 h3 ((hh.bel h0).trans h4 (Nat.le_refl _)))
set_option maxHeartbeats 8000000 in
set_option maxRecDepth 100000 in
theorem at21 (hDk : Dok X D) {T : Array Value} {bo : Option Addr} {cap : Nat} (hT : TS3 pb (.slice bo (m + 1) cap) T) (hP : ParamsOk (K : Int) (N : Int) (C : Int)) (hA : Args w bo (m + 1) cap (twice f xs m) (dOf Dt)) (hNf : ¬ NamesFit (m + 1) (twice f xs m))
    (hpar : RowAt w pb [.int .i64 ((K : Nat) : Int), .int .i64 ((N : Nat) : Int), .int .i64 ((C : Nat) : Int)] 24)
    (hend : ∀ T' k w', T'.getD 10 undef = .bool true → Bel w.heap.size w w' → ReaR Tryd.prog X Y D Stop none [] 3 [] (.code .ret :: k) T' w') :
    ReaR Tryd.prog X Y D Stop none [] 3 [] [.code sa21] T w := by
  obtain ⟨g, rfl⟩ := hT
  have c0 := hpar.cell (i := 0) rfl
  have c1 := hpar.cell (i := 1) rfl
  have c2 := hpar.cell (i := 2) rfl
  rw [sa21_eq]
  refine reaR_split hDk (reaR_region hDk ?_)
  rw [sO21_size]
  simp only [List.range, List.range.loop]
  refine reaR_op goodF hDk (.slice bo (m + 1) cap) (by simp only [sO21, q21]; rfl) rfl (by kernel_rfl) (fun z _ => by go_simp) ?_
  walk_nrm
  refine reaR_op goodF hDk (.agg #[.int .i64 ((K : Nat) : Int), .int .i64 ((N : Nat) : Int), .int .i64 ((C : Nat) : Int)]) (by simp only [sO21, q21]; rfl) rfl (by kernel_rfl) (fun z hz => by
    have e : ∀ a, z.cell? a = w.cell? a := fun a => by simp only [World.cell?, hz]
    rw [← e] at c0 c1 c2
    go_simp) ?_
  walk_nrm
  refine reaR_call hDk (by simp only [sO21, q21]; rfl) rfl (by rfl) Tryd.func7 (by kernel_rfl) (c := enBody) (by kernel_rfl) (vs := #[.slice bo (m + 1) cap, .agg #[.int .i64 ((K : Nat) : Int), .int .i64 ((N : Nat) : Int), .int .i64 ((C : Nat) : Int)]]) (n := 26) (by simp [Act.eval]) (by kernel_rfl) ?_
  refine enc_noI hDk hA hP hNf fun w' hb => ?_
  rw [Dn_finish (by simp only [sO21, q21]; rfl)]
  show ReaR _ _ _ _ _ _ _ _ _ _ _ _
  walk_nrm
  refine reaR_op goodF hDk (.tuple #[.slice none 0 0, .int .i64 2]) (by simp only [sO21, q21]; rfl) rfl (by kernel_rfl) (fun z _ => by go_simp) ?_
  walk_nrm
  refine reaR_op goodF hDk (.slice none 0 0) (by simp only [sO21, q21]; rfl) rfl (by kernel_rfl) (fun z _ => by go_simp) ?_
  walk_nrm
  refine reaR_op goodF hDk (.int .i64 2) (by simp only [sO21, q21]; rfl) rfl (by kernel_rfl) (fun z _ => by go_simp) ?_
  walk_nrm
  refine reaR_op goodF hDk (.slice none 0 0) (by simp only [sO21, q21]; rfl) rfl (by kernel_rfl) (fun z _ => by go_simp) ?_
  walk_nrm
  refine reaR_op goodF hDk (.int .i64 2) (by simp only [sO21, q21]; rfl) rfl (by kernel_rfl) (fun z _ => by go_simp) ?_
  walk_nrm
  refine reaR_endReg hDk ?_
  have e22 : sa22 = .seq (gFst sa22) .ret := by kernel_rfl
  rw [e22]
  refine reaR_split hDk (reaR_go goodF hDk (by kernel_rfl) sfsa fun R hR τ d => ?_)
  simp only [gFst, gSnd, sa22, sa21, sa11, sa10, sa9, saBody, Tryd.f3, Option.getD_some]
  go_wp2
  exact hend _ _ _ rfl (hb.tp τ d)
end
end Go.Proofs.YtkpcmfgeanlcnabDoor
