/-
  archive.dataOf up to its call of coding.Rebuild.
-/
import Derived.Test.YtlghjjennhpjeaaGreatDoorHqC
import Derived.Test.YtlghjjennhpjeaaGreatDoorGlA
import Derived.Test.YtlghjjennhpjeaaGreatDoorDeB
import Derived.Test.YtlghjjennhpjeaaGreatDoorEnS
namespace Go.Proofs.YtlghjjennhpjeaaGreatDoor
open Go.RowKit Go.Deep Go.Lf Go.Conc Go.Hp

noncomputable def doBody : Code := Tryz.f25.body.getD .skip
noncomputable def do8 : Code := gSnd (gSnd (gSnd (gSnd doBody)))
noncomputable def do9 : Code := gSnd do8
noncomputable def do10 : Code := gSnd do9
theorem doBody_eq : doBody = .seq (gFst doBody) (.seq (gFst (gSnd doBody)) (.seq (gFst (gSnd (gSnd doBody))) (.seq (gFst (gSnd (gSnd (gSnd doBody)))) do8))) := by kernel_rfl
noncomputable def qd8 : {y : Array Oper // y = gOps (gFst do8)} := ⟨_, by (simp only [do8, doBody, gFst, gSnd, gOps, Tryz.f25, Option.getD_some]; rfl)⟩
noncomputable def dO8 : Array Oper := qd8.1
theorem do8_eq : do8 = .seq (.region 8 dO8 false) do9 := by kernel_rfl
theorem dO8_size : dO8.size = 7 := by kernel_rfl
noncomputable def qd9 : {y : Array Oper // y = gOps (gFst do9)} := ⟨_, by (simp only [do9, do8, doBody, gFst, gSnd, gOps, Tryz.f25, Option.getD_some]; rfl)⟩
noncomputable def dO9 : Array Oper := qd9.1
theorem do9_eq : do9 = .seq (.region 9 dO9 false) do10 := by kernel_rfl
theorem dO9_size : dO9.size = 5 := by kernel_rfl
theorem sfdo : ∃ fn, Tryz.prog.funcs[25]? = some fn := ⟨_, Tryz.func25⟩

def Td (f : Nat → Value) (a0 a4 a5 a6 a7 a10 a11 : Value) : Array Value := #[a0, f 1, f 2, f 3, a4, a5, a6, a7, f 8, f 9, a10, a11, f 12, f 13, f 14, f 15, f 16, f 17, f 18, f 19, f 20, f 21, f 22, f 23, f 24, f 25, f 26, f 27, f 28, f 29, f 30, f 31, f 32, f 33, f 34, f 35, f 36, f 37, f 38, f 39, f 40, f 41, f 42, f 43, f 44, f 45, f 46, f 47, f 48, f 49, f 50, f 51, f 52, f 53, f 54, f 55, f 56, f 57, f 58, f 59, f 60, f 61, f 62, f 63, f 64, f 65, f 66, f 67, f 68, f 69, f 70, f 71, f 72, f 73, f 74, f 75]
theorem td_mk {T : Array Value} (h : T = #[T.getD 0 undef, T.getD 1 undef, T.getD 2 undef, T.getD 3 undef, T.getD 4 undef, T.getD 5 undef, T.getD 6 undef, T.getD 7 undef, T.getD 8 undef, T.getD 9 undef, T.getD 10 undef, T.getD 11 undef, T.getD 12 undef, T.getD 13 undef, T.getD 14 undef, T.getD 15 undef, T.getD 16 undef, T.getD 17 undef, T.getD 18 undef, T.getD 19 undef, T.getD 20 undef, T.getD 21 undef, T.getD 22 undef, T.getD 23 undef, T.getD 24 undef, T.getD 25 undef, T.getD 26 undef, T.getD 27 undef, T.getD 28 undef, T.getD 29 undef, T.getD 30 undef, T.getD 31 undef, T.getD 32 undef, T.getD 33 undef, T.getD 34 undef, T.getD 35 undef, T.getD 36 undef, T.getD 37 undef, T.getD 38 undef, T.getD 39 undef, T.getD 40 undef, T.getD 41 undef, T.getD 42 undef, T.getD 43 undef, T.getD 44 undef, T.getD 45 undef, T.getD 46 undef, T.getD 47 undef, T.getD 48 undef, T.getD 49 undef, T.getD 50 undef, T.getD 51 undef, T.getD 52 undef, T.getD 53 undef, T.getD 54 undef, T.getD 55 undef, T.getD 56 undef, T.getD 57 undef, T.getD 58 undef, T.getD 59 undef, T.getD 60 undef, T.getD 61 undef, T.getD 62 undef, T.getD 63 undef, T.getD 64 undef, T.getD 65 undef, T.getD 66 undef, T.getD 67 undef, T.getD 68 undef, T.getD 69 undef, T.getD 70 undef, T.getD 71 undef, T.getD 72 undef, T.getD 73 undef, T.getD 74 undef, T.getD 75 undef]) : T = Td (fun i => T.getD i undef) (T.getD 0 undef) (T.getD 4 undef) (T.getD 5 undef) (T.getD 6 undef) (T.getD 7 undef) (T.getD 10 undef) (T.getD 11 undef) := h
/-- The slots: ahead of Rebuild. -/
def TD1 (vs : Value) (K N tt M bc : Nat) (T : Array Value) : Prop := ∃ f : Nat → Value, T = Td f vs (.int .i64 (K : Int)) (.int .i64 (N : Int)) (.int .i64 (tt : Int)) (.slice (some ⟨bc, 0, none⟩) M M) (f 10) (f 11)
/-- .. behind it. -/
def TD2 (vs : Value) (K N tt M bc : Nat) (vd : Value) (T : Array Value) : Prop := ∃ f : Nat → Value, T = Td f vs (.int .i64 (K : Int)) (.int .i64 (N : Int)) (.int .i64 (tt : Int)) (.slice (some ⟨bc, 0, none⟩) M M) vd (f 11)
/-- .. behind Columns. -/
def TD3 (vs : Value) (K N tt M bc : Nat) (vd va : Value) (T : Array Value) : Prop := ∃ f : Nat → Value, T = Td f vs (.int .i64 (K : Int)) (.int .i64 (N : Int)) (.int .i64 (tt : Int)) (.slice (some ⟨bc, 0, none⟩) M M) vd va
noncomputable def frD (T : Array Value) : Frame := (base 25).at ⟨T, []⟩ (.inRegion dO8 [2, 3, 4, 5, 6] :: [.code do9])
noncomputable def frF (T : Array Value) : Frame := (base 25).at ⟨T, []⟩ (.inRegion dO9 [3, 4] :: [.code do10])

/-- Shards that may be put together. -/
structure DsH (K N L tt M : Nat) (sh : Nat → Shd) : Prop where
  k1 : 1 ≤ K
  kn : K ≤ N
  n1 : N ≤ 128
  kM : K ≤ M
  hM : M ≤ 128
  sk : (sh 0).k = K
  sn : (sh 0).n = N
  st : (sh 0).sizes.sum = tt
  t1 : tt ≤ 65536
  hl : L = lenC K tt
  len : ∀ i, i < M → (sh i).col.length = L
  ix : ∀ i, i < M → (sh i).i < N
  inj : ∀ i j, i < M → j < M → i ≠ j → (sh i).i ≠ (sh j).i
def crF (sh : Nat → Shd) (vC : Nat → Value) (p : Nat) : Value := if p % 2 = 0 then .int .i64 (((sh (p / 2)).i : Nat) : Int) else vC (p / 2)
/-- The columns as far as they are made. -/
def CR (bc M j : Nat) (sh : Nat → Shd) (vC : Nat → Value) (w : World) : Prop := w.rowIs bc 55 (M * 2) (fun p => if p / 2 < j then crF sh vC p else (if p % 2 = 0 then .int .i64 0 else .slice none 0 0))
theorem CR.start (M : Nat) (sh : Nat → Shd) (vC : Nat → Value) (w : World) : CR w.heap.size M 0 sh vC (w.alloc (.cells (madeCells #[.int .i64 0, .slice none 0 0] (M * 2)) 55)) := by
  have := World.rowIs_alloc w (madeCells #[.int .i64 0, .slice none 0 0] (M * 2)) 55 (fun p => if p / 2 < 0 then crF sh vC p else (if p % 2 = 0 then .int .i64 0 else .slice none 0 0)) (fun i hi => by
    rw [size_madeCells] at hi
    rw [if_neg (by omega)]
    rcases Nat.mod_two_eq_zero_or_one i with e | e <;> simp [madeCells, hi, e])
  rw [size_madeCells] at this
  exact this
theorem CR.more {bc M j : Nat} {sh : Nat → Shd} {vC : Nat → Value} {w w2 : World} (h : CR bc M j sh vC w) (hj : j < M) (hg : bc < w.heap.size) (hb : Below w.heap.size w w2) :
    CR bc M (j + 1) sh vC ((w2.setCell ⟨bc, j * 2, none⟩ (.int .i64 (((sh j).i : Nat) : Int))).setCell ⟨bc, j * 2 + 1, none⟩ (vC j)) ∧ (∃ u, w2.cell? ⟨bc, j * 2, none⟩ = some u) ∧ w2.frozen? ⟨bc, j * 2, none⟩ = false ∧ (∃ u, (w2.setCell ⟨bc, j * 2, none⟩ (.int .i64 (((sh j).i : Nat) : Int))).cell? ⟨bc, j * 2 + 1, none⟩ = some u) ∧ (w2.setCell ⟨bc, j * 2, none⟩ (.int .i64 (((sh j).i : Nat) : Int))).frozen? ⟨bc, j * 2 + 1, none⟩ = false := by
  have r : w2.rowIs bc _ _ _ := World.rowIs.of_block h (hb.block bc hg)
  have r1 := r.set (j * 2) (.int .i64 (((sh j).i : Nat) : Int))
  have r2 := r1.set (j * 2 + 1) (vC j)
  refine ⟨r2.congr fun p hp => ?_, ⟨_, r.cell (i := j * 2) (by omega)⟩, r.frozen _, ⟨_, r1.cell (i := j * 2 + 1) (by omega)⟩, r1.frozen _⟩
  by_cases e1 : p = j * 2 + 1
  · subst e1
    rw [if_pos rfl, if_pos (by omega), crF, if_neg (by omega), show (j * 2 + 1) / 2 = j by omega]
  · rw [if_neg e1]
    by_cases e2 : p = j * 2
    · subst e2
      rw [if_pos rfl, if_pos (by omega), crF, if_pos (by omega), show j * 2 / 2 = j by omega]
    · rw [if_neg e2]
      by_cases e3 : p / 2 < j
      · simp only [e3, show p / 2 < j + 1 by omega, if_true]
      · simp only [e3, show ¬ p / 2 < j + 1 by omega, if_false]
theorem intV_nat (l : List Nat) : intV (l.map Int.ofNat) = natV l := by simp [intV, natV]
theorem tot_nat (l : List Nat) : tot (l.map Int.ofNat) = l.sum := by
  unfold tot
  rw [List.map_map, show (Int.toNat ∘ Int.ofNat) = id from rfl, List.map_id]
theorem bel_lies {w w' : World} {v : Value} {xs : List Value} (hb : Bel w.heap.size w w') (h : Lies w v xs) : Lies w' v xs := Lies.below (w := { w with tape := w'.tape }) h hb
theorem Sds.bel {w w' : World} {bo : Option Addr} {n : Nat} {sh : Nat → Shd} {vN vS vC : Nat → Value} (h : Sds w bo n sh vN vS vC) (hb : Bel w.heap.size w w') : Sds w' bo n sh vN vS vC :=
  ⟨fun hn => by
    obtain ⟨b, o, e, hl, hc⟩ := h.cells hn
    exact ⟨b, o, e, Nat.lt_of_lt_of_le hl hb.size', fun i hi j v hv => (Below.cell (p := (⟨b, o + i * 7 + j, none⟩ : Addr)) hb hl).trans (hc i hi j v hv)⟩,
   fun i hi => ⟨(bel_lies hb (h.nm i hi).1), (h.nm i hi).2⟩, fun i hi => ⟨(bel_lies hb (h.sz i hi).1), (h.sz i hi).2⟩, fun i hi => bel_lies hb (h.cl i hi), h.kn⟩

section
variable {X : Nat → Prop} {Y : Nat → Option Obj} {D : Nat → World → Array Event → Prop} {Stop : Goroutine → World → Prop} {w : World} {cs : List Frame} {K N L tt M cap : Nat} {bo : Option Addr} {sh : Nat → Shd} {vN vS vC : Nat → Value}
set_option maxHeartbeats 8000000 in
set_option maxRecDepth 100000 in
theorem do_pre (hDk : Dok X D) (hH : DsH K N L tt M sh) (hS : Sds w bo M sh vN vS vC)
    (hnext : ∀ (T : Array Value) (bc : Nat) (w' : World), TD1 (.slice bo M cap) K N tt M bc T → CR bc M M sh vC w' → Bel w.heap.size w w' → w.heap.size ≤ bc →
      ReaI Tryz.prog X Y D Stop 25 cs [.code do8] ⟨T, []⟩ w') :
    ReaI Tryz.prog X Y D Stop 25 cs [.code doBody] ⟨#[.slice bo M cap] ++ Array.replicate 75 undef, []⟩ w := by
  obtain ⟨k1, kn, n1, kM, hM, sk, sn, st, t1, hl, len, hix, inj⟩ := hH
  rw [doBody_eq]
  simp only [Array.replicate_succ, Array.replicate_zero, List.push_toArray, List.append_toArray, List.nil_append, List.cons_append]
  refine reachI_go goodA hDk (by kernel_rfl) rfl sfdo fun R hR τ d' => ?_
  have bl : Bel w.heap.size w { w with tape := τ, drawn := d' } := (Bel.refl _ w).tp τ d'
  generalize ({ w with tape := τ, drawn := d' } : World) = wA at bl ⊢
  simp only [gFst, doBody, Tryz.f25, Option.getD_some]
  go_wp2
  refine reachI_go goodA hDk (by kernel_rfl) rfl sfdo fun R hR τ d' => ?_
  replace bl := bl.tp τ d'
  generalize ({ wA with tape := τ, drawn := d' } : World) = wB at bl ⊢
  simp only [gFst, gSnd, doBody, Tryz.f25, Option.getD_some]
  have Hr := hS.bel bl
  have h0n : (0 : Int) < (M : Int) := by omega
  obtain ⟨b, o, rfl, hbl, hcell⟩ := Hr.cells (by omega)
  have r0 := hcell 0 (by omega)
  unfold shQ at r0
  obtain ⟨q0, q1, q2, q3, q4, q5, q6⟩ := range7 r0
  simp only [Nat.zero_mul, Nat.add_zero] at q0 q1 q2 q3 q4 q5 q6
  have kt := fun m => totalP_any (vS 0) ((sh 0).sizes.map Int.ofNat) (by have := (Hr.sz 0 (by omega)).2; simp; omega) (fun i hi => by simp [List.getD_eq_getElem?_getD, List.getElem?_map]; cases (sh 0).sizes[i]? <;> simp) (by rw [tot_nat, st]; exact t1) (wB.drewN m) (by rw [intV_nat]; exact ((Hr.sz 0 (by omega)).1.drewN m))
  rw [tot_nat, st] at kt
  rw [sk] at q0
  rw [sn] at q1
  have kT : ∀ nq, Calls Tryz.prog 50 #[vS 0] (wB.drewN nq) fun r w' => r = .returned (.int .i64 (tt : Int)) ∧ w' = wB.drewN nq := kt
  clear kt q2 q3 q4 q6 r0 hcell
  go_quiet ((go_at_call 50; exact Calls.quiet_of_same (kT _)))
  clear kT q0 q1 q5
  go_wp2
  refine reachI_go goodA hDk (by kernel_rfl) rfl sfdo fun R hR τ d' => ?_
  have bl2 : Bel w.heap.size w ({ wB.drewN nq with tape := τ, drawn := d' } : World) := Bel.tp (bl.trans (Bel.of (below_drewN (Below.refl _ _) nq)) bl.size') τ d'
  generalize ({ wB.drewN nq with tape := τ, drawn := d' } : World) = wC at bl2 ⊢
  simp only [gFst, gSnd, doBody, Tryz.f25, Option.getD_some]
  have mk := make_cols M hM wC
  have C0 := CR.start M sh vC wC
  have b0 : Below wC.heap.size wC (wC.alloc (.cells (madeCells #[.int .i64 0, .slice none 0 0] (M * 2)) 55)) := (Below.refl _ _).alloc (Nat.le_refl _) _
  go_wp2
  clear mk
  have bl3 : Bel w.heap.size w (wC.alloc (.cells (madeCells #[.int .i64 0, .slice none 0 0] (M * 2)) 55)) := bl2.trans (Bel.of b0) bl2.size'
  have hlt : wC.heap.size < (wC.alloc (.cells (madeCells #[.int .i64 0, .slice none 0 0] (M * 2)) 55)).heap.size := by simp
  have hwb := bl2.size'
  generalize wC.alloc (.cells (madeCells #[.int .i64 0, .slice none 0 0] (M * 2)) 55) = wD at C0 bl3 hlt ⊢
  generalize wC.heap.size = bc at *
  clear b0 bl2 bl hbl Hr
  refine reachI_go goodA hDk (by kernel_rfl) rfl sfdo fun R hR τ d' => ?_
  replace bl3 := bl3.tp τ d'
  replace C0 : CR bc M 0 sh vC ({ wD with tape := τ, drawn := d' } : World) := C0
  replace hlt : bc < ({ wD with tape := τ, drawn := d' } : World).heap.size := hlt
  generalize ({ wD with tape := τ, drawn := d' } : World) = wE at bl3 C0 hlt ⊢
  have Hs := hS.bel bl3
  obtain ⟨b', o', e', hbl, hcell⟩ := Hs.cells (by omega)
  cases e'
  simp only [gFst, gSnd, doBody, Tryz.f25, Option.getD_some]
  go_wp2
  go_loopw [8, 9, 32] (fun _ _ vi wr => ∃ j : Nat, j ≤ M ∧ vi = .int .i64 (j : Int) ∧ Bel w.heap.size w wr ∧ CR bc M j sh vC wr ∧ bc < wr.heap.size) (fun _ _ vi _ => M - (intOf vi).toNat)
  case atStart => exact ⟨0, by omega, rfl, bl3, C0, hlt⟩
  case round =>
    clear C0 hlt bl3 hcell hbl Hs
    obtain ⟨j, hj, rfl, blr, Cj, hlt⟩ := hrel
    by_cases hjm : j < M
    · have hjm' : (j : Int) < (M : Int) := by omega
      have Hr := hS.bel blr
      obtain ⟨b', o', e', hbl, hcell⟩ := Hr.cells (by omega)
      cases e'
      have rj := hcell j hjm
      have tN := run_one _ (Hr.nm j hjm).1.one
      have tS := run_one _ (Hr.sz j hjm).1.one
      have tC := run_one _ (Hr.cl j hjm).one
      unfold shQ at rj
      obtain ⟨p0, p1, p2, p3, p4, p5, p6⟩ := range7 rj
      obtain ⟨C2, ⟨u1, d1⟩, d2, -, -⟩ := Cj.more hjm hlt (Below.refl _ _)
      have d3 := World.rowIs.cell Cj (i := j * 2 + 1) (by omega)
      have d4 := World.rowIs.frozen Cj (j * 2 + 1)
      have cn := cells_new wr (shQ (sh j) (vN j) (vS j) (vC j)) 41
      have c2 := cn 2
      have c6 := cn 6
      simp only [shQ, List.getElem?_cons_zero, List.getElem?_cons_succ] at c2 c6
      obtain ⟨bq, cq, ev⟩ := (Hr.cl j hjm).len
      clear cn rj hcell Cj Hr
      generalize hvj : vC j = vj at *
      subst ev
      generalize (u8V (sh j).col).length = nq' at *
      have b3 : Bel w.heap.size w ((wr.setCell ⟨bc, j * 2, none⟩ (.int .i64 (((sh j).i : Nat) : Int))).setCell ⟨bc, j * 2 + 1, none⟩ (.slice bq nq' cq)) := (Below.setCell (Below.setCell blr (p := ⟨bc, j * 2, none⟩) hwb _) (p := ⟨bc, j * 2 + 1, none⟩) hwb _)
      have hz2 : bc < ((wr.setCell ⟨bc, j * 2, none⟩ (.int .i64 (((sh j).i : Nat) : Int))).setCell ⟨bc, j * 2 + 1, none⟩ (.slice bq nq' cq)).heap.size := by simp; exact hlt
      go_wp2
      generalize (wr.setCell ⟨bc, j * 2, none⟩ (.int .i64 (((sh j).i : Nat) : Int))).setCell ⟨bc, j * 2 + 1, none⟩ (.slice bq nq' cq) = w3 at *
      have b4 : ∀ o : Obj, Below w3.heap.size w3 (w3.alloc o) := fun o => (Below.refl _ _).alloc (Nat.le_refl _) o
      exact ⟨⟨j + 1, by omega, by simp, b3.trans (Bel.of (b4 _)) b3.size', World.rowIs.of_block C2 ((b4 _).block bc hz2), Nat.lt_of_lt_of_le hz2 (b4 _).size⟩, by simp [intOf]; omega⟩
    · obtain rfl : j = M := by omega
      have hnl : ¬ ((j : Int) < (j : Int)) := by omega
      go_wp2
      exact hnext _ bc wr ⟨_, td_mk rfl⟩ Cj blr hwb
end
end Go.Proofs.YtlghjjennhpjeaaGreatDoor

/-
  archive.dataOf: into Rebuild; from it, through bytes.Join, into Columns; and from that on.
-/
namespace Go.Proofs.YtlghjjennhpjeaaGreatDoor
open Go.RowKit Go.Deep Go.Lf Go.Conc Go.Hp

section
variable {X : Nat → Prop} {Y : Nat → Option Obj} {D : Nat → World → Array Event → Prop} {Stop : Goroutine → World → Prop} {w : World} {cs : List Frame} {K N L tt M bc : Nat} {vs : Value} {T : Array Value}
set_option maxHeartbeats 8000000 in
set_option maxRecDepth 100000 in
theorem do_into (hDk : Dok X D) (hT : TD1 vs K N tt M bc T)
    (hnext : ∀ T', TD1 vs K N tt M bc T' → ReaI Tryz.prog X Y D Stop 52 (frD T' :: cs) [.code body31] ⟨#[.int .i64 (K : Int), .slice (some ⟨bc, 0, none⟩) M M] ++ Array.replicate 67 undef, []⟩ w) :
    ReaI Tryz.prog X Y D Stop 25 cs [.code do8] ⟨T, []⟩ w := by
  obtain ⟨g, rfl⟩ := hT
  unfold Td
  rw [do8_eq]
  refine reachI_split hDk rfl (reaI_region hDk ?_)
  rw [dO8_size]
  simp only [List.range, List.range.loop]
  refine reaR_op goodA hDk (.int .i64 (K : Int)) (by simp only [dO8, qd8]; rfl) rfl (by kernel_rfl) (fun z _ => by go_simp) ?_
  walk_nrm
  refine reaR_op goodA hDk (.slice (some ⟨bc, 0, none⟩) M M) (by simp only [dO8, qd8]; rfl) rfl (by kernel_rfl) (fun z _ => by go_simp) ?_
  walk_nrm
  refine reaR_call hDk (by simp only [dO8, qd8]; rfl) rfl (by rfl) Tryz.func52 (by kernel_rfl) (c := body31) (by kernel_rfl) (vs := #[.int .i64 (K : Int), .slice (some ⟨bc, 0, none⟩) M M]) (n := 67) (by simp [Act.eval]) (by kernel_rfl) ?_
  unfold frD at hnext
  exact hnext _ ⟨_, td_mk rfl⟩
set_option maxHeartbeats 8000000 in
set_option maxRecDepth 100000 in
theorem do_cols (hDk : Dok X D) {vd : Value} (hT : TD2 vs K N tt M bc vd T)
    (hnext : ∀ T', TD2 vs K N tt M bc vd T' → ReaI Tryz.prog X Y D Stop 53 (frF T' :: cs) [.code gBody] ⟨#[.int .i64 ((K : Nat) : Int), .int .i64 ((N : Nat) : Int), vd] ++ Array.replicate 23 undef, []⟩ w) :
    ReaR Tryz.prog X Y D Stop none [] 25 cs [.code do9] T w := by
  obtain ⟨g, rfl⟩ := hT
  unfold Td
  rw [do9_eq]
  refine reaR_split hDk (reaR_region hDk ?_)
  rw [dO9_size]
  simp only [List.range, List.range.loop]
  refine reaR_op goodA hDk (.int .i64 (K : Int)) (by simp only [dO9, qd9]; rfl) rfl (by kernel_rfl) (fun z _ => by go_simp) ?_
  walk_nrm
  refine reaR_op goodA hDk (.int .i64 (N : Int)) (by simp only [dO9, qd9]; rfl) rfl (by kernel_rfl) (fun z _ => by go_simp) ?_
  walk_nrm
  refine reaR_op goodA hDk vd (by simp only [dO9, qd9]; rfl) rfl (by kernel_rfl) (fun z _ => by go_simp) ?_
  walk_nrm
  refine reaR_call hDk (by simp only [dO9, qd9]; rfl) rfl (by rfl) Tryz.func53 (by kernel_rfl) (c := gBody) (by kernel_rfl) (vs := #[.int .i64 (K : Int), .int .i64 (N : Int), vd]) (n := 23) (by simp [Act.eval]) (by kernel_rfl) ?_
  unfold frF at hnext
  exact hnext _ ⟨_, td_mk rfl⟩
set_option maxHeartbeats 8000000 in
set_option maxRecDepth 100000 in
theorem do_mid (hDk : Dok X D) (hT : TD1 vs K N tt M bc T) {C : Nat} {dN : Nat → Nat} {ls : List (List UInt8)} (hP : Prts w C K L dN ls) (hK : 0 < K ∧ K ≤ 128) (hL : L ≤ 65536) (ht : tt ≤ ls.flatten.length)
    (hnext : ∀ T' vd w', TD2 vs K N tt M bc vd T' → Lies w' vd (u8V (ls.flatten.take tt)) → DatV vd tt → Bel w.heap.size w w' → ReaI Tryz.prog X Y D Stop 53 (frF T' :: cs) [.code gBody] ⟨#[.int .i64 ((K : Nat) : Int), .int .i64 ((N : Nat) : Int), vd] ++ Array.replicate 23 undef, []⟩ w') :
    ∀ z, SimT X Y z w → GoesI Tryz.prog D Stop (G ((frD T).finish (.slice (some ⟨C, 0, none⟩) K K)) cs) z := by
  rw [show frD T = Dn none [] 25 T (.inRegion dO8 [2, 3, 4, 5, 6] :: [.code do9]) from rfl]
  rw [Dn_finish (by simp only [dO8, qd8]; rfl)]
  show ReaR _ _ _ _ _ _ _ _ _ _ _ _
  obtain ⟨g, rfl⟩ := hT
  unfold Td
  walk_nrm
  refine reaR_I.2 ?_
  refine reaI_calls goodA hDk (goodA.body (f := 51) (by kernel_rfl) (by kernel_rfl)) (R := fun v w' => Lies w' v (u8V ls.flatten) ∧ DatV v ls.flatten.length ∧ Bel w.heap.size w w') (by simp only [dO8, qd8]; rfl) rfl (by rfl) (vs := #[.slice (some ⟨C, 0, none⟩) K K, .slice none 0 0]) (by simp [Act.eval]) (Nat.le_of_ble_eq_true (by kernel_rfl)) (fun τ d => ?_) ?_
  · refine (joinP_any (w := { w with tape := τ, drawn := d }) (C := C) (K := K) (L := L) (dN := dN) (ls := ls) ⟨hP.len, hP.each, hP.at0, hP.byte⟩ hK hL).mono ?_
    rintro r w' ⟨v, rfl, h1, h2, h3⟩
    exact ⟨v, rfl, h1, h2, ((Bel.refl _ w).tp τ d).trans (Bel.of h3) (Nat.le_refl _)⟩
  intro vj w1 ⟨hLj, hDj, hbl⟩
  refine reaR_I.1 ?_
  walk_nrm
  generalize ls.flatten = lj at *
  rcases hDj with ⟨rfl, h0⟩ | ⟨b, off, cj, rfl, hc⟩
  · obtain rfl : tt = 0 := by omega
    refine reaR_op goodA hDk (.int .i64 ((0 : Nat) : Int)) (by simp only [dO8, qd8]; rfl) rfl (by kernel_rfl) (fun z _ => by go_simp) ?_
    walk_nrm
    refine reaR_op goodA hDk (.slice none 0 0) (by simp only [dO8, qd8]; rfl) rfl (by kernel_rfl) (fun z _ => by go_simp) ?_
    walk_nrm
    refine reaR_op goodA hDk (.slice none 0 0) (by simp only [dO8, qd8]; rfl) rfl (by kernel_rfl) (fun z _ => by go_simp) ?_
    walk_nrm
    refine reaR_endReg hDk (do_cols hDk ⟨_, td_mk rfl⟩ fun T' hT' => hnext T' _ w1 hT' ?_ (.inl ⟨rfl, rfl⟩) hbl)
    exact ⟨none, 0, by simp [u8V], by simp [u8V], fun j u hj => by simp [u8V] at hj⟩
  · have h1 : ((tt : Nat) : Int) ≤ ((cj : Nat) : Int) := by omega
    have h2 : ((tt : Nat) : Int) ≤ ((lj.length : Nat) : Int) := by omega
    have hLd : Lies w1 (.slice (some ⟨b, off, none⟩) tt cj) (u8V (lj.take tt)) := by
      have := lies_part hLj (s := 0) (t := tt) (by omega) cj (by omega)
      simpa using this
    refine reaR_op goodA hDk (.int .i64 ((tt : Nat) : Int)) (by simp only [dO8, qd8]; rfl) rfl (by kernel_rfl) (fun z _ => by go_simp) ?_
    walk_nrm
    refine reaR_op goodA hDk (.slice (some ⟨b, off, none⟩) tt cj) (by simp only [dO8, qd8]; rfl) rfl (by kernel_rfl) (fun z _ => by go_simp) ?_
    walk_nrm
    refine reaR_op goodA hDk (.slice (some ⟨b, off, none⟩) tt cj) (by simp only [dO8, qd8]; rfl) rfl (by kernel_rfl) (fun z _ => by go_simp) ?_
    walk_nrm
    exact reaR_endReg hDk (do_cols hDk ⟨_, td_mk rfl⟩ fun T' hT' => hnext T' _ w1 hT' hLd (.inr ⟨b, off, cj, rfl, by omega⟩) hbl)
set_option maxHeartbeats 8000000 in
set_option maxRecDepth 100000 in
theorem do_out (hDk : Dok X D) {vd va : Value} (hT : TD2 vs K N tt M bc vd T)
    (hnext : ∀ T', TD3 vs K N tt M bc vd va T' → ReaR Tryz.prog X Y D Stop none [] 25 cs [.code do10] T' w) :
    ∀ z, SimT X Y z w → GoesI Tryz.prog D Stop (G ((frF T).finish va) cs) z := by
  rw [show frF T = Dn none [] 25 T (.inRegion dO9 [3, 4] :: [.code do10]) from rfl]
  rw [Dn_finish (by simp only [dO9, qd9]; rfl)]
  show ReaR _ _ _ _ _ _ _ _ _ _ _ _
  obtain ⟨g, rfl⟩ := hT
  unfold Td
  walk_nrm
  refine reaR_op goodA hDk va (by simp only [dO9, qd9]; rfl) rfl (by kernel_rfl) (fun z _ => by go_simp) ?_
  walk_nrm
  exact reaR_endReg hDk (hnext _ ⟨_, td_mk rfl⟩)
end
end Go.Proofs.YtlghjjennhpjeaaGreatDoor

/-
  archive.dataOf behind Columns: all columns held against what came out.
-/
namespace Go.Proofs.YtlghjjennhpjeaaGreatDoor
open Go.RowKit Go.Deep Go.Lf Go.Conc Go.Hp

/-- What dataOf tells. -/
def DoR (M : Nat) (sh : Nat → Shd) (again : Nat → List UInt8) (vd : Value) (w : World) (y : Value) (w' : World) : Prop :=
  Bel w.heap.size w w' ∧ ((y = .tuple #[vd, .nilIface] ∧ ∀ t, t < M → (sh t).col = again (sh t).i) ∨ ∃ e p, y = .tuple #[.slice none 0 0, e] ∧ Chain w' 0 e 13 p ∧ ¬ ∀ t, t < M → (sh t).col = again (sh t).i)

section
variable {X : Nat → Prop} {Y : Nat → Option Obj} {D : Nat → World → Array Event → Prop} {Stop : Goroutine → World → Prop} {w : World} {cs : List Frame} {K N L tt M bc C : Nat} {vs vd : Value} {T : Array Value} {sh : Nat → Shd} {vC va : Nat → Value} {again : Nat → List UInt8}
set_option maxHeartbeats 8000000 in
set_option maxRecDepth 100000 in
theorem do_tail (hDk : Dok X D) (hT : TD3 vs K N tt M bc vd (.slice (some ⟨C, 0, none⟩) N N) T) (hM : M ≤ 128) (hC : CR bc M M sh vC w) (hcl : ∀ i, i < M → Lies w (vC i) (u8V (sh i).col)) (hix : ∀ i, i < M → (sh i).i < N)
    (hag : ∀ i, i < N → w.cell? ⟨C, i, none⟩ = some (va i) ∧ Lies w (va i) (u8V (again i))) {c0 : Frame}
    (hK : ∀ y v', DoR M sh again vd w y v' → ∀ w', SimT X Y w' v' → GoesI Tryz.prog D Stop (G (c0.finish y) cs) w') :
    ReaI Tryz.prog X Y D Stop 25 (c0 :: cs) [.code do10] ⟨T, []⟩ w := by
  refine reaI_tail goodA hDk (by kernel_rfl) Tryz.func25 (fun τ d => ?_) hK
  have bl : Bel w.heap.size w { w with tape := τ, drawn := d } := (Bel.refl _ w).tp τ d
  generalize ({ w with tape := τ, drawn := d } : World) = wA at bl ⊢
  obtain ⟨g, rfl⟩ := hT
  unfold Td
  conv in do10 => simp only [do10, do9, do8, doBody, gSnd, Tryz.f25, Option.getD_some]
  go_wp2
  go_loopw [12, 13, 58] (fun _ _ vi wr => ∃ j : Nat, j ≤ M ∧ vi = .int .i64 (j : Int) ∧ Bel w.heap.size w wr ∧ ∀ t, t < j → (sh t).col = again (sh t).i) (fun _ _ vi _ => M - (intOf vi).toNat)
  case atStart => exact ⟨0, by omega, rfl, bl, fun t ht => absurd ht (by omega)⟩
  case round =>
    clear bl
    obtain ⟨j, hj, rfl, blr, hall⟩ := hrel
    by_cases hlt : j < M
    · have hlt' : (j : Int) < (M : Int) := by omega
      have hxN := hix j hlt
      have hxN' : (((sh j).i : Nat) : Int) < (N : Int) := by omega
      have r0 : w.rowIs bc _ _ _ := hC
      have p0 := r0.cell (i := j * 2) (by omega)
      have p1 := r0.cell (i := j * 2 + 1) (by omega)
      simp only [show j * 2 / 2 = j by omega, show (j * 2 + 1) / 2 = j by omega, hlt, if_true, crF, show j * 2 % 2 = 0 by omega, show ¬ (j * 2 + 1) % 2 = 0 by omega, if_false] at p0 p1
      obtain ⟨ga, gl⟩ := hag _ hxN
      have hs := bel_sub blr
      have L1 := hs.lies (hcl j hlt)
      have L2 := hs.lies gl
      replace p0 := hs.cell p0
      replace p1 := hs.cell p1
      replace ga := hs.cell ga
      have lb := cell_lt p0
      have lC := cell_lt ga
      simp only at lb lC
      obtain ⟨bq, cq, ev⟩ := L1.len
      obtain ⟨bz, cz, ez⟩ := L2.len
      have cn := cells_new wr [.int .i64 (((sh j).i : Nat) : Int), vC j] 55
      have c0 := cn 0
      have c1 := cn 1
      simp only [List.getElem?_cons_zero, List.getElem?_cons_succ] at c0 c1
      have b1 : ∀ o : Obj, Below wr.heap.size wr (wr.alloc o) := fun o => (Below.refl _ _).alloc (Nat.le_refl _) o
      have ga1 : ∀ o : Obj, (wr.alloc o).cell? ⟨C, (sh j).i, none⟩ = some (va (sh j).i) := fun o => ((b1 o).cell (p := ⟨C, (sh j).i, none⟩) lC).trans ga
      have kE : ∀ (o : Obj) (nq : Nat), Calls Tryz.prog 54 #[vC j, va (sh j).i] ((wr.alloc o).drewN nq) fun r w' => r = .returned (.bool ((sh j).col == again (sh j).i)) ∧ w' = (wr.alloc o).drewN nq := fun o nq => eqBytes_any _ _ _ _ _ ((L1.below (b1 o)).drewN nq) ((L2.below (b1 o)).drewN nq)
      have bE : ∀ (o : Obj) (nq : Nat), Bel w.heap.size w ((wr.alloc o).drewN nq) := fun o nq => blr.trans (Bel.of (below_drewN (b1 o) nq)) blr.size'
      clear cn L1 L2 gl hs r0
      generalize hvj : vC j = vj at *
      generalize hva : va (sh j).i = vz at *
      subst ev ez
      go_wp2_with fail
      replace ga1 := ga1 (.cells #[.int .i64 (((sh j).i : Nat) : Int), .slice bq (u8V (sh j).col).length cq] 55)
      replace kE := kE (.cells #[.int .i64 (((sh j).i : Nat) : Int), .slice bq (u8V (sh j).col).length cq] 55)
      replace bE := bE (.cells #[.int .i64 (((sh j).i : Nat) : Int), .slice bq (u8V (sh j).col).length cq] 55)
      generalize wr.alloc (.cells #[.int .i64 (((sh j).i : Nat) : Int), .slice bq (u8V (sh j).col).length cq] 55) = w1 at *
      clear p0 p1 ga blr b1 lb lC
      generalize wr.heap.size = pp at *
      rcases he : ((sh j).col == again (sh j).i) with _ | _
      · rw [he] at kE
        go_quiet ((go_at_call 54; exact Calls.quiet_of_same (kE _)))
        replace bE := bE nq
        generalize w1.drewN nq = w2 at bE ⊢
        go_wp2_with (first | (go_at_call 49; refine (at_any _ _ 13 j (by rfl) (by simp) _).mono ?_; rintro q w3 ⟨v, rfl, h1, h2⟩))
        go_ret2
        exact ⟨_, rfl, bE.trans (Bel.of h2) bE.size', .inr ⟨v, j, rfl, h1, fun hh => by rw [hh j hlt] at he; simp at he⟩⟩
      · rw [he] at kE
        go_quiet ((go_at_call 54; exact Calls.quiet_of_same (kE _)))
        replace bE := bE nq
        generalize w1.drewN nq = w2 at bE ⊢
        go_wp2
        refine ⟨⟨j + 1, by omega, by simp, bE, fun t ht => ?_⟩, by simp [intOf]; omega⟩
        rcases Nat.lt_or_ge t j with h | h
        · exact hall t h
        · obtain rfl : t = j := by omega
          simpa using he
    · obtain rfl : j = M := by omega
      have hnl : ¬ ((j : Int) < (j : Int)) := by omega
      go_wp2
      go_ret2
      exact ⟨_, rfl, blr, .inl ⟨rfl, hall⟩⟩
end
end Go.Proofs.YtlghjjennhpjeaaGreatDoor

/-
  Any K columns leave no choice: what Rebuild tells are the bytes, if there are such bytes.
-/
namespace Go.Proofs.YtlghjjennhpjeaaGreatDoor
open Go.RowKit Go.Deep

theorem gj_inv {k : Nat} {M A B : Nat → Nat → F} (hg : F.Gj k M k A B) {x y : Nat → F} (h : ∀ i, i < k → F.dot k (M i) x = y i) (i : Nat) (hi : i < k) : F.dot k (B i) y = x i := by
  have := (hg.same x y).2 h i hi
  rw [F.dot_unit hi fun j hj => by rw [hg.left i j hi hj]] at this
  exact this.symm
theorem dotN_F {r x : Nat → Nat} (hr : ∀ j, r j < 256) (hx : ∀ j, x j < 256) : ∀ n, (F.sum (List.range n) fun j => F.mu (Fin.ofNat 256 (r j)) (Fin.ofNat 256 (x j))).val = dotN r x n
  | 0 => rfl
  | n + 1 => by
    rw [sum_snoc]
    show (F.sum (List.range n) fun j => F.mu (Fin.ofNat 256 (r j)) (Fin.ofNat 256 (x j))).val ^^^ mul (r n % 256) (x n % 256) = _
    rw [dotN_F hr hx n, Nat.mod_eq_of_lt (hr n), Nat.mod_eq_of_lt (hx n)]
    rfl
theorem xAt_lt (l : List UInt8) (L j m : Nat) : xAt l L j m < 256 := (l.getD (j * L + m) 0).toNat_lt
theorem xF_uniq {K L m : Nat} {ix σ : Nat → Nat} {B : Nat → Nat → F} {yv : Nat → Nat → Nat} {l : List UInt8} (hpl : Placed K ix σ) (hg : ∃ A, F.Gj K (mF K fun s => ix (σ s)) K A B) (h : ∀ i, i < K → yv i m = dotN (rowV K (ix i)) (fun j => xAt l L j m) K) {t : Nat} (ht : t < K) : (xF K B yv σ t m).val = xAt l L t m := by
  obtain ⟨A, hg⟩ := hg
  unfold xF
  rw [gj_inv hg (x := fun j => Fin.ofNat 256 (xAt l L j m)) (fun s hs => ?_) t ht]
  · exact Nat.mod_eq_of_lt (xAt_lt l L t m)
  · refine Fin.ext ?_
    refine (dotN_F (r := rowV K (ix (σ s))) (fun _ => rowV_lt) (fun j => xAt_lt l L j m) K).trans ?_
    show _ = yv (σ s) m % 256
    rw [h _ (hpl.lt s hs), Nat.mod_eq_of_lt (dotN_lt (fun _ => rowV_lt) K)]

def partsB (K L : Nat) (x : Nat → Nat → Nat) : List (List UInt8) := (List.range K).map fun t => (List.range L).map fun m => UInt8.ofNat (x t m)
theorem parts_each {K L : Nat} {x : Nat → Nat → Nat} : ∀ l ∈ partsB K L x, l.length = L := fun l hl => by
  obtain ⟨t, _, rfl⟩ := List.mem_map.1 hl
  simp
theorem partsB_len (L : Nat) (x : Nat → Nat → Nat) : ∀ K, (partsB K L x).flatten.length = K * L
  | 0 => by simp [partsB]
  | K + 1 => by
    have := partsB_len L x K
    simp only [partsB] at this ⊢
    rw [List.range_succ, List.map_append, List.flatten_append, List.length_append, this]
    simp [Nat.succ_mul]
theorem partsB_get {L : Nat} (x : Nat → Nat → Nat) : ∀ K i, i < K * L → (partsB K L x).flatten[i]? = some (UInt8.ofNat (x (i / L) (i % L)))
  | 0, i, h => by simp at h
  | K + 1, i, h => by
    have hl := partsB_len L x K
    have hi := partsB_get (L := L) x K i
    simp only [partsB] at hl hi ⊢
    rw [List.range_succ, List.map_append, List.flatten_append]
    rcases Nat.lt_or_ge i (K * L) with h1 | h1
    · rw [List.getElem?_append_left (by rw [hl]; exact h1)]
      exact hi h1
    · rw [List.getElem?_append_right (by rw [hl]; exact h1), hl]
      rw [Nat.succ_mul] at h
      have e1 : i / L = K := Nat.div_eq_of_lt_le h1 (by rw [Nat.succ_mul]; exact h)
      have e2 : i % L = i - K * L := by
        have := Nat.div_add_mod i L
        rw [e1, Nat.mul_comm] at this
        omega
      rw [e1, e2]
      simp only [List.map_cons, List.map_nil, List.flatten_cons, List.flatten_nil, List.append_nil, List.getElem?_map]
      rw [List.getElem?_range (by omega)]
      rfl
theorem lenC_ge {k : Nat} (hk : 1 ≤ k) (t : Nat) : t ≤ k * lenC k t := by
  unfold lenC
  have h1 := Nat.div_add_mod (t + k - 1) k
  have h2 := Nat.mod_lt (t + k - 1) (show 0 < k by omega)
  omega
theorem parts_take {K L : Nat} {x : Nat → Nat → Nat} {l : List UInt8} (hl : l.length ≤ K * L) (h : ∀ t m, t < K → m < L → x t m = xAt l L t m) : (partsB K L x).flatten.take l.length = l := by
  refine List.ext_getElem? fun i => ?_
  rw [List.getElem?_take]
  split
  · rename_i hi
    have h1 : i < K * L := by omega
    have hL : 0 < L := Nat.pos_of_ne_zero fun e => by subst e; simp at h1
    rw [partsB_get x K i h1, h _ _ ((Nat.div_lt_iff_lt_mul hL).2 h1) (Nat.mod_lt _ hL)]
    unfold xAt bAt
    rw [Nat.mul_comm, Nat.div_add_mod, List.getD_eq_getElem?_getD, List.getElem?_eq_getElem hi]
    simp
  · rename_i hi
    rw [List.getElem?_eq_none (by omega)]
end Go.Proofs.YtlghjjennhpjeaaGreatDoor

/-
  One call of archive.dataOf beside those that leave: through its two forks, back to its caller.
-/
namespace Go.Proofs.YtlghjjennhpjeaaGreatDoor
open Go.RowKit Go.Deep Go.Lf Go.Conc Go.ConcN Go.Gh Go.Hp
open Go.ConcR (Payload WgAt wgBlock)

theorem kpX_sim {X : Nat → Prop} {Y : Nat → Option Obj} {W W' v v' : World} (hs : SimT X Y W v) (hs' : SimT X Y W' v') (hb : Bel v.heap.size v v') : KpX X W W' := by
  obtain ⟨τ, d, h⟩ := hs
  obtain ⟨τ', d', h'⟩ := hs'
  have e1 : W.heap.size = v.heap.size := h.size
  have e2 : W'.heap.size = v'.heap.size := h'.size
  have := hb.size'
  exact ⟨h'.os.trans (Eq.trans (show v'.os = v.os from hb.os) h.os.symm), h'.out.trans (Eq.trans (show v'.output = v.output from hb.output) h.out.symm), by omega, fun b hlt hx => Sim.agree h h' hx (hb.blk (by omega))⟩
theorem KpX.trans {X X' : Nat → Prop} {a b c : World} (h : KpX X a b) (h' : KpX X' b c) (hX : ∀ x, X' x → X x ∨ a.heap.size ≤ x) : KpX X a c :=
  ⟨h'.os.trans h.os, h'.output.trans h.output, Nat.le_trans h.size h'.size, fun x hx hn => (h'.block x (Nat.lt_of_lt_of_le hx h.size) fun y => (hX x y).elim hn (by omega)).trans (h.block x hx hn)⟩
theorem simT_cell {X : Nat → Prop} {Y : Nat → Option Obj} {W v : World} (h : SimT X Y W v) {b o : Nat} {u : Value} (hc : v.cell? ⟨b, o, none⟩ = some u) : ¬ X b := fun hx => by
  obtain ⟨τ, d, hs⟩ := h
  obtain ⟨c, t, fr, _, h2⟩ := hs.doc b hx
  replace h2 : v.heap[b]? = some (.cells #[] t fr) := h2
  simp [World.cell?, h2] at hc
theorem chain_sub {w w' : World} (hs : Sub w w') : ∀ {d : Nat} {v : Value} {e p : Nat}, Chain w d v e p → Chain w' d v e p
  | 0, _, _, _, ⟨b, h1, h2⟩ => ⟨b, h1, hs.row h2⟩
  | _ + 1, _, _, _, ⟨b, s, c, h1, h2, h3⟩ => ⟨b, s, c, h1, hs.row h2, chain_sub hs h3⟩
theorem Sds.sub {w w' : World} {bo : Option Addr} {n : Nat} {sh : Nat → Shd} {vN vS vC : Nat → Value} (h : Sds w bo n sh vN vS vC) (hs : Sub w w') : Sds w' bo n sh vN vS vC :=
  ⟨fun hn => by
    obtain ⟨b, o, e, hl, hc⟩ := h.cells hn
    exact ⟨b, o, e, Nat.lt_of_lt_of_le hl hs.1, fun i hi j v hv => hs.cell (hc i hi j v hv)⟩,
   fun i hi => ⟨hs.lies (h.nm i hi).1, (h.nm i hi).2⟩, fun i hi => ⟨hs.lies (h.sz i hi).1, (h.sz i hi).2⟩, fun i hi => hs.lies (h.cl i hi), h.kn⟩
theorem bAt_colB {K L m : Nat} (l : List UInt8) (i : Nat) (hm : m < L) : bAt (colB K L l i) m = dotN (rowV K i) (fun j => xAt l L j m) K := by
  unfold bAt colB
  rw [List.getD_eq_getElem?_getD, List.getElem?_map, List.getElem?_range hm]
  simp only [Option.map_some, Option.getD_some, UInt8.toNat_ofNat']
  exact Nat.mod_eq_of_lt (dotN_lt (fun _ => rowV_lt) K)
theorem prts_of {w : World} {C K L : Nat} {dN : Nat → Nat} {x : Nat → Nat → Nat} (hx : ∀ t m, x t m < 256) (h : ∀ t, t < K → w.cell? ⟨C, t, none⟩ = some (.slice (some ⟨dN t, 0, none⟩) L L) ∧ ∀ m, m < L → w.cell? ⟨dN t, m, none⟩ = some (.int .u8 ((x t m : Nat) : Int))) : Prts w C K L dN (partsB K L x) := by
  refine ⟨by simp [partsB], parts_each, fun t ht => (h t ht).1, fun t l hl m u hu => ?_⟩
  simp only [partsB, List.getElem?_map] at hl
  obtain ⟨t', ht', rfl⟩ := Option.map_eq_some_iff.1 hl
  obtain ⟨h1, h2⟩ := List.getElem?_eq_some_iff.1 ht'
  simp at h1 h2
  subst h2
  simp only [List.getElem?_map] at hu
  obtain ⟨m', hm', rfl⟩ := Option.map_eq_some_iff.1 hu
  obtain ⟨h3, h4⟩ := List.getElem?_eq_some_iff.1 hm'
  simp at h3 h4
  subst h4
  rw [(h t h1).2 m h3, UInt8.toNat_ofNat', Nat.mod_eq_of_lt (hx t m)]
theorem lies_block {w : World} {b : Nat} {l : List UInt8} {ty : TypeId} (h : w.heap[b]? = some (.cells (u8V l).toArray ty)) : Lies w (.slice (some ⟨b, 0, none⟩) l.length l.length) (u8V l) :=
  ⟨some ⟨b, 0, none⟩, l.length, by simp [u8V], by simp [u8V], fun j u hj => ⟨b, 0, rfl, by rw [Nat.zero_add]; exact cell_of_block h (by simpa using hj)⟩⟩
def slB : Value → Option Addr | .slice b _ _ => b | _ => none
def slC : Value → Nat | .slice _ _ c => c | _ => 0
def qOf (L : Nat) (sh : Nat → Shd) (vC : Nat → Value) : CL := ⟨L, fun i => (sh i).i, fun i => slB (vC i), fun i => slC (vC i)⟩
def bdOf (bc : Nat) (v : Value) : Nat := match slB v with | some a => a.block | none => bc
def odOf (v : Value) : Nat := match slB v with | some a => a.off | none => 0
/-- There are such bytes. -/
def Hold' (K L M : Nat) (sh : Nat → Shd) (l : List UInt8) : Prop := ∀ t, t < M → (sh t).col = colB K L l (sh t).i
/-- What dataOf tells. -/
def DatR (K L M tt : Nat) (sh : Nat → Shd) (l : List UInt8) (vd y : Value) (w : World) : Prop :=
  (y = .tuple #[vd, .nilIface] ∧ Hold' K L M sh l ∧ ∀ l', l'.length = tt → Hold' K L M sh l' → l' = l) ∨ ∃ ev p, y = .tuple #[.slice none 0 0, ev] ∧ Chain w 0 ev 13 p ∧ ¬ ∃ l', l'.length = tt ∧ Hold' K L M sh l'

section
variable {X : Nat → Prop} {Y : Nat → Option Obj} {K N L tt M bc : Nat} {bo : Option Addr} {sh : Nat → Shd} {vN vS vC : Nat → Value} {w : World}
theorem co_of (hH : DsH K N L tt M sh) (hC : CR bc M M sh vC w) (hbc : bc < w.heap.size) (hcl : ∀ i, i < M → Lies w (vC i) (u8V (sh i).col)) : CO w bc 0 K (qOf L sh vC) := by
  have r : w.rowIs bc _ _ _ := hC
  have := hH.kM
  refine ⟨hbc, fun i hi => ?_, fun i hi => ?_⟩
  · have := r.cell (i := i * 2) (by omega)
    simp only [show i * 2 / 2 = i by omega, show i < M by omega, if_true, crF, show i * 2 % 2 = 0 by omega] at this
    rw [Nat.zero_add]
    exact this
  · have h2 := r.cell (i := i * 2 + 1) (by omega)
    simp only [show (i * 2 + 1) / 2 = i by omega, show i < M by omega, if_true, crF, show ¬ (i * 2 + 1) % 2 = 0 by omega, if_false] at h2
    rw [Nat.zero_add, h2]
    obtain ⟨ba, cap, e, _⟩ := hcl i (by omega)
    have hl := hH.len i (by omega)
    simp only [qOf, e, slB, slC]
    simp [u8V, hl]
theorem do_of (hkM : K ≤ M) (hlen : ∀ i, i < M → (sh i).col.length = L) (hbc : bc < w.heap.size) (hcl : ∀ i, i < M → Lies w (vC i) (u8V (sh i).col)) : DO w K (qOf L sh vC) (fun i => if 0 < L then bdOf bc (vC i) else bc) (fun i => odOf (vC i)) (fun i m => bAt (sh i).col m) := by
  have key : ∀ i, i < K → 0 < L → ∃ b off cap, vC i = .slice (some ⟨b, off, none⟩) L cap ∧ ∀ m, m < L → w.cell? ⟨b, off + m, none⟩ = some (.int .u8 (bAt (sh i).col m : Int)) := fun i hi hL => by
    have hl := hlen i (by omega)
    obtain ⟨ba, cap, e, _, hc⟩ := hcl i (by omega)
    have el : (u8V (sh i).col).length = L := by simp [u8V, hl]
    obtain ⟨b, off, rfl, _⟩ := hc 0 _ (u8V_get (by omega))
    rw [el] at e
    refine ⟨b, off, cap, e, fun m hm => ?_⟩
    obtain ⟨b', off', e', h⟩ := hc m _ (u8V_get (by omega))
    cases e'
    exact h
  refine ⟨fun i hi => ?_, fun i hi hL => ?_, fun i m hi hm => ?_, fun i m => UInt8.toNat_lt _⟩
  · by_cases hL : 0 < L
    · obtain ⟨b, off, cap, e, h⟩ := key i hi hL
      simp only [hL, if_true, bdOf, e, slB]
      exact cell_lt (h 0 hL)
    · simp only [hL, if_false]
      exact hbc
  · have hL' : 0 < L := hL
    obtain ⟨b, off, cap, e, h⟩ := key i hi hL'
    simp only [hL', if_true, bdOf, odOf, qOf, e, slB]
  · have hm' : m < L := hm
    have hL' : 0 < L := by omega
    obtain ⟨b, off, cap, e, h⟩ := key i hi hL'
    simp only [hL', if_true, bdOf, odOf, e, slB]
    exact h m hm'
end
set_option maxHeartbeats 1000000 in
set_option maxRecDepth 100000 in
theorem data_call {Fin : Machine → Trace → Prop} (hpre : ∀ m m' ops t, stepT Tryz.prog m = (.next m', ops) → Fin m' (t ++ ops) → Fin m t) {X : Nat → Prop} {Y : Nat → Option Obj} {e : Nat} {gs : Array Goroutine} {W v0 : World} {sl : Option (Nat × Nat)} {t : Trace} {qq : Nat → Nat} {fr : Frame} {cs : List Frame} {K N L tt M cap : Nat} {bo : Option Addr} {sh : Nat → Shd} {vN vS vC : Nat → Value}
    (h0 : gs[0]? = some (G ((base 25).at ⟨#[.slice bo M cap] ++ Array.replicate 75 undef, []⟩ [.code doBody]) (fr :: cs))) (hB : Bes Tryz.prog (ShunX X) e gs W t qq) (hs : SimT X Y W v0)
    (hH : DsH K N L tt M sh) (hS : Sds v0 bo M sh vN vS vC) (he : e + K + N < 2147483648)
    (hnext : ∀ (e' : Nat) (l : List UInt8) (vd y : Value) (X' : Nat → Prop) (gs' : Array Goroutine) (W' : World) (sl' : Option (Nat × Nat)) (t' : Trace) (q' : Nat → Nat) (Y' : Nat → Option Obj) (v' : World), e' ≤ e + K + N → l.length = tt → gs'[0]? = some (G (fr.finish y) cs) →
      Bes Tryz.prog (ShunX X') e' gs' W' t' q' → SimT X' Y' W' v' → (∀ b, X b → X' b) → (∀ b, X' b → X b ∨ W.heap.size ≤ b) → Sub v0 v' → KpX X W W' → Lies v' vd (u8V l) → DatV vd tt → DatR K L M tt sh l vd y v' → Fin (crowd gs' W' sl') t') :
    Fin (crowd gs W sl) t := by
  obtain ⟨k1, kn, n1, kM, hM, sk, sn, st, t1, hl, len, hix, inj⟩ := id hH
  have hLt := lenC_le (k := K) k1 tt
  have hKL := lenC_ge (k := K) k1 tt
  have hz0 : W.heap.size = v0.heap.size := hs.size
  let St : Goroutine → World → Prop := fun gr W => ∃ T bc v1, TD1 (.slice bo M cap) K N tt M bc T ∧ CR bc M M sh vC v1 ∧ Bel v0.heap.size v0 v1 ∧ v0.heap.size ≤ bc ∧ gr = G ((base 52).at ⟨#[.int .i64 (K : Int), .slice (some ⟨bc, 0, none⟩) M M] ++ Array.replicate 67 undef, []⟩ [.code body31]) (frD T :: fr :: cs) ∧ SimT X Y W v1
  have key : ∀ (T : Array Value) (bc : Nat) (v1 : World), TD1 (.slice bo M cap) K N tt M bc T → CR bc M M sh vC v1 → Bel v0.heap.size v0 v1 → v0.heap.size ≤ bc →
      ReaI Tryz.prog X Y (DM (ShunX X)) St 25 (fr :: cs) [.code do8] ⟨T, []⟩ v1 := fun T bc v1 hT hC hb hbc => do_into (dokX X) hT fun T' hT' y hy => .stop fun d => ⟨T', bc, v1, hT', hC, hb, hbc, rfl, hy.at d⟩
  have key2 := do_pre (cap := cap) (dokX X) hH hS key
  refine late (Fin := Fin) (Shun := ShunX X) (e := e) hpre (fun _ _ _ h => h) (fun gs1 a1 W1 sl1 t1 q1 h01 hst hB1 => ?_) (key2 W hs) W.drawn gs sl t qq h0 hB
  obtain ⟨T, bc, v1, hT, hC, hb1, hbc, rfl, hs1⟩ := hst W1.drawn
  replace hs1 : SimT X Y W1 v1 := hs1
  have hk1 := kpX_sim hs hs1 hb1
  have hsub1 := bel_sub hb1
  have hbc1 : bc < v1.heap.size := World.rowIs.lt hC
  have hcl1 : ∀ i, i < M → Lies v1 (vC i) (u8V (sh i).col) := fun i hi => hsub1.lies (hS.cl i hi)
  have hDO := do_of (bc := bc) hH.kM hH.len hbc1 hcl1
  have hXb : ¬ X bc := fun hx => by
    obtain ⟨τ, d, hh⟩ := hs
    have := hh.bound bc (.inl hx)
    have : bc < v0.heap.size := this
    omega
  refine rebuild_call hpre (q := qOf L sh vC) h01 hB1 hs1 ⟨by omega, by omega⟩ kM (Nat.le_refl _) (fun i hi => by have := hix i (by omega); show (sh i).i < 128; omega) (co_of hH hC hbc1 hcl1) (fun i j hi hj hne => inj i j (by omega) (by omega) hne) hDO (fun i hi => ?_) (by show L ≤ 65536; omega) (by omega) ?_
  · by_cases hL : 0 < L
    · have h1 := hDO.y i 0 hi hL
      exact simT_cell hs1 h1
    · simp only [hL, if_false]
      exact hXb
  intro e2 σ B C Wg dN gs2 W2 sl2 t2 q2 Y2 v2 he2 hpl hgj h02 hB2 hs2 hWg hsub2 hk2 hcell
  have hP := prts_of (L := L) (x := fun t m => (xF K B (fun i m => bAt (sh i).col m) σ t m).val) (fun t m => (xF K B (fun i m => bAt (sh i).col m) σ t m).isLt) hcell
  have hfl := partsB_len L (fun t m => (xF K B (fun i m => bAt (sh i).col m) σ t m).val) K
  have huniq : ∀ l' : List UInt8, l'.length = tt → Hold' K L M sh l' → (partsB K L (fun t m => (xF K B (fun i m => bAt (sh i).col m) σ t m).val)).flatten.take tt = l' := fun l' h1 h2 => by
    rw [← h1]
    refine parts_take (by rw [h1, hl]; exact hKL) fun t m ht hm => xF_uniq (ix := fun i => (sh i).i) hpl hgj (fun i hi => ?_) ht
    show bAt (sh i).col m = _
    rw [h2 i (by omega), bAt_colB l' _ hm]
  generalize (partsB K L (fun t m => (xF K B (fun i m => bAt (sh i).col m) σ t m).val)) = ls at hP hfl huniq
  have htl : tt ≤ ls.flatten.length := by rw [hfl, hl]; exact hKL
  have hdl : (ls.flatten.take tt).length = tt := by rw [List.length_take]; omega
  let St2 : Goroutine → World → Prop := fun gr W => ∃ T2 vd v3, TD2 (.slice bo M cap) K N tt M bc vd T2 ∧ Lies v3 vd (u8V (ls.flatten.take tt)) ∧ DatV vd tt ∧ Bel v2.heap.size v2 v3 ∧ gr = G ((base 53).at ⟨#[.int .i64 ((K : Nat) : Int), .int .i64 ((N : Nat) : Int), vd] ++ Array.replicate 23 undef, []⟩ [.code gBody]) (frF T2 :: fr :: cs) ∧ SimT (fun b => X b ∨ b = Wg) Y2 W v3
  have key3 := do_mid (Stop := St2) (cs := fr :: cs) (Y := Y2) (L := L) (dokX (fun b => X b ∨ b = Wg)) hT hP ⟨by omega, by omega⟩ (by omega) htl (fun T' vd w' a1 a2 a3 a4 y hy => .stop fun d => ⟨T', vd, w', a1, a2, a3, a4, rfl, hy.at d⟩)
  refine late (Fin := Fin) (Shun := ShunX (fun b => X b ∨ b = Wg)) (e := e2) hpre (fun _ _ _ h => h) (fun gs3 a3 W3 sl3 t3 q3 h03 hst3 hB3 => ?_) (key3 W2 hs2) W2.drawn gs2 sl2 t2 q2 h02 hB2
  obtain ⟨T2, vd, v3, hT2, hLd, hDd, hb3, rfl, hs3⟩ := hst3 W3.drawn
  replace hs3 : SimT (fun b => X b ∨ b = Wg) Y2 W3 v3 := hs3
  have hk3 := kpX_sim hs2 hs3 hb3
  have hsub3 := bel_sub hb3
  have hw1 := hk1.size
  have hw2 := hk2.size
  have hw3 := hk3.size
  refine columns_call hpre h03 hB3 hs3 k1 kn n1 (by rw [hdl]; exact hH.t1) hLd (by omega) ?_
  intro C2 Wg2 dN2 gs4 W4 sl4 t4 q4 Y4 v4 h04 hB4 hs4 hWg2 hC2 hsub4 hk4 hcell4
  rw [hdl, ← hl] at hcell4
  have hsub : Sub v0 v4 := hsub1.trans (hsub2.trans (hsub3.trans hsub4))
  have hsub14 : Sub v1 v4 := hsub2.trans (hsub3.trans hsub4)
  have hC4 : CR bc M M sh vC v4 := by
    obtain ⟨c, h1, h2, h3⟩ := id hC
    exact ⟨c, hsub14.2 _ _ _ _ h1, h2, h3⟩
  have hag : ∀ i, i < N → v4.cell? ⟨C2, i, none⟩ = some (.slice (some ⟨dN2 i, 0, none⟩) L L) ∧ Lies v4 (.slice (some ⟨dN2 i, 0, none⟩) L L) (u8V (colB K L (ls.flatten.take tt) i)) := fun i hi => by
    refine ⟨(hcell4 i hi).1, ?_⟩
    have := lies_block (hcell4 i hi).2
    rw [colB_length] at this
    exact this
  let St3 : Goroutine → World → Prop := fun gr W => ∃ y v5, DoR M sh (colB K L (ls.flatten.take tt)) vd v4 y v5 ∧ gr = G (fr.finish y) cs ∧ SimT (fun b => (X b ∨ b = Wg) ∨ b = Wg2) Y4 W v5
  have key4 := do_out (Stop := St3) (cs := fr :: cs) (Y := Y4) (w := v4) (va := .slice (some ⟨C2, 0, none⟩) N N) (dokX (fun b => (X b ∨ b = Wg) ∨ b = Wg2)) hT2 (fun T3 hT3 => reaR_I.2 (do_tail (Stop := St3) (dokX (fun b => (X b ∨ b = Wg) ∨ b = Wg2)) hT3 hM hC4 (fun i hi => hsub.lies (hS.cl i hi)) hix hag fun y v5 hy w' hw' => .stop fun d => ⟨y, v5, hy, rfl, hw'.at d⟩))
  refine late (Fin := Fin) (Shun := ShunX (fun b => (X b ∨ b = Wg) ∨ b = Wg2)) (e := e2 + N) hpre (fun _ _ _ h => h) (fun gs5 a5 W5 sl5 t5 q5 h05 hst5 hB5 => ?_) (key4 W4 hs4) W4.drawn gs4 sl4 t4 q4 h04 hB4
  obtain ⟨y, v5, ⟨hb5, hy⟩, rfl, hs5⟩ := hst5 W5.drawn
  replace hs5 : SimT (fun b => (X b ∨ b = Wg) ∨ b = Wg2) Y4 W5 v5 := hs5
  have hk5 := kpX_sim hs4 hs5 hb5
  have hsub5 := bel_sub hb5
  refine hnext (e2 + N) (ls.flatten.take tt) vd y _ gs5 W5 sl5 t5 q5 Y4 v5 (by omega) hdl h05 hB5 hs5 (fun b h => .inl (.inl h)) (fun b h => ?_) (hsub.trans hsub5) ?_ ((hsub4.trans hsub5).lies hLd) hDd ?_
  · rcases h with (h | rfl) | rfl
    · exact .inl h
    · exact .inr (by omega)
    · exact .inr (by omega)
  · refine ((hk1.trans hk2 fun x hx => .inl hx).trans hk3 fun x hx => hx.imp id fun h => by omega).trans (hk4.trans hk5 fun x hx => ?_) fun x hx => ?_
    · rcases hx with h | rfl
      · exact .inl h
      · exact .inr hWg2
    · rcases hx with h | rfl
      · exact .inl h
      · exact .inr (by omega)
  · rcases hy with ⟨h1, h2⟩ | ⟨ev, p, h1, h2, h3⟩
    · exact .inl ⟨h1, h2, fun l' h4 h5 => (huniq l' h4 h5).symm⟩
    · refine .inr ⟨ev, p, h1, h2, fun ⟨l', h4, h5⟩ => h3 fun t ht => ?_⟩
      rw [huniq l' h4 h5]
      exact h5 t ht
end Go.Proofs.YtlghjjennhpjeaaGreatDoor

/-
  A call of cairn.Encode that is refused for its names, beside those that leave.
-/
namespace Go.Proofs.YtlghjjennhpjeaaGreatDoor
open Go.RowKit Go.Deep Go.Lf Go.Conc Go.Hp

section
variable {P : Program} {X : Nat → Prop} {Y : Nat → Option Obj} {D : Nat → World → Array Event → Prop} {Stop : Goroutine → World → Prop} {f : FuncId} {k : List Item} {cs : List Frame} {v : World}
/-- A return in the midst of the code. -/
theorem reaI_retK (hD : Dok X D) {fn : Func} (hf : P.funcs[f]? = some fn) {T : Array Value} {c : Frame} {y : Value} (hres : ∀ τ d, (results fn T).run P { v with tape := τ, drawn := d } = .ok y { v with tape := τ, drawn := d })
    (h : ∀ w, SimT X Y w v → GoesI P D Stop (G (c.finish y) cs) w) : ReaI P X Y D Stop f (c :: cs) (.code .ret :: k) ⟨T, []⟩ v :=
  fun w hs => .next rfl fun d => ⟨G { Dn none [] f T (.code .ret :: k) with mode := .returning } (c :: cs), w.at d, #[], rfl, hD.nil (Nat.le_refl _), goesI_back hD hf hres h _ (hs.at d)⟩
end

section
variable {X : Nat → Prop} {Y : Nat → Option Obj} {D : Nat → World → Array Event → Prop} {Stop : Goroutine → World → Prop} {w : World} {K N C m cap : Nat} {bo : Option Addr} {f : Nat → Ent} {d : Ent → List UInt8} {fr : Frame} {cs : List Frame}
end
end Go.Proofs.YtlghjjennhpjeaaGreatDoor

/-
  archive.Decode: up to its call of dataOf, or to its return where the shards may not be put together; and behind dataOf.
-/
namespace Go.Proofs.YtlghjjennhpjeaaGreatDoor
open Go.RowKit Go.Deep Go.Lf Go.Conc Go.Hp

noncomputable def adBody : Code := Tryz.f10.body.getD .skip
noncomputable def ad2 : Code := gSnd (gSnd adBody)
noncomputable def ad5 : Code := gSnd ad2
noncomputable def ad6 : Code := gSnd ad5
theorem adBody_eq : adBody = .seq (gFst adBody) (.seq (gFst (gSnd adBody)) ad2) := by kernel_rfl
def cnd1 : Code → Code | .cond _ x _ => x | c => c
theorem ad2_eq : ad2 = .seq (.seq (gFst (gFst ad2)) (.seq (gFst (gSnd (gFst ad2))) (.cond (.tmp 13) (.seq (gFst (cnd1 (gSnd (gSnd (gFst ad2))))) .ret) .skip))) ad5 := by kernel_rfl
theorem ad2_eq' : ad2 = .seq (gFst ad2) ad5 := by kernel_rfl
noncomputable def qa5 : {y : Array Oper // y = gOps (gFst ad5)} := ⟨_, by (simp only [ad5, ad2, adBody, gFst, gSnd, gOps, Tryz.f10, Option.getD_some]; rfl)⟩
noncomputable def aO5 : Array Oper := qa5.1
theorem ad5_eq : ad5 = .seq (.region 5 aO5 false) ad6 := by kernel_rfl
theorem aO5_size : aO5.size = 7 := by kernel_rfl
theorem sfad : ∃ fn, Tryz.prog.funcs[10]? = some fn := ⟨_, Tryz.func10⟩

def Ta (f : Nat → Value) (a4 a5 a6 a7 : Value) : Array Value := #[f 0, f 1, f 2, f 3, a4, a5, a6, a7, f 8, f 9, f 10, f 11, f 12, f 13, f 14, f 15, f 16, f 17, f 18, f 19, f 20, f 21, f 22, f 23, f 24, f 25, f 26, f 27, f 28, f 29, f 30, f 31, f 32, f 33, f 34]
theorem tad_mk {T : Array Value} (h : T = #[T.getD 0 undef, T.getD 1 undef, T.getD 2 undef, T.getD 3 undef, T.getD 4 undef, T.getD 5 undef, T.getD 6 undef, T.getD 7 undef, T.getD 8 undef, T.getD 9 undef, T.getD 10 undef, T.getD 11 undef, T.getD 12 undef, T.getD 13 undef, T.getD 14 undef, T.getD 15 undef, T.getD 16 undef, T.getD 17 undef, T.getD 18 undef, T.getD 19 undef, T.getD 20 undef, T.getD 21 undef, T.getD 22 undef, T.getD 23 undef, T.getD 24 undef, T.getD 25 undef, T.getD 26 undef, T.getD 27 undef, T.getD 28 undef, T.getD 29 undef, T.getD 30 undef, T.getD 31 undef, T.getD 32 undef, T.getD 33 undef, T.getD 34 undef]) : T = Ta (fun i => T.getD i undef) (T.getD 4 undef) (T.getD 5 undef) (T.getD 6 undef) (T.getD 7 undef) := h
/-- The slots: the shards in order. -/
def TA1 (vs : Value) (T : Array Value) : Prop := ∃ f : Nat → Value, T = Ta f vs (f 5) (f 6) (f 7)
def TA2 (vs vd ve : Value) (T : Array Value) : Prop := ∃ f : Nat → Value, T = Ta f vs (f 5) vd ve
noncomputable def frAd (T : Array Value) : Frame := (base 10).at ⟨T, []⟩ (.inRegion aO5 [1, 2, 3, 4, 5, 6] :: [.code ad6])

/-- A rearrangement of numbers. -/
structure Prm (n : Nat) (g : Nat → Nat) : Prop where
  lt : ∀ i, i < n → g i < n
  inj : ∀ i j, i < n → j < n → i ≠ j → g i ≠ g j
  onto : ∀ j, j < n → ∃ i, i < n ∧ g i = j
def shS (M : Nat) (sh : Nat → Shd) (vN vS vC : Nat → Value) (i : Nat) : List Value := if i < M then shQ (sh i) (vN i) (vS i) (vC i) else List.replicate 7 (.int .i64 0)
theorem shS_ok {w : World} {bo : Option Addr} {M : Nat} {sh : Nat → Shd} {vN vS vC : Nat → Value} (h : Sds w bo M sh vN vS vC) : ShOk (shS M sh vN vS vC) := by
  refine ⟨fun i => ?_, fun i u hu => ?_⟩
  · unfold shS
    split
    · rfl
    · simp
  · unfold shS at hu
    split at hu
    · rename_i hi
      have e1 := (h.nm i hi).1.one
      have e2 := (h.sz i hi).1.one
      have e3 := (h.cl i hi).one
      simp only [shQ, List.mem_cons, List.not_mem_nil, or_false] at hu
      rcases hu with rfl | rfl | rfl | rfl | rfl | rfl | rfl
      · rfl
      · rfl
      · rfl
      · rfl
      · exact e1
      · exact e2
      · exact e3
    · obtain rfl := List.eq_of_mem_replicate hu
      rfl
theorem sorted_sds {w w' : World} {bo : Option Addr} {M : Nat} {sh : Nat → Shd} {vN vS vC : Nat → Value} {r : Ending} (h : Sds w bo M sh vN vS vC) (hx : ∀ i, i < M → (sh i).i < 256) (hI : ByI (shS M sh vN vS vC) (fun i => (sh i).i) M w r w') :
    Below w.heap.size w w' ∧ ∃ (g : Nat → Nat) (bs : Option Addr) (cp : Nat), r = .returned (.slice bs M cp) ∧ Prm M g ∧ (∀ i, i + 1 < M → (sh (g i)).i ≤ (sh (g (i + 1))).i) ∧ Sds w' bs M (fun i => sh (g i)) (fun i => vN (g i)) (fun i => vS (g i)) (fun i => vC (g i)) := by
  obtain ⟨hb, out, v, rfl, ⟨σ, τ, hst, ho⟩, hsr, hown⟩ := hI
  refine ⟨hb, ?_⟩
  have hl : ∀ i, i < M → (out i).l = σ i := fun i hi => by rw [ho i hi]; rfl
  have hk : ∀ i, i < M → ekey (out i) = (sh (σ i)).i := fun i hi => by rw [ho i hi]; exact entI_key (hx _ (hst i hi).1)
  have hsg : ∀ i, i < M → ∃ b, (out i).k = [b] := fun i hi => by rw [ho i hi]; exact ⟨_, rfl⟩
  have hv : ∃ bs cp, v = .slice bs M cp ∧ (0 < M → ∃ g, bs = some ⟨g, 0, none⟩) := by
    rcases hown.2 with ⟨h1, h0⟩ | ⟨g, c, _, h1, _⟩
    · exact ⟨none, 0, by rw [h1, h0], fun h => by omega⟩
    · exact ⟨_, c, h1, fun _ => ⟨g, rfl⟩⟩
  obtain ⟨bs, cp, rfl, hbs⟩ := hv
  refine ⟨σ, bs, cp, rfl, ⟨fun i hi => (hst i hi).1, fun i j hi hj hne e => hne ?_, fun j hj => ⟨τ j, (hst j hj).2.1, (hst j hj).2.2.2⟩⟩, fun i hi => ?_, ?_, fun i hi => ?_, fun i hi => ?_, fun i hi => ?_, fun i hi => h.kn _ (hst i hi).1⟩
  · have a1 := (hst i hi).2.2.1
    have a2 := (hst j hj).2.2.1
    rw [e, a2] at a1
    exact a1.symm
  · have := hsr i hi
    unfold Hp.le at this
    rw [lt_key (hsg _ (by omega)) (hsg _ (by omega)), hk _ (by omega), hk _ (by omega)] at this
    have := of_decide_eq_false this
    omega
  · intro hn
    obtain ⟨g, rfl⟩ := hbs hn
    have hS := shS_ok h
    refine ⟨g, 0, rfl, ?_, fun i hi => ?_⟩
    · have := own_range (c := fun e => shS M sh vN vS vC e.l) (fun e => hS.len e.l) hown hn 0 ((shS M sh vN vS vC (out 0).l)[0]'(by rw [hS.len]; omega)) (List.getElem?_eq_getElem _)
      exact cell_lt this
    · have := own_range (c := fun e => shS M sh vN vS vC e.l) (fun e => hS.len e.l) hown hi
      rw [hl i hi, shS, if_pos (hst i hi).1] at this
      rw [Nat.zero_add]
      exact this
  · exact ⟨(h.nm _ (hst i hi).1).1.belB hb (Nat.le_refl _), (h.nm _ (hst i hi).1).2⟩
  · exact ⟨(h.sz _ (hst i hi).1).1.belB hb (Nat.le_refl _), (h.sz _ (hst i hi).1).2⟩
  · exact (h.cl _ (hst i hi).1).belB hb (Nat.le_refl _)
end Go.Proofs.YtlghjjennhpjeaaGreatDoor
