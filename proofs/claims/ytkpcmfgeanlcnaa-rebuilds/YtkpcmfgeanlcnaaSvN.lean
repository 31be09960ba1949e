/-
  The calls of cairn.Rebuild and of coding.Rebuild: their code, cut; the frames that stand above.
-/
import Derived.Test.YtkpcmfgeanlcnaaSvA
import Derived.Test.YtkpcmfgeanlcnaaSvJ
import Derived.Test.YtkpcmfgeanlcnaaLfK
import Derived.Test.YtkpcmfgeanlcnaaCoT
namespace Go.Proofs.Ytkpcmfgeanlcnaa
open Go.RowKit Go.Deep Go.Lf Go.Conc

def cFst7 : Code → Code | .seq x _ => x | c => c
def cSnd7 : Code → Code | .seq _ y => y | c => c
def cOps7 : Code → Array Oper | .region _ o _ => o | _ => #[]
noncomputable def body18 : Code := Try.f18.body.getD .skip
theorem sf18 : ∃ fn, Try.prog.funcs[18]? = some fn := ⟨_, Try.func18⟩
theorem sf31 : ∃ fn, Try.prog.funcs[31]? = some fn := ⟨_, Try.func31⟩

noncomputable def c18 : Code := cSnd7 (cSnd7 (cSnd7 body18))
noncomputable def qc18 : {x : Array Oper // x = cOps7 (cFst7 c18)} := ⟨_, by simp only [c18, body18, cFst7, cSnd7, cOps7, Try.f18, Option.getD_some]; rfl⟩
noncomputable def rc18 : Array Oper := qc18.1
noncomputable def d18 : Code := cSnd7 c18
theorem c18_eq : c18 = .seq (.region 5 rc18 false) d18 := by kernel_rfl
theorem d18_eq : d18 = .ret := by kernel_rfl
theorem nc18 : rc18.size = 5 := by kernel_rfl
noncomputable def body31 : Code := Try.f31.body.getD .skip
noncomputable def frame18 (T : Array Value) : Frame := (base 18).at ⟨T, []⟩ (.inRegion rc18 [2, 3, 4] :: [.code .ret])
def T20 (T : Array Value) : Prop := ∃ f : Nat → Value, T = #[f 0, f 1, f 2, f 3, f 4, f 5, f 6, f 7, f 8, f 9, f 10, f 11, f 12, f 13, f 14, f 15, f 16, f 17, f 18, f 19]
theorem t20_mk {T : Array Value} (h : T = #[T.getD 0 undef, T.getD 1 undef, T.getD 2 undef, T.getD 3 undef, T.getD 4 undef, T.getD 5 undef, T.getD 6 undef, T.getD 7 undef, T.getD 8 undef, T.getD 9 undef, T.getD 10 undef, T.getD 11 undef, T.getD 12 undef, T.getD 13 undef, T.getD 14 undef, T.getD 15 undef, T.getD 16 undef, T.getD 17 undef, T.getD 18 undef, T.getD 19 undef]) : T20 T := ⟨fun i => T.getD i undef, h⟩

theorem rea_here {P : Program} {Y : Nat → Option Obj} {Φ : Goroutine → World → Prop} {f : FuncId} {cs : List Frame} {k : List Item} {a : Act} {v : World} (h : ∀ w, Sim NoX Y w v → Φ (G ((base f).at a k) cs) w) : Rea P Y Φ f cs k a v := fun w hs => ⟨_, w, h w hs, .refl _ _⟩
end Go.Proofs.Ytkpcmfgeanlcnaa

/-
  Rebuild up to its fork: run alone.
-/
namespace Go.Proofs.Ytkpcmfgeanlcnaa
open Go.RowKit Go.Deep Go.Lf Go.Conc

noncomputable def c12 : Code := cSnd7 (cSnd7 (cSnd7 (cSnd7 (cSnd7 (cSnd7 (cSnd7 body31))))))

def mF (K : Nat) (px : Nat → Nat) (i j : Nat) : F := Fin.ofNat 256 (rowV K (px i) j)
theorem mF_fv (K : Nat) (px : Nat → Nat) (i j : Nat) : fv (mF K px i) j = .int .u8 ((rowV K (px i) j : Nat) : Int) := by
  unfold fv mF
  rw [show (Fin.ofNat 256 (rowV K (px i) j)).val = rowV K (px i) j from Nat.mod_eq_of_lt rowV_lt]
theorem mF_sq {K : Nat} {ix σ : Nat → Nat} (hK : K ≤ 128) (hP : Placed K ix σ) (hx : ∀ i, i < K → ix i < 128) : F.Sq K (fun s => Fin.ofNat 256 (ix (σ s))) (mF K fun s => ix (σ s)) := by
  have hv : ∀ s, s < K → (Fin.ofNat 256 (ix (σ s))).val = ix (σ s) := fun s hs => Nat.mod_eq_of_lt (by have := hx _ (hP.lt s hs); omega)
  refine ⟨fun s hs hlt => ?_, fun s hs hge j hj => ?_, fun s j hs hj hne e => ?_, by omega⟩
  · rw [hv s hs] at hlt ⊢
    have e := hP.on s hs hlt
    refine ⟨e, fun j _ => Fin.ext ?_⟩
    show rowV K (ix (σ s)) j % 256 = _
    rw [e, Nat.mod_eq_of_lt rowV_lt]
    unfold rowV
    rw [if_pos hs]
    split <;> rfl
  · rw [hv s hs] at hge
    refine Fin.ext ?_
    show rowV K (ix (σ s)) j % 256 = inv ((Fin.ofNat 256 (ix (σ s))).val ^^^ (Fin.ofNat 256 j).val)
    have hxj := hx _ (hP.lt s hs)
    rw [hv s hs, show (Fin.ofNat 256 j).val = j from Nat.mod_eq_of_lt (by omega), Nat.mod_eq_of_lt rowV_lt]
    unfold rowV
    rw [if_neg (by omega), Nat.mod_eq_of_lt (by have := xor_lt128 hxj (show j < 128 by omega); omega)]
  · have := congrArg Fin.val e
    rw [hv s hs, hv j hj] at this
    exact hP.inj s j hs hj hne this

/-- The rows and the data of what was placed, as far as they are made. -/
structure RD (w1 : World) (K t : Nat) (q : CL) (σ rb : Nat → Nat) (bR bD : Nat) (w : World) : Prop where
  rows : w.rowIs bR 41 K (fun i => if i < t then .slice (some ⟨rb i, 0, none⟩) K K else .slice none 0 0)
  dat : w.rowIs bD 41 K (fun i => if i < t then q.d (σ i) else .slice none 0 0)
  row : ∀ i, i < t → w.rowIs (rb i) 5 K (fun j => .int .u8 ((rowV K (q.ix (σ i)) j : Nat) : Int))
  inj : ∀ i j, i < t → j < t → i ≠ j → rb i ≠ rb j
  low : ∀ i, i < t → w1.heap.size ≤ rb i ∧ rb i < w.heap.size
  oth : Oth (fun b => b = bR ∨ b = bD) w1 w

def TPre (bp K bdv bv ba : Nat) (T : Array Value) : Prop := ∃ f : Nat → Value, T = #[f 0, f 1, f 2, f 3, f 4, .slice (some ⟨bp, 0, none⟩) K K, f 6, .pointer (some ⟨bdv, 0, none⟩), f 8, f 9, .pointer (some ⟨bv, 0, none⟩), .pointer (some ⟨ba, 0, none⟩), f 12, f 13, f 14, f 15, f 16, f 17, f 18, f 19, f 20, f 21, f 22, f 23, f 24, f 25, f 26, f 27, f 28, f 29, f 30, f 31, f 32, f 33, f 34, f 35, f 36, f 37, f 38, f 39, f 40, f 41, f 42, f 43, f 44, f 45, f 46, f 47, f 48, f 49, f 50, f 51, f 52, f 53, f 54, f 55, f 56, f 57, f 58, f 59, f 60, f 61, f 62, f 63, f 64, f 65, f 66, f 67, f 68]
theorem tpre_mk {bp K bdv bv ba : Nat} {T : Array Value} (h : T = #[T.getD 0 undef, T.getD 1 undef, T.getD 2 undef, T.getD 3 undef, T.getD 4 undef, .slice (some ⟨bp, 0, none⟩) K K, T.getD 6 undef, .pointer (some ⟨bdv, 0, none⟩), T.getD 8 undef, T.getD 9 undef, .pointer (some ⟨bv, 0, none⟩), .pointer (some ⟨ba, 0, none⟩), T.getD 12 undef, T.getD 13 undef, T.getD 14 undef, T.getD 15 undef, T.getD 16 undef, T.getD 17 undef, T.getD 18 undef, T.getD 19 undef, T.getD 20 undef, T.getD 21 undef, T.getD 22 undef, T.getD 23 undef, T.getD 24 undef, T.getD 25 undef, T.getD 26 undef, T.getD 27 undef, T.getD 28 undef, T.getD 29 undef, T.getD 30 undef, T.getD 31 undef, T.getD 32 undef, T.getD 33 undef, T.getD 34 undef, T.getD 35 undef, T.getD 36 undef, T.getD 37 undef, T.getD 38 undef, T.getD 39 undef, T.getD 40 undef, T.getD 41 undef, T.getD 42 undef, T.getD 43 undef, T.getD 44 undef, T.getD 45 undef, T.getD 46 undef, T.getD 47 undef, T.getD 48 undef, T.getD 49 undef, T.getD 50 undef, T.getD 51 undef, T.getD 52 undef, T.getD 53 undef, T.getD 54 undef, T.getD 55 undef, T.getD 56 undef, T.getD 57 undef, T.getD 58 undef, T.getD 59 undef, T.getD 60 undef, T.getD 61 undef, T.getD 62 undef, T.getD 63 undef, T.getD 64 undef, T.getD 65 undef, T.getD 66 undef, T.getD 67 undef, T.getD 68 undef]) : TPre bp K bdv bv ba T := ⟨fun i => T.getD i undef, h⟩

/-- What stands at the fork. -/
structure PF31 (K : Nat) (q : CL) (σ : Nat → Nat) (bp bdv bD bv h2 ba C : Nat) (b2 : Nat → Nat) (B : Nat → Nat → F) (w : World) : Prop where
  p0 : ∀ t, t < K → w.cell? ⟨bp, t * 2, none⟩ = some (.int .i64 ((q.ix (σ t) : Nat) : Int))
  p1 : ∀ t, t < K → w.cell? ⟨bp, t * 2 + 1, none⟩ = some (q.d (σ t))
  vd : w.cell? ⟨bdv, 0, none⟩ = some (.slice (some ⟨bD, 0, none⟩) K K)
  hD : ∀ t, t < K → w.cell? ⟨bD, t, none⟩ = some (q.d (σ t))
  vv : w.cell? ⟨bv, 0, none⟩ = some (.slice (some ⟨h2, 0, none⟩) K K)
  hW : ∀ t, t < K → w.cell? ⟨h2, t, none⟩ = some (.slice (some ⟨b2 t, 0, none⟩) K K)
  hw : ∀ t j, t < K → j < K → w.cell? ⟨b2 t, j, none⟩ = some (.int .u8 (((B t j).val : Nat) : Int))
  va : w.cell? ⟨ba, 0, none⟩ = some (.slice (some ⟨C, 0, none⟩) K K)
  pay : w.heap[C]? = some (.cells (madeCells #[.slice none 0 0] K) 41)
  new : bp < C ∧ bdv < C ∧ bD < C ∧ bv < C ∧ h2 < C ∧ (∀ t, t < K → b2 t < C) ∧ C < ba ∧ ba < w.heap.size
  gj : ∃ A, F.Gj K (mF K fun s => q.ix (σ s)) K A B
  pl : Placed K q.ix σ

/-- One more. -/
theorem RD.more {w1 w wa wb : World} {K t : Nat} {q : CL} {σ rb : Nat → Nat} {bR bD : Nat} (h : RD w1 K t q σ rb bR bD w) (ht : t < K) (hne : bR ≠ bD) (hbR : bR < w1.heap.size) (hbD : bD < w1.heap.size) (ha : Below w.heap.size w wa) (hr : NewRow wa wb K (rowV K (q.ix (σ t)))) :
    RD w1 K (t + 1) q σ (fun i => if i = t then wa.heap.size else rb i) bR bD ((wb.setCell ⟨bR, t, none⟩ (.slice (some ⟨wa.heap.size, 0, none⟩) K K)).setCell ⟨bD, t, none⟩ (q.d (σ t))) ∧
    (wb.cell? ⟨bR, t, none⟩ = some (.slice none 0 0) ∧ wb.frozen? ⟨bR, t, none⟩ = false) ∧ (wb.setCell ⟨bR, t, none⟩ (.slice (some ⟨wa.heap.size, 0, none⟩) K K)).cell? ⟨bD, t, none⟩ = some (.slice none 0 0) ∧ (wb.setCell ⟨bR, t, none⟩ (.slice (some ⟨wa.heap.size, 0, none⟩) K K)).frozen? ⟨bD, t, none⟩ = false := by
  have hsa := ha.size
  have hs1 := h.oth.size
  have hsb := hr.size
  have k : ∀ b, b < w.heap.size → wb.heap[b]? = w.heap[b]? := fun b hb => (hr.below.block b (by omega)).trans (ha.block b hb)
  have r1 := h.rows.of_block (k bR (by omega))
  have d1 := h.dat.of_block (k bD (by omega))
  have r2 := r1.set t (.slice (some ⟨wa.heap.size, 0, none⟩) K K)
  have d2 := d1.setOther (a := ⟨bR, t, none⟩) (fun e => hne e.symm) (.slice (some ⟨wa.heap.size, 0, none⟩) K K)
  have hrow : ∀ i, i < t + 1 → ((wb.setCell ⟨bR, t, none⟩ (.slice (some ⟨wa.heap.size, 0, none⟩) K K)).setCell ⟨bD, t, none⟩ (q.d (σ t))).rowIs (if i = t then wa.heap.size else rb i) 5 K (fun j => .int .u8 ((rowV K (q.ix (σ i)) j : Nat) : Int)) := fun i hi => by
    by_cases e : i = t
    · subst e
      rw [if_pos rfl]
      exact (hr.row.setOther (a := ⟨bR, i, none⟩) (by show wa.heap.size ≠ bR; omega) _).setOther (a := ⟨bD, i, none⟩) (by show wa.heap.size ≠ bD; omega) _
    · rw [if_neg e]
      have hl := h.low i (by omega)
      exact (((h.row i (by omega)).of_block (k (rb i) hl.2)).setOther (a := ⟨bR, t, none⟩) (by show rb i ≠ bR; omega) _).setOther (a := ⟨bD, t, none⟩) (by show rb i ≠ bD; omega) _
  refine ⟨⟨?_, ?_, hrow, fun i j hi hj hij => ?_, fun i hi => ?_, ?_⟩, ⟨?_, r1.frozen t⟩, ?_, d2.frozen t⟩
  · refine (r2.setOther (a := ⟨bD, t, none⟩) hne _).congr fun i hi => ?_
    by_cases e : i = t
    · rw [if_pos e, if_pos (by omega), if_pos e]
    · rw [if_neg e]
      by_cases e2 : i < t
      · rw [if_pos e2, if_pos (by omega), if_neg e]
      · rw [if_neg e2, if_neg (by omega)]
  · refine (d2.set t (q.d (σ t))).congr fun i hi => ?_
    by_cases e : i = t
    · rw [if_pos e, if_pos (by omega), e]
    · rw [if_neg e]
      by_cases e2 : i < t
      · rw [if_pos e2, if_pos (by omega)]
      · rw [if_neg e2, if_neg (by omega)]
  · by_cases e1 : i = t
    · rw [if_pos e1, if_neg (by omega)]
      have := (h.low j (by omega)).2
      omega
    · rw [if_neg e1]
      by_cases e2 : j = t
      · rw [if_pos e2]
        have := (h.low i (by omega)).2
        omega
      · rw [if_neg e2]
        exact h.inj i j (by omega) (by omega) hij
  · by_cases e : i = t
    · rw [if_pos e]
      simp
      omega
    · rw [if_neg e]
      have := h.low i (by omega)
      simp
      omega
  · exact (((h.oth.trans (S' := fun _ => False) (.below ha) (fun _ _ x => x.elim)).trans (S' := fun _ => False) (.below hr.below) (fun _ _ x => x.elim)).set (a := ⟨bR, t, none⟩) (.inl (.inl rfl)) _).set (a := ⟨bD, t, none⟩) (.inl (.inr rfl)) _
  · have := r1.cell ht
    rw [if_neg (by omega)] at this
    exact this
  · have := d2.cell ht
    rw [if_neg (by omega)] at this
    exact this

section
variable {Y : Nat → Option Obj} {Φ : Goroutine → World → Prop} {w : World} {K bc cap : Nat} {q : CL}
set_option maxHeartbeats 4000000 in
set_option maxRecDepth 100000 in
theorem rebuild_gen {cs : List Frame} {M oc : Nat} (hK : 0 < K ∧ K ≤ 128) (hKM : K ≤ M) (hcap : M ≤ cap) (hx : ∀ i, i < K → q.ix i < 128) (hC : CO w bc oc K q) (hinj : ∀ i j, i < K → j < K → i ≠ j → q.ix i ≠ q.ix j)
    (hnext : ∀ (σ : Nat → Nat) (bp bdv bD bv h2 ba C : Nat) (b2 : Nat → Nat) (B : Nat → Nat → F) (T : Array Value) (w1 : World), TPre bp K bdv bv ba T → PF31 K q σ bp bdv bD bv h2 ba C b2 B w1 → (∀ b, b < w.heap.size → b < C) → Below w.heap.size w w1 → Rea Try.prog Y Φ 31 cs [.code c12] ⟨T, []⟩ w1) :
    Rea Try.prog Y Φ 31 cs [.code body31] ⟨#[.int .i64 (K : Int), .slice (some ⟨bc, oc, none⟩) M cap] ++ Array.replicate 67 undef, []⟩ w := by
  have hKc : (K : Int) ≤ (cap : Int) := by omega
  have c1 := place_at K bc oc cap q w (by omega) hx hC hinj
  unfold body31
  simp only [Try.f31, Option.getD_some, Array.replicate_succ, Array.replicate_zero, List.push_toArray, List.append_toArray, List.nil_append, List.cons_append]
  refine reach_go goodF (by kernel_rfl) rfl sf31 fun R hR => ?_
  go_wp2
  refine reach_go goodF (by kernel_rfl) rfl sf31 fun R hR => ?_
  go_wp2_with (first | (go_at_call 35; (with_reducible refine c1.mono ?_); rintro e w1 ⟨σ, rfl, hP, hpl, hb1⟩))
  have hpb := hpl.lt
  generalize hbp : w.heap.size = bp at *
  have m1 := make_lists K (by omega)
  refine reach_go goodF (by kernel_rfl) rfl sf31 fun R hR => ?_
  have m1' := m1 w1
  go_wp2
  have m2' := m1 (w1.alloc (.cells (madeCells #[.slice none 0 0] K) 41))
  have z1 := World.rowIs_made w1 (.slice none 0 0) K 41
  have z2 := World.rowIs_made (w1.alloc (.cells (madeCells #[.slice none 0 0] K) 41)) (.slice none 0 0) K 41
  have esz : (w1.alloc (.cells (madeCells #[.slice none 0 0] K) 41)).heap.size = w1.heap.size + 1 := by simp
  rw [esz] at m2' z2
  have hb2 : Below w1.heap.size w1 ((w1.alloc (.cells (madeCells #[.slice none 0 0] K) 41)).alloc (.cells (madeCells #[.slice none 0 0] K) 41)) := ((Below.refl _ _).alloc (Nat.le_refl _) _).alloc (by simp) _
  have z1' := z1.alloc (.cells (madeCells #[.slice none 0 0] K) 41)
  have esz2 : ((w1.alloc (.cells (madeCells #[.slice none 0 0] K) 41)).alloc (.cells (madeCells #[.slice none 0 0] K) 41)).heap.size = w1.heap.size + 2 := by simp
  refine reach_go goodF (by kernel_rfl) rfl sf31 fun R hR => ?_
  generalize hZ : madeCells #[.slice none 0 0] K = Z at *
  go_wp2
  have y0 : (((w1.alloc (.cells Z 41)).alloc (.cells Z 41)).alloc (.cells #[.slice (some ⟨w1.heap.size + 1, 0, none⟩) K K] 25)).rowIs (w1.heap.size + 2) 25 1 (fun _ => .slice (some ⟨w1.heap.size + 1, 0, none⟩) K K) := by
    have := World.rowIs_alloc ((w1.alloc (.cells Z 41)).alloc (.cells Z 41)) #[.slice (some ⟨w1.heap.size + 1, 0, none⟩) K K] 25 (fun _ => .slice (some ⟨w1.heap.size + 1, 0, none⟩) K K) (fun i hi => by
      obtain rfl : i = 0 := by simp at hi; omega
      rfl)
    rw [esz2] at this
    exact this
  have hb3 := hb2.alloc (by omega) (.cells #[.slice (some ⟨w1.heap.size + 1, 0, none⟩) K K] 25)
  have z1'' := z1'.alloc (.cells #[.slice (some ⟨w1.heap.size + 1, 0, none⟩) K K] 25)
  have z2'' := z2.alloc (.cells #[.slice (some ⟨w1.heap.size + 1, 0, none⟩) K K] 25)
  have hpl3 := hpl.of_block (hb3.block bp hpb)
  have esz3 : (((w1.alloc (.cells Z 41)).alloc (.cells Z 41)).alloc (.cells #[.slice (some ⟨w1.heap.size + 1, 0, none⟩) K K] 25)).heap.size = w1.heap.size + 3 := by simp
  clear z1 z1' z2 m1' m2' hb2 esz esz2 hpl
  generalize ((w1.alloc (.cells Z 41)).alloc (.cells Z 41)).alloc (.cells #[.slice (some ⟨w1.heap.size + 1, 0, none⟩) K K] 25) = w3 at *
  generalize hbR : w1.heap.size = bR at *
  have hRD0 : RD w3 K 0 q σ (fun _ => 0) bR (bR + 1) w3 := ⟨z1''.congr fun i _ => by rw [if_neg (by omega)], z2''.congr fun i _ => by rw [if_neg (by omega)], fun i h => absurd h (by omega), fun i j h => absurd h (by omega), fun i h => absurd h (by omega), Oth.refl _ _⟩
  clear z1'' z2''
  refine reach_go goodF (by kernel_rfl) rfl sf31 fun R hR => ?_
  go_wp2
  go_loopw [25] (fun vi wr => ∃ t : Nat, t ≤ K ∧ vi = .int .i64 (t : Int) ∧ ∃ rb, RD w3 K t q σ rb bR (bR + 1) wr) (fun i _ => K - (intOf i).toNat)
  case atStart => exact ⟨0, by omega, rfl, _, hRD0⟩
  case round =>
    clear hRD0
    obtain ⟨t, ht, rfl, rb, hRD⟩ := hrel
    by_cases hlt : t < K
    · have hlt' : (t : Int) < (K : Int) := by omega
      have hplr := hRD.oth.row hpl3.lt (by rintro (e | e) <;> omega) hpl3
      have y0r := hRD.oth.row y0.lt (by rintro (e | e) <;> omega) y0
      have g0 := hplr.cell (i := t * 2) (by omega)
      have g1 := hplr.cell (i := t * 2 + 1) (by omega)
      simp only [plF, show t * 2 / 2 = t by omega, show t * 2 % 2 = 0 by omega, show (t * 2 + 1) / 2 = t by omega, show (t * 2 + 1) % 2 = 1 by omega, cvv, if_true, Nat.one_ne_zero, if_false, CL.d] at g0 g1
      have hxt : q.ix (σ t) < 128 := hx (σ t) (hP.lt t hlt)
      have be1 := (Below.refl wr.heap.size wr).alloc (Nat.le_refl _) (.cells #[.int .i64 ((q.ix (σ t) : Nat) : Int), .slice (q.db (σ t)) q.L (q.dc (σ t))] 43)
      have n0 : (wr.alloc (.cells #[.int .i64 ((q.ix (σ t) : Nat) : Int), .slice (q.db (σ t)) q.L (q.dc (σ t))] 43)).rowIs wr.heap.size 43 2 (fun j => if j = 0 then .int .i64 ((q.ix (σ t) : Nat) : Int) else .slice (q.db (σ t)) q.L (q.dc (σ t))) :=
          World.rowIs_alloc wr #[.int .i64 ((q.ix (σ t) : Nat) : Int), .slice (q.db (σ t)) q.L (q.dc (σ t))] 43 _ (fun i hi => by
            have : i = 0 ∨ i = 1 := by simp at hi; omega
            rcases this with rfl | rfl <;> rfl)
      have y1 := y0r.alloc (.cells #[.int .i64 ((q.ix (σ t) : Nat) : Int), .slice (q.db (σ t)) q.L (q.dc (σ t))] 43)
      have hrd := fun wb => hRD.more (wb := wb) hlt (by omega) (by omega) (by omega) be1
      have c3 := row_any K (q.ix (σ t)) (by omega) hxt
      have hwl := hRD.oth.size
      have hMs : wr.heap.size < (wr.alloc (.cells #[.int .i64 ((q.ix (σ t) : Nat) : Int), .slice (q.db (σ t)) q.L (q.dc (σ t))] 43)).heap.size := by simp
      generalize hW1 : wr.alloc (.cells #[.int .i64 ((q.ix (σ t) : Nat) : Int), .slice (q.db (σ t)) q.L (q.dc (σ t))] 43) = W1 at n0 y1 hrd be1 hMs
      have a0 := n0.cell (i := 0) (by omega)
      have a1 := n0.cell (i := 1) (by omega)
      simp only [if_true, Nat.one_ne_zero, if_false] at a0 a1
      have fin : ∀ W2, NewRow W1 W2 K (rowV K (q.ix (σ t))) → (W2.cell? ⟨bR, t, none⟩ = some (.slice none 0 0) ∧ W2.frozen? ⟨bR, t, none⟩ = false) ∧ ∃ W3, W2.setCell ⟨bR, t, none⟩ (.slice (some ⟨W1.heap.size, 0, none⟩) K K) = W3 ∧ W3.cell? ⟨bR + 2, 0, none⟩ = some (.slice (some ⟨bR + 1, 0, none⟩) K K) ∧ W3.cell? ⟨wr.heap.size, 1, none⟩ = some (.slice (q.db (σ t)) q.L (q.dc (σ t))) ∧ W3.cell? ⟨bR + 1, t, none⟩ = some (.slice none 0 0) ∧ W3.frozen? ⟨bR + 1, t, none⟩ = false ∧ RD w3 K (t + 1) q σ (fun i => if i = t then W1.heap.size else rb i) bR (bR + 1) (W3.setCell ⟨bR + 1, t, none⟩ (.slice (q.db (σ t)) q.L (q.dc (σ t)))) := fun W2 hW2 => by
        obtain ⟨h1, h2, h3, h4⟩ := hrd W2 hW2
        refine ⟨h2, _, rfl, ?_, ?_, h3, h4, h1⟩
        · exact ((y1.of_block (hW2.below.block _ y1.lt)).setOther (a := ⟨bR, t, none⟩) (by show bR + 2 ≠ bR; omega) _).cell (i := 0) (by omega)
        · have := ((n0.of_block (hW2.below.block _ n0.lt)).setOther (a := ⟨bR, t, none⟩) (by show wr.heap.size ≠ bR; omega) (.slice (some ⟨W1.heap.size, 0, none⟩) K K)).cell (i := 1) (by omega)
          exact this
      clear hrd hplr y0r y1 n0 hpl3 y0
      go_wp2_with (first | (go_at_call 34; (with_reducible refine (c3 _).mono ?_); rintro e W2 ⟨rfl, hW2⟩; obtain ⟨⟨e1, e2⟩, W3, hW3, e3, e4, e5, e6, hRD2⟩ := fin W2 hW2; clear fin))
      go_roundw
      case rel => exact ⟨t + 1, by omega, by go_num, _, hRD2⟩
      case measure => simp [intOf]; omega
    · obtain rfl : t = K := by omega
      have hnl : ¬ ((t : Int) < (t : Int)) := by omega
      have hpl4 := hRD.oth.row hpl3.lt (by rintro (e | e) <;> omega) hpl3
      have y4 := hRD.oth.row y0.lt (by rintro (e | e) <;> omega) y0
      have hMat : Mat wr bR t rb (mF t fun s => q.ix (σ s)) := ⟨hRD.rows.congr fun i hi => by rw [if_pos hi], fun i hi => (hRD.row i hi).congr fun j _ => by rw [mF_fv], fun i j hi hj hne => hRD.inj i j hi hj hne, fun i hi => by have := (hRD.low i hi).1; omega⟩
      have hdat := hRD.dat
      have hb4 : Below w3.heap.size w3 wr ∨ True := .inr trivial
      have hbw : Below w.heap.size w wr := ⟨hRD.oth.os.trans (hb3.os.trans hb1.os), hRD.oth.tape.trans (hb3.tape.trans hb1.tape), hRD.oth.output.trans (hb3.output.trans hb1.output), by have := hRD.oth.size; omega, fun b hb => by
          rw [hRD.oth.block b (by omega) (by rintro (e | e) <;> omega), hb3.block b (by omega), hb1.block b (by omega)]⟩
      have hrbl := fun i hi => (hRD.low i hi).1
      have hsz := hRD.oth.size
      clear hRD hb4
      go_wp2
      have c5 := inverse_any t bR rb _ _ wr (by omega) hMat (mF_sq (by omega) hP (fun i hi => hx i hi))
      refine reach_go goodF (by kernel_rfl) rfl sf31 fun R hR => ?_
      go_wp2_with (first | (go_at_call 36; (with_reducible refine c5.mono ?_); rintro e w5 ⟨h2, b2, A, B, rfl, hMB, hGj, hO5, hh2, hb2⟩))
      have hbw5 : Below w.heap.size w w5 := ⟨hO5.os.trans hbw.os, hO5.tape.trans hbw.tape, hO5.output.trans hbw.output, by have := hbw.size; have := hO5.size; omega, fun b hb => by
        rw [hO5.block b (by have := hbw.size; omega) (by rintro ⟨i, hi, e⟩; have := hrbl i hi; omega), hbw.block b hb]⟩
      have hpl5 := hO5.row hpl4.lt (by rintro ⟨i, hi, e⟩; have := hrbl i hi; omega) hpl4
      have y5 := hO5.row y4.lt (by rintro ⟨i, hi, e⟩; have := hrbl i hi; omega) y4
      have dat5 := hO5.row hdat.lt (by rintro ⟨i, hi, e⟩; have := hrbl i hi; omega) hdat
      have m5 := m1 (w5.alloc (.cells #[.slice (some ⟨h2, 0, none⟩) t t] 25))
      refine reach_go goodF (by kernel_rfl) rfl sf31 fun R hR => ?_
      go_wp2
      have hsw5 : w.heap.size ≤ w5.heap.size := hbw5.size
      have hs35 : w3.heap.size ≤ w5.heap.size := Nat.le_trans hsz hO5.size
      have e1 : (w5.alloc (.cells #[.slice (some ⟨h2, 0, none⟩) t t] 25)).heap.size = w5.heap.size + 1 := by simp
      have e2 : ((w5.alloc (.cells #[.slice (some ⟨h2, 0, none⟩) t t] 25)).alloc (.cells Z 41)).heap.size = w5.heap.size + 2 := by simp
      have one : ∀ (u : World) (x : Value), (u.alloc (.cells #[x] 25)).rowIs u.heap.size 25 1 (fun _ => x) := fun u x => World.rowIs_alloc u #[x] 25 (fun _ => x) (fun i hi => by
        obtain rfl : i = 0 := by simp at hi; omega
        rfl)
      have v1 := ((one w5 (.slice (some ⟨h2, 0, none⟩) t t)).alloc (.cells Z 41)).alloc (.cells #[.slice (some ⟨w5.heap.size + 1, 0, none⟩) t t] 25)
      have v3 := one ((w5.alloc (.cells #[.slice (some ⟨h2, 0, none⟩) t t] 25)).alloc (.cells Z 41)) (.slice (some ⟨w5.heap.size + 1, 0, none⟩) t t)
      rw [e2] at v3
      have v2 : (((w5.alloc (.cells #[.slice (some ⟨h2, 0, none⟩) t t] 25)).alloc (.cells Z 41)).alloc (.cells #[.slice (some ⟨w5.heap.size + 1, 0, none⟩) t t] 25)).heap[w5.heap.size + 1]? = some (.cells Z 41) := by
        refine (blk_alloc_lt _ _ _ (by rw [e2]; omega)).trans ?_
        have := heap_alloc_new (w5.alloc (.cells #[.slice (some ⟨h2, 0, none⟩) t t] 25)) (.cells Z 41)
        rwa [e1] at this
      have hb6 : Below w5.heap.size w5 (((w5.alloc (.cells #[.slice (some ⟨h2, 0, none⟩) t t] 25)).alloc (.cells Z 41)).alloc (.cells #[.slice (some ⟨w5.heap.size + 1, 0, none⟩) t t] 25)) := (((Below.refl _ _).alloc (Nat.le_refl _) _).alloc (by rw [e1]; omega) _).alloc (by rw [e2]; omega) _
      have e3 : (((w5.alloc (.cells #[.slice (some ⟨h2, 0, none⟩) t t] 25)).alloc (.cells Z 41)).alloc (.cells #[.slice (some ⟨w5.heap.size + 1, 0, none⟩) t t] 25)).heap.size = w5.heap.size + 3 := by simp
      generalize ((w5.alloc (.cells #[.slice (some ⟨h2, 0, none⟩) t t] 25)).alloc (.cells Z 41)).alloc (.cells #[.slice (some ⟨w5.heap.size + 1, 0, none⟩) t t] 25) = w6 at v1 v2 v3 hb6 e3 ⊢
      have hbw6 : Below w.heap.size w w6 := hbw5.trans (hb6.mono hsw5)
      have st : ∀ {b o : Nat} {v : Value}, w5.cell? ⟨b, o, none⟩ = some v → w6.cell? ⟨b, o, none⟩ = some v := fun {b o v} hc => (hb6.cell (p := ⟨b, o, none⟩) (cell_lt hc)).trans hc
      have hpf : PF31 t q σ bp (bR + 2) (bR + 1) w5.heap.size h2 (w5.heap.size + 2) (w5.heap.size + 1) b2 B w6 := by
        refine ⟨fun x hx => ?_, fun x hx => ?_, st (y5.cell (i := 0) (by omega)), fun x hx => ?_, v1.cell (i := 0) (by omega), fun x hx => st (hMB.head.cell hx), fun x j hx hj => st ((hMB.rows x hx).cell hj), v3.cell (i := 0) (by omega), by rw [hZ]; exact v2, ⟨by have := hpl5.lt; omega, by have := y5.lt; omega, by have := dat5.lt; omega, by omega, by have := hMB.head.lt; omega, fun x hx => by have := (hMB.rows x hx).lt; omega, by omega, by omega⟩, ⟨A, hGj⟩, hP⟩
        · have := hpl5.cell (i := x * 2) (by omega)
          simp only [plF, show x * 2 / 2 = x by omega, show x * 2 % 2 = 0 by omega, cvv, if_true] at this
          exact st this
        · have := hpl5.cell (i := x * 2 + 1) (by omega)
          simp only [plF, show (x * 2 + 1) / 2 = x by omega, show (x * 2 + 1) % 2 = 1 by omega, cvv, Nat.one_ne_zero, if_false] at this
          exact st this
        · have := dat5.cell hx
          rw [if_pos hx] at this
          exact st this
      refine hnext σ bp (bR + 2) (bR + 1) w5.heap.size h2 (w5.heap.size + 2) (w5.heap.size + 1) b2 B _ w6 ?_ hpf (fun b hb => by omega) (by rw [← hbp]; exact hbw6)
      exact tpre_mk rfl

end
end Go.Proofs.Ytkpcmfgeanlcnaa
