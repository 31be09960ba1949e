/-
  The statement Same up to its first Encode.
-/
import Derived.Test.YtkpcmfgeanlcnabDoorSmC
import Derived.Test.YtkpcmfgeanlcnabDoorEoD
namespace Go.Proofs.YtkpcmfgeanlcnabDoor
open Go.RowKit Go.Deep Go.Lf Go.Conc Go.Hp

noncomputable def saBody : Code := Tryd.f3.body.getD .skip
noncomputable def sa9 : Code := gSnd (gSnd (gSnd (gSnd (gSnd (gSnd saBody)))))
noncomputable def q9 : {y : Array Oper // y = gOps (gFst sa9)} := ⟨_, by (simp only [sa9, saBody, gFst, gSnd, gOps, Tryd.f3, Option.getD_some]; rfl)⟩
noncomputable def sO9 : Array Oper := q9.1
noncomputable def sa10 : Code := gSnd sa9
theorem sa9_eq : sa9 = .seq (.region 9 sO9 false) sa10 := by kernel_rfl
theorem sO9_size : sO9.size = 8 := by kernel_rfl
noncomputable def q10 : {y : Array Oper // y = gOps (gFst sa10)} := ⟨_, by (simp only [sa10, sa9, saBody, gFst, gSnd, gOps, Tryd.f3, Option.getD_some]; rfl)⟩
noncomputable def sO10 : Array Oper := q10.1
noncomputable def sa11 : Code := gSnd sa10
theorem sa10_eq : sa10 = .seq (.region 10 sO10 false) sa11 := by kernel_rfl
theorem sO10_size : sO10.size = 8 := by kernel_rfl
noncomputable def sa21 : Code := gSnd (gSnd (gSnd (gSnd sa11)))
noncomputable def q21 : {y : Array Oper // y = gOps (gFst sa21)} := ⟨_, by (simp only [sa21, sa11, sa10, sa9, saBody, gFst, gSnd, gOps, Tryd.f3, Option.getD_some]; rfl)⟩
noncomputable def sO21 : Array Oper := q21.1
noncomputable def sa22 : Code := gSnd sa21
theorem sa21_eq : sa21 = .seq (.region 21 sO21 false) sa22 := by kernel_rfl
theorem sO21_size : sO21.size = 8 := by kernel_rfl
theorem sfsa : ∃ fn, Tryd.prog.funcs[3]? = some fn := ⟨_, Tryd.func3⟩

theorem chosen5 (m : Nat) (hm : m ≤ 5) (vo : Value) (zs : List Int) (w : World) (hz : Ints w vo zs) (hlen : zs.length < 9223372036854775807) :
    Calls Tryd.prog 6 #[.int .i64 (m : Int), vo] w fun e w' => ∃ v xs, e = .returned v ∧ Once m xs ∧ w'.ownsRow w.heap.size 3 1 v m (natI xs) ∧ Below w.heap.size w w' := by
  by_cases h0 : 0 < m
  · exact chosen_any m vo zs h0 (by omega) w hz hlen
  · obtain rfl : m = 0 := by omega
    refine (chosen_none vo zs w hz).mono ?_
    rintro e w' ⟨rfl, hb⟩
    exact ⟨_, [], rfl, ⟨rfl, fun i x h => by simp at h, fun i j x h => by simp at h⟩, World.ownsRow_nil _ _ _ _, hb⟩

/-- The list of chosen ones, by their numbers. -/
def turn (f : Nat → Ent) (xs : List Nat) : Nat → Ent := fun j => f (xs.getD j 0)
/-- As many holes as pigeons. -/
theorem holes : ∀ (n : Nat) (g : Nat → Nat), (∀ i, i < n → g i < n) → (∀ i j, i < n → j < n → g i = g j → i = j) → ∀ t, t < n → ∃ i, i < n ∧ g i = t
  | 0, _, _, _, t, ht => absurd ht (by omega)
  | n + 1, g, hlt, hinj, t, ht => by
    have ih := holes n (fun i => if g i = n then g n else g i) (fun i hi => by
      have h1 := hlt i (by omega)
      have h2 := hlt n (by omega)
      split
      · rename_i e
        have : g n ≠ n := fun e' => by have := hinj i n (by omega) (by omega) (by omega); omega
        omega
      · omega) (fun i j hi hj e => by
      have key : ∀ i, i < n → g i ≠ g n := fun i hi e => by have := hinj i n (by omega) (by omega) e; omega
      split at e <;> split at e
      · exact hinj i j (by omega) (by omega) (by omega)
      · exact absurd e.symm (key j hj)
      · exact absurd e (key i hi)
      · exact hinj i j (by omega) (by omega) e)
    by_cases h1 : t = g n
    · exact ⟨n, by omega, h1.symm⟩
    by_cases h2 : t = n
    · have h3 := hlt n (by omega)
      obtain ⟨i, hi, e⟩ := ih (g n) (by omega)
      split at e
      · exact ⟨i, by omega, by omega⟩
      · have := hinj i n (by omega) (by omega) e
        omega
    · obtain ⟨i, hi, e⟩ := ih t (by omega)
      split at e
      · exact absurd e.symm h1
      · exact ⟨i, by omega, e⟩
/-- Where a number stands. -/
theorem Once.at {n : Nat} {xs : List Nat} (h : Once n xs) : ∃ τ : Nat → Nat, ∀ i, i < n → τ i < n ∧ xs.getD (τ i) 0 = i := by
  have get : ∀ i, i < n → xs[i]? = some (xs.getD i 0) := fun i hi => by rw [List.getD_eq_getElem?_getD, List.getElem?_eq_getElem (by rw [h.len]; exact hi)]; rfl
  have surj : ∀ i, i < n → ∃ j, j < n ∧ xs.getD j 0 = i := by
    intro i hi
    exact holes n (fun j => xs.getD j 0) (fun j hj => h.lt j _ (get j hj)) (fun a b ha hb e => h.inj a b _ (get a ha) (by rw [get b hb]; exact congrArg some e.symm)) i hi
  exact ⟨fun i => if hi : i < n then (surj i hi).choose else 0, fun i hi => by
    dsimp only
    rw [dif_pos hi]
    exact (surj i hi).choose_spec⟩
theorem Once.rearr {n : Nat} {xs : List Nat} (h : Once n xs) (f : Nat → Ent) : Rearr n f (turn f xs) := by
  obtain ⟨τ, ht⟩ := h.at
  have get : ∀ i, i < n → xs[i]? = some (xs.getD i 0) := fun i hi => by rw [List.getD_eq_getElem?_getD, List.getElem?_eq_getElem (by rw [h.len]; exact hi)]; rfl
  refine ⟨fun i => xs.getD i 0, τ, fun i hi => ?_, fun i hi => rfl⟩
  have h1 := h.lt i _ (get i hi)
  obtain ⟨h2, h3⟩ := ht i hi
  obtain ⟨h4, h5⟩ := ht _ h1
  refine ⟨h1, h2, ?_, h3⟩
  refine h.inj _ _ (xs.getD i 0) ?_ (get i hi)
  have := get _ h4
  rw [this, h5]

theorem owns_bel {w w' : World} {B e z n B' : Nat} {v : Value} {xs : List Value} (h : w.ownsRow B e z v n xs) (hb : Bel B' w w') (hB : w.heap.size ≤ B') : w'.ownsRow B e z v n xs := owns_keep' h fun g hg => hb.blk (Nat.lt_of_lt_of_le (h.lt g hg).2 hB)
/-- What is known of the numbers and the blobs. -/
structure SmP (K N C m : Nat) (f : Nat → Ent) (D : Nat → List UInt8) (pb : Nat) (vb : Value) (w : World) : Prop where
  par : RowAt w pb [.int .i64 ((K : Nat) : Int), .int .i64 ((N : Nat) : Int), .int .i64 ((C : Nat) : Int)] 24
  own : ∃ B, w.ownsRow B 31 2 vb m (blobL m f)
  nm : ∀ j, j < m → (f j).k = nmOf j
  len : ∀ j, j < m → (D j).length < 14
  dat : ∀ j, j < m → ∃ B, w.ownsRow B 5 1 (f j).d (D j).length (u8V (D j))
  hm : m ≤ 5
theorem SmP.bel {K N C m : Nat} {f : Nat → Ent} {D : Nat → List UInt8} {pb : Nat} {vb : Value} {w w' : World} {B : Nat} (h : SmP K N C m f D pb vb w) (hb : Bel B w w') (hB : w.heap.size ≤ B) : SmP K N C m f D pb vb w' :=
  ⟨(hb.blk (Nat.lt_of_lt_of_le h.par.lt hB)).trans h.par, by obtain ⟨B, h1⟩ := h.own; exact ⟨B, owns_bel h1 hb hB⟩, h.nm, h.len, fun j hj => by obtain ⟨B, h1⟩ := h.dat j hj; exact ⟨B, owns_bel h1 hb hB⟩, h.hm⟩
/-- .. and the blobs turned about. -/
structure SmS (h0 K N C m : Nat) (f : Nat → Ent) (D : Nat → List UInt8) (xs : List Nat) (pb : Nat) (vb vt : Value) (w : World) : Prop where
  pre : SmP K N C m f D pb vb w
  owt : ∃ B, h0 ≤ B ∧ w.ownsRow B 31 2 vt m (blobL m (turn f xs))
  once : Once m xs
def TurnR (h n : Nat) (f : Nat → Ent) (xs : List Nat) (w : World) (vt vi : Value) (wr : World) : Prop := ∃ i : Nat, i ≤ n ∧ vi = .int .i64 ((i : Nat) : Int) ∧ wr.ownsRow h 31 2 vt i (blobL i (turn f xs)) ∧ Below h w wr
def TS (pb : Nat) (vb vt : Value) (T : Array Value) : Prop := ∃ f : Nat → Value, T = #[f 0, f 1, f 2, f 3, f 4, f 5, f 6, f 7, f 8, f 9, f 10, .pointer (some ⟨pb, 0, none⟩), vb, f 13, vt, f 15, f 16, f 17, f 18, f 19, f 20, f 21, f 22, f 23, f 24, f 25, f 26, f 27, f 28, f 29, f 30, f 31, f 32, f 33, f 34, f 35, f 36, f 37, f 38, f 39, f 40, f 41, f 42, f 43, f 44, f 45, f 46, f 47, f 48, f 49, f 50, f 51, f 52, f 53, f 54, f 55, f 56, f 57, f 58, f 59, f 60, f 61, f 62, f 63, f 64, f 65, f 66, f 67, f 68, f 69, f 70, f 71, f 72, f 73, f 74, f 75, f 76, f 77, f 78, f 79, f 80, f 81, f 82, f 83, f 84, f 85, f 86, f 87, f 88, f 89, f 90, f 91, f 92, f 93, f 94, f 95, f 96, f 97, f 98, f 99, f 100, f 101, f 102, f 103, f 104, f 105, f 106, f 107, f 108, f 109, f 110, f 111, f 112, f 113, f 114, f 115, f 116, f 117, f 118, f 119, f 120]
theorem ts_mk {pb : Nat} {vb vt : Value} {T : Array Value} (h : T = #[T.getD 0 undef, T.getD 1 undef, T.getD 2 undef, T.getD 3 undef, T.getD 4 undef, T.getD 5 undef, T.getD 6 undef, T.getD 7 undef, T.getD 8 undef, T.getD 9 undef, T.getD 10 undef, .pointer (some ⟨pb, 0, none⟩), vb, T.getD 13 undef, vt, T.getD 15 undef, T.getD 16 undef, T.getD 17 undef, T.getD 18 undef, T.getD 19 undef, T.getD 20 undef, T.getD 21 undef, T.getD 22 undef, T.getD 23 undef, T.getD 24 undef, T.getD 25 undef, T.getD 26 undef, T.getD 27 undef, T.getD 28 undef, T.getD 29 undef, T.getD 30 undef, T.getD 31 undef, T.getD 32 undef, T.getD 33 undef, T.getD 34 undef, T.getD 35 undef, T.getD 36 undef, T.getD 37 undef, T.getD 38 undef, T.getD 39 undef, T.getD 40 undef, T.getD 41 undef, T.getD 42 undef, T.getD 43 undef, T.getD 44 undef, T.getD 45 undef, T.getD 46 undef, T.getD 47 undef, T.getD 48 undef, T.getD 49 undef, T.getD 50 undef, T.getD 51 undef, T.getD 52 undef, T.getD 53 undef, T.getD 54 undef, T.getD 55 undef, T.getD 56 undef, T.getD 57 undef, T.getD 58 undef, T.getD 59 undef, T.getD 60 undef, T.getD 61 undef, T.getD 62 undef, T.getD 63 undef, T.getD 64 undef, T.getD 65 undef, T.getD 66 undef, T.getD 67 undef, T.getD 68 undef, T.getD 69 undef, T.getD 70 undef, T.getD 71 undef, T.getD 72 undef, T.getD 73 undef, T.getD 74 undef, T.getD 75 undef, T.getD 76 undef, T.getD 77 undef, T.getD 78 undef, T.getD 79 undef, T.getD 80 undef, T.getD 81 undef, T.getD 82 undef, T.getD 83 undef, T.getD 84 undef, T.getD 85 undef, T.getD 86 undef, T.getD 87 undef, T.getD 88 undef, T.getD 89 undef, T.getD 90 undef, T.getD 91 undef, T.getD 92 undef, T.getD 93 undef, T.getD 94 undef, T.getD 95 undef, T.getD 96 undef, T.getD 97 undef, T.getD 98 undef, T.getD 99 undef, T.getD 100 undef, T.getD 101 undef, T.getD 102 undef, T.getD 103 undef, T.getD 104 undef, T.getD 105 undef, T.getD 106 undef, T.getD 107 undef, T.getD 108 undef, T.getD 109 undef, T.getD 110 undef, T.getD 111 undef, T.getD 112 undef, T.getD 113 undef, T.getD 114 undef, T.getD 115 undef, T.getD 116 undef, T.getD 117 undef, T.getD 118 undef, T.getD 119 undef, T.getD 120 undef]) : TS pb vb vt T := ⟨fun i => T.getD i undef, h⟩
theorem Ints.bel {w w' : World} {v : Value} {zs : List Int} {B : Nat} (h : Ints w v zs) (hb : Bel B w w') (hB : w.heap.size ≤ B) : Ints w' v zs := by
  refine ⟨h.in64, ?_⟩
  rcases h.lies with h1 | ⟨b, off, cap, h1, h2, h3⟩
  · exact .inl h1
  · refine .inr ⟨b, off, cap, h1, Nat.lt_of_lt_of_le h2 hb.size', fun j z hz => ?_⟩
    have := h3 j z hz
    unfold World.cell? at this ⊢
    rw [hb.blk (Nat.lt_of_lt_of_le h2 hB)]
    exact this

section
variable {X : Nat → Prop} {Y : Nat → Option Obj} {D : Nat → World → Array Event → Prop} {Stop : Goroutine → World → Prop} {w : World}
set_option maxHeartbeats 8000000 in
set_option maxRecDepth 100000 in
theorem to_first (hDk : Dok X D) {vr vo : Value} {k n c : Int} {zr zo : List Int} (hr : Ints w vr zr) (ho : Ints w vo zo) (hlr : zr.length < 9223372036854775807) (hlo : zo.length < 9223372036854775807) (hk : In64 k) (hn : In64 n) (hc : In64 c)
    (hnext : ∀ (T : Array Value) (m : Nat) (f : Nat → Ent) (Dt : Nat → List UInt8) (xs : List Nat) (pb : Nat) (vb vt : Value) (w' : World), TS pb vb vt T → SmS w.heap.size (kOf k n) (nOf n) (cOf c) m f Dt xs pb vb vt w' → Bel w.heap.size w w' →
      ReaI Tryd.prog X Y D Stop 3 [] [.code sa9] ⟨T, []⟩ w') :
    ReaI Tryd.prog X Y D Stop 3 [] [.code saBody] ⟨#[vr, .int .i64 k, .int .i64 n, .int .i64 c, vo] ++ Array.replicate 116 undef, []⟩ w := by
  have eB : saBody = .seq (gFst saBody) (.seq (gFst (gSnd saBody)) (.seq (gFst (gSnd (gSnd saBody))) (.seq (gFst (gSnd (gSnd (gSnd saBody)))) (.seq (gFst (gSnd (gSnd (gSnd (gSnd saBody))))) (.seq (gFst (gSnd (gSnd (gSnd (gSnd (gSnd saBody)))))) sa9))))) := by kernel_rfl
  rw [eB]
  simp only [Array.replicate_succ, Array.replicate_zero, List.push_toArray, List.append_toArray, List.nil_append, List.cons_append]
  refine reachI_go goodF hDk (by kernel_rfl) rfl sfsa fun R hR τ d' => ?_
  have bl : Bel w.heap.size w { w with tape := τ, drawn := d' } := (Bel.refl _ w).tp τ d'
  generalize ({ w with tape := τ, drawn := d' } : World) = wA at bl ⊢
  simp only [gFst, saBody, Tryd.f3, Option.getD_some]
  go_wp2
  refine reachI_go goodF hDk (by kernel_rfl) rfl sfsa fun R hR τ d' => ?_
  replace bl := bl.tp τ d'
  generalize ({ wA with tape := τ, drawn := d' } : World) = wB at bl ⊢
  have kp := params3_any k n c hk hn hc
  simp only [prm] at kp
  simp only [gFst, gSnd, saBody, Tryd.f3, Option.getD_some]
  generalize hkk : kOf k n = kk at *
  generalize hnn : nOf n = nn at *
  generalize hcc : cOf c = cc at *
  go_wp2_with (first | (go_at_call 4; (with_reducible refine (kp _).mono ?_); rintro r w1 ⟨rfl, hb1⟩))
  clear kp
  have hp1 := RowAt.made w1 [.int .i64 ((kk : Nat) : Int), .int .i64 ((nn : Nat) : Int), .int .i64 ((cc : Nat) : Int)] 24
  have bl1 := (bl.trans (Bel.of hb1) bl.size').trans (Bel.of ((Below.refl w1.heap.size w1).alloc (Nat.le_refl _) (.cells #[.int .i64 ((kk : Nat) : Int), .int .i64 ((nn : Nat) : Int), .int .i64 ((cc : Nat) : Int)] 24))) (Nat.le_trans bl.size' hb1.size)
  clear hb1 bl
  change RowAt (w1.alloc (.cells #[.int .i64 ((kk : Nat) : Int), .int .i64 ((nn : Nat) : Int), .int .i64 ((cc : Nat) : Int)] 24)) _ _ _ at hp1
  generalize w1.alloc (.cells #[.int .i64 ((kk : Nat) : Int), .int .i64 ((nn : Nat) : Int), .int .i64 ((cc : Nat) : Int)] 24) = w2 at hp1 bl1 ⊢
  generalize w1.heap.size = pb at hp1 bl1 ⊢
  refine reachI_go goodF hDk (by kernel_rfl) rfl sfsa fun R hR τ d' => ?_
  replace bl1 := bl1.tp τ d'
  replace hp1 : RowAt ({ w2 with tape := τ, drawn := d' } : World) pb [.int .i64 ((kk : Nat) : Int), .int .i64 ((nn : Nat) : Int), .int .i64 ((cc : Nat) : Int)] 24 := hp1
  generalize ({ w2 with tape := τ, drawn := d' } : World) = w2 at bl1 hp1 ⊢
  have ka := archive_any vr zr w2 (hr.bel bl1 (Nat.le_refl _)) hlr
  simp only [gFst, gSnd, saBody, Tryd.f3, Option.getD_some]
  go_wp2_with (first | (go_at_call 5; (with_reducible refine ka.mono ?_); rintro r w3 ⟨vb, m, f, Dt, rfl, hm, hA⟩))
  clear ka
  have hS : SmP kk nn cc m f Dt pb vb w3 := ⟨hp1.later (S := fun _ => False) (.of_below hA.bel) hp1.lt id, ⟨_, hA.own⟩, hA.nm, hA.len, hA.dat, hm⟩
  have bl3 := bl1.trans (Bel.of hA.bel) bl1.size'
  obtain ⟨bo, cap, rfl, _, _, _⟩ := BC.of_owns hA.own
  clear hA hp1 bl1
  refine reachI_go goodF hDk (by kernel_rfl) rfl sfsa fun R hR τ d' => ?_
  replace bl3 := bl3.tp τ d'
  replace hS := hS.bel ((Bel.refl w3.heap.size w3).tp τ d') (Nat.le_refl _)
  generalize ({ w3 with tape := τ, drawn := d' } : World) = w3 at bl3 hS ⊢
  have kc := chosen5 m hm vo zo w3 (ho.bel bl3 (Nat.le_refl _)) hlo
  simp only [gFst, gSnd, saBody, Tryd.f3, Option.getD_some]
  go_wp2_with (first | (go_at_call 6; (with_reducible refine kc.mono ?_); rintro r w4 ⟨vl, xs, rfl, hxs, hol, hb4⟩))
  clear kc
  have hS4 := hS.bel (Bel.of hb4) (Nat.le_refl _)
  have bl4 := bl3.trans (Bel.of hb4) bl3.size'
  clear hS hb4 bl3
  refine reachI_go goodF hDk (by kernel_rfl) rfl sfsa fun R hR τ d' => ?_
  replace bl4 := bl4.tp τ d'
  replace hS4 := hS4.bel ((Bel.refl w4.heap.size w4).tp τ d') (Nat.le_refl _)
  replace hol := owns_bel hol ((Bel.refl w4.heap.size w4).tp τ d') (Nat.le_refl _)
  generalize ({ w4 with tape := τ, drawn := d' } : World) = w4 at bl4 hS4 hol ⊢
  simp only [gFst, gSnd, saBody, Tryd.f3, Option.getD_some]
  go_wp2
  refine reachI_go goodF hDk (by kernel_rfl) rfl sfsa fun R hR τ d' => ?_
  replace bl4 := bl4.tp τ d'
  replace hS4 := hS4.bel ((Bel.refl w4.heap.size w4).tp τ d') (Nat.le_refl _)
  replace hol := owns_bel hol ((Bel.refl w4.heap.size w4).tp τ d') (Nat.le_refl _)
  generalize ({ w4 with tape := τ, drawn := d' } : World) = w4 at bl4 hS4 hol ⊢
  obtain ⟨i1, hi1, hy0, hy1, hy2⟩ := info_parts Tryd.infoBlob
  obtain ⟨B1, hob⟩ := hS4.own
  obtain ⟨bo', cap', e1, _, _, hBC⟩ := BC.of_owns hob
  cases e1
  obtain ⟨lo, lcap, rfl⟩ : ∃ lo lcap, vl = .slice lo m lcap := by
    rcases hol.2 with ⟨h1, h2⟩ | ⟨g, cap, cur, h1, _⟩
    · exact ⟨none, 0, by rw [h1, h2]⟩
    · exact ⟨_, _, h1⟩
  simp only [gFst, gSnd, saBody, Tryd.f3, Option.getD_some]
  go_wp2
  go_loopw [14, 15] (fun vt vi wr => TurnR w4.heap.size m f xs w4 vt vi wr) (fun _ vi _ => m - (intOf vi).toNat)
  case atStart => exact ⟨0, by omega, rfl, World.ownsRow_nil _ _ _ _, Below.refl _ _⟩
  case round =>
    obtain ⟨i, hi, rfl, hot, hb⟩ := hrel
    by_cases hlt : i < m
    · have hlt' : (i : Int) < (m : Int) := by omega
      have hws := hb.size
      obtain ⟨gl, lc, e2, hgl1, hgl2⟩ := hol.form (by omega)
      cases e2
      have hxl : i < xs.length := by rw [hxs.len]; exact hlt
      have hci := natI_get xs i hxl
      rw [← hol.cellAt i (by omega), ← hb.cell (p := ⟨gl, i, none⟩) hgl2] at hci
      have hxm : xs.getD i 0 < m := hxs.lt i _ (by rw [List.getD_eq_getElem?_getD, List.getElem?_eq_getElem hxl]; rfl)
      have etn : turn f xs i = f (xs.getD i 0) := rfl
      generalize hx : xs.getD i 0 = x at *
      obtain ⟨bb, oo, rfl, hbb, hcell⟩ := (hBC.below hb (Nat.le_refl _)).here (by omega)
      obtain ⟨c0, c1⟩ := hcell x hxm
      clear hcell
      have hxm' : (x : Int) < (m : Int) := by omega
      simp only [strV, Ent.d] at c0 c1
      go_wp2_with (at_builtin; go_loud (refine wpList_append_own _ rfl _ _ 26 rfl w4.heap.size 31 i1 (.agg #[.string ⟨#[]⟩, .slice none 0 0]) 2 40 Tryd.underlying26 hi1 hy0 hy1 hy2 rfl (by decide) _ _ _ rfl (hot.alloc _) ⟨wr.heap.size, 0, none⟩ 1 1 [.string ⟨(f x).k.toArray⟩, .slice (f x).a (f x).l (f x).c] rfl rfl (cell_two_new _ _ _ _) (blobC_one' _ _ _ _) (by unfold maxLen; omega) (by omega) (by simp; omega) ?_; intro v' w1 hown' hgrow _))
      go_roundw
      case rel =>
        refine ⟨i + 1, by omega, by go_num, ?_, (hb.alloc hws _).grown hgrow (by simp; omega) (fun x hx => (hot.lt x hx).1)⟩
        rw [blobL_succ, etn]
        exact hown'
      case measure => simp [intOf]; omega
    · obtain rfl : i = m := by omega
      have hnl : ¬ ((i : Int) < (i : Int)) := by omega
      go_wp2
      exact hnext _ _ _ _ _ _ _ _ _ (ts_mk rfl) ⟨hS4.bel (Bel.of hb) (Nat.le_refl _), ⟨_, bl4.size', hot⟩, hxs⟩ (bl4.trans (Bel.of hb) bl4.size')
end
end Go.Proofs.YtkpcmfgeanlcnabDoor

/-
  The blobs of the statements fit; what stands of them.
-/
namespace Go.Proofs.YtkpcmfgeanlcnabDoor
open Go.RowKit Go.Deep Go.Lf Go.Conc Go.Hp

theorem owns_sub {w w' : World} {B e z n : Nat} {v : Value} {xs : List Value} (h : w.ownsRow B e z v n xs) (hs : Sub w w') : w'.ownsRow B e z v n xs := by
  refine ⟨h.1, ?_⟩
  rcases h.2 with h1 | ⟨g, cap, cur, h1, h2, h3, h4⟩
  · exact .inl h1
  · exact .inr ⟨g, cap, cur, h1, h2, hs.2 _ _ _ _ h3, h4⟩
theorem SmP.sub {K N C m : Nat} {f : Nat → Ent} {D : Nat → List UInt8} {pb : Nat} {vb : Value} {w w' : World} (h : SmP K N C m f D pb vb w) (hs : Sub w w') : SmP K N C m f D pb vb w' :=
  ⟨hs.row h.par, by obtain ⟨B, h1⟩ := h.own; exact ⟨B, owns_sub h1 hs⟩, h.nm, h.len, fun j hj => by obtain ⟨B, h1⟩ := h.dat j hj; exact ⟨B, owns_sub h1 hs⟩, h.hm⟩
theorem SmS.sub {h0 K N C m : Nat} {f : Nat → Ent} {D : Nat → List UInt8} {xs : List Nat} {pb : Nat} {vb vt : Value} {w w' : World} (h : SmS h0 K N C m f D xs pb vb vt w) (hs : Sub w w') : SmS h0 K N C m f D xs pb vb vt w' :=
  ⟨h.pre.sub hs, by obtain ⟨B, h0, h1⟩ := h.owt; exact ⟨B, h0, owns_sub h1 hs⟩, h.once⟩

/-- Which bytes a blob has, by its name. -/
def dOf (D : Nat → List UInt8) (e : Ent) : List UInt8 := D ((e.k.getD 1 0).toNat - 97)
theorem dOf_nm (D : Nat → List UInt8) {e : Ent} {j : Nat} (hj : j < 26) (h : e.k = nmOf j) : dOf D e = D j := by
  unfold dOf
  rw [h]
  have : ((nmOf j).getD 1 0).toNat = 97 + j := by
    show (UInt8.ofNat (97 + j)).toNat = 97 + j
    rw [UInt8.toNat_ofNat', Nat.mod_eq_of_lt (by omega)]
  rw [this, Nat.add_sub_cancel_left]

section
variable {h0 K N C m : Nat} {f : Nat → Ent} {D : Nat → List UInt8} {xs : List Nat} {pb : Nat} {vb vt : Value} {w : World}
theorem args_of {f' : Nat → Ent} {v : Value} {B : Nat} (h : SmP K N C m f D pb vb w) (ho : w.ownsRow B 31 2 v m (blobL m f')) (hf : ∀ i, i < m → ∃ j, j < m ∧ f' i = f j) : ∃ bo cap, v = .slice bo m cap ∧ Args w bo m cap f' (dOf D) := by
  obtain ⟨bo, cap, rfl, h1, h2, hB⟩ := BC.of_owns ho
  have hm := h.hm
  refine ⟨bo, cap, rfl, by omega, h1, h2, fun i hi => ?_, fun i hi => ?_, hB, fun i hi => ?_⟩
  · obtain ⟨j, hj, e⟩ := hf i hi
    rw [e, h.nm j hj]
    simp [nmOf]
  · obtain ⟨j, hj, e⟩ := hf i hi
    obtain ⟨B, hd⟩ := h.dat j hj
    have h1 := (data_owns hd).1
    have h2 := h.len j hj
    rw [e]
    omega
  · obtain ⟨j, hj, e⟩ := hf i hi
    obtain ⟨B, hd⟩ := h.dat j hj
    rw [e, dOf_nm D (by omega) (h.nm j hj)]
    exact data_owns hd
theorem SmP.args (h : SmP K N C m f D pb vb w) : ∃ bo cap, vb = .slice bo m cap ∧ Args w bo m cap f (dOf D) := by
  obtain ⟨B, ho⟩ := h.own
  exact args_of h ho fun i hi => ⟨i, hi, rfl⟩
theorem turn_of (hx : Once m xs) (i : Nat) (hi : i < m) : ∃ j, j < m ∧ turn f xs i = f j := ⟨_, hx.lt i _ (by rw [List.getD_eq_getElem?_getD, List.getElem?_eq_getElem (by rw [hx.len]; exact hi)]; rfl), rfl⟩
theorem SmS.argt (h : SmS h0 K N C m f D xs pb vb vt w) : ∃ bo cap, vt = .slice bo m cap ∧ Args w bo m cap (turn f xs) (dOf D) := by
  obtain ⟨B, _, ho⟩ := h.owt
  exact args_of h.pre ho (turn_of h.once)
theorem SmP.fits (h : SmP K N C m f D pb vb w) : NamesFit m f := names_fit (xs := id) (fun i hi => by have := h.hm; show i < 26; omega) (fun i j h1 h2 => by show i ≠ j; omega) h.nm
theorem SmP.len2 (h : SmP K N C m f D pb vb w) : ∀ j, j < m → (f j).k.length = 2 ∧ (f j).l < 14 := fun j hj => by
  obtain ⟨B, hd⟩ := h.dat j hj
  have h1 := (data_owns hd).1
  have h2 := h.len j hj
  exact ⟨by rw [h.nm j hj]; rfl, by omega⟩
end

theorem fits_re {n : Nat} {f g : Nat → Ent} (hR : Rearr n f g) (h : NamesFit n f) : NamesFit n g := by
  refine ⟨fun i hi => ?_, fun i j h1 h2 e => ?_⟩
  · obtain ⟨j, hj, e⟩ := hR.from hi
    rw [e]
    exact h.1 j hj
  · obtain ⟨i', j', a1, a2, a3, a4, a5⟩ := hR.two (i := i) (j := j) (by omega) h2 (by omega)
    rw [a4, a5] at e
    rcases Nat.lt_or_ge i' j' with hlt | hge
    · exact h.2 i' j' hlt a2 e
    · exact h.2 j' i' (by omega) a1 e.symm
theorem strict_of {n : Nat} {g : Nat → Ent} (hS : Srt n g) (h : NamesFit n g) : ∀ i, i + 1 < n → Hp.lt (g i).k (g (i + 1)).k = true := fun i hi => by
  have h1 := hS i hi
  rcases Hp.lt_tri (g i).k (g (i + 1)).k with ⟨h2, _, _⟩ | ⟨h2, _, _⟩ | ⟨h2, _, _⟩
  · exact h2
  · have h1' : Hp.lt (g (i + 1)).k (g i).k = false := h1
    rw [h1'] at h2; cases h2
  · exact absurd h2 (h.2 i (i + 1) (by omega) hi)
/-- Sorted they are one list. -/
theorem sorted_same {n : Nat} {f g g' : Nat → Ent} (h : NamesFit n f) (a : Rearr n f g) (b : Rearr n f g') (hg : Srt n g) (hg' : Srt n g') : ∀ i, i < n → g' i = g i :=
  sorted_one a b (strict_of hg (fits_re a h)) hg'

theorem sum_le {α : Type} (l : List α) (F : α → Nat) (c : Nat) (h : ∀ x ∈ l, F x ≤ c) : (l.map F).sum ≤ c * l.length := by
  induction l with
  | nil => simp
  | cons a l ih =>
    have h1 := h a (by simp)
    have h2 := ih fun x hx => h x (by simp [hx])
    simp only [List.map_cons, List.sum_cons, List.length_cons, Nat.mul_succ]
    omega
theorem few_ok {m : Nat} {f g : Nat → Ent} (hm : m ≤ 5) (h : ∀ j, j < m → (f j).k.length = 2 ∧ (f j).l < 14) (hR : Rearr m f g) : FewOk (namesOf m g) (sizesOf m g) := by
  have hg : ∀ i, i < m → (g i).k.length = 2 ∧ (g i).l < 14 := fun i hi => by
    obtain ⟨j, hj, e⟩ := hR.from hi
    rw [e]
    exact h j hj
  refine ⟨by rw [namesOf_length]; omega, ?_, ?_⟩
  · unfold tot
    have := sum_le (sizesOf m g) Int.toNat 14 fun x hx => by
      simp only [sizesOf, List.mem_map, List.mem_range] at hx
      obtain ⟨i, hi, rfl⟩ := hx
      have := hg i hi
      omega
    rw [sizesOf_length] at this
    omega
  · unfold manN
    have := sum_le (namesOf m g) (fun n => 6 + n.length) 8 fun x hx => by
      simp only [namesOf, List.mem_map, List.mem_range] at hx
      obtain ⟨i, hi, rfl⟩ := hx
      have := hg i hi
      omega
    rw [namesOf_length] at this
    omega

section
open Go.Conc
variable {P : Program} {X : Nat → Prop} {Y : Nat → Option Obj} {D : Nat → World → Array Event → Prop} {Stop : Goroutine → World → Prop} {f : FuncId} {v : World}
/-- The last return, in the midst of the code. -/
theorem reaR_done (hD0 : Dok X D) {T : Array Value} {k : List Item} {fn : Func} (hf : P.funcs[f]? = some fn) (hin : P.inits.idxOf? f = none) {y : Value} (hres : ∀ u, (results fn T).runT P u #[] = (.ok y u, #[]))
    (h : ∀ w d, SimT X Y w v → (∀ d', stepG P true (G { Dn none [] f T (.code .ret :: k) with mode := .returning } []) (w.at d') = .ended (.done y) (w.at d') #[]) → Stop (G { Dn none [] f T (.code .ret :: k) with mode := .returning } []) (w.at d)) : ReaR P X Y D Stop none [] f [] (.code .ret :: k) T v := by
  intro w hs
  refine .next rfl fun d => ⟨G { Dn none [] f T (.code .ret :: k) with mode := .returning } [], w.at d, #[], rfl, hD0.nil (Nat.le_refl _), ?_⟩
  have eA : ∀ u, stepG P true (G { Dn none [] f T (.code .ret :: k) with mode := .returning } []) u = .ended (.done y) u #[] := fun u => by
    have := hres u
    simp only [G, stepG, unwind, Dn, hf, this, seen_none, doReturn, hin, Bool.not_true, Bool.false_eq_true, if_false, GStep.after, Array.append_empty]
  exact .stop fun d' => h w d' hs fun d'' => eA _
end
end Go.Proofs.YtkpcmfgeanlcnabDoor
