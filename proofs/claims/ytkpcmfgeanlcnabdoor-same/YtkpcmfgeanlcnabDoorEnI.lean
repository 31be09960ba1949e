/-
  The statement calls encoded, encoded calls Encode, Encode the one within: alone.
-/
import Derived.Test.YtkpcmfgeanlcnabDoorEnV
import Derived.Test.YtkpcmfgeanlcnabDoorEnB
import Derived.Test.YtkpcmfgeanlcnabDoorEnL
namespace Go.Proofs.YtkpcmfgeanlcnabDoor
open Go.RowKit Go.Deep Go.Lf Go.Conc Go.Hp

noncomputable def enBody : Code := Tryd.f7.body.getD .skip
noncomputable def enC : Code := gSnd (gSnd (gSnd (gSnd enBody)))
noncomputable def qen : {y : Array Oper // y = gOps (gFst enC)} := ⟨_, by (simp only [enC, enBody, gFst, gSnd, gOps, Tryd.f7, Option.getD_some]; rfl)⟩
noncomputable def enO : Array Oper := qen.1
noncomputable def enD : Code := gSnd enC
theorem enC_eq : enC = .seq (.region 6 enO false) enD := by kernel_rfl
theorem enO_size : enO.size = 8 := by kernel_rfl
theorem sfen : ∃ fn, Tryd.prog.funcs[7]? = some fn := ⟨_, Tryd.func7⟩
noncomputable def frameen (T : Array Value) : Frame := (base 7).at ⟨T, []⟩ (.inRegion enO [2, 3, 4, 5, 6, 7] :: [.code enD])
def T28 (T : Array Value) : Prop := ∃ f : Nat → Value, T = #[f 0, f 1, f 2, f 3, f 4, f 5, f 6, f 7, f 8, f 9, f 10, f 11, f 12, f 13, f 14, f 15, f 16, f 17, f 18, f 19, f 20, f 21, f 22, f 23, f 24, f 25, f 26, f 27]
theorem t28_mk {T : Array Value} (h : T = #[T.getD 0 undef, T.getD 1 undef, T.getD 2 undef, T.getD 3 undef, T.getD 4 undef, T.getD 5 undef, T.getD 6 undef, T.getD 7 undef, T.getD 8 undef, T.getD 9 undef, T.getD 10 undef, T.getD 11 undef, T.getD 12 undef, T.getD 13 undef, T.getD 14 undef, T.getD 15 undef, T.getD 16 undef, T.getD 17 undef, T.getD 18 undef, T.getD 19 undef, T.getD 20 undef, T.getD 21 undef, T.getD 22 undef, T.getD 23 undef, T.getD 24 undef, T.getD 25 undef, T.getD 26 undef, T.getD 27 undef]) : T28 T := ⟨fun i => T.getD i undef, h⟩
def T32 (vb : Value) (pb : Nat) (T : Array Value) : Prop := ∃ f : Nat → Value, T = #[vb, f 1, f 2, .pointer (some ⟨pb, 0, none⟩), f 4, f 5, f 6, f 7, f 8, f 9, f 10, f 11, f 12, f 13, f 14, f 15, f 16, f 17, f 18, f 19, f 20, f 21, f 22, f 23, f 24, f 25, f 26, f 27, f 28, f 29, f 30, f 31]
theorem t32_mk {vb : Value} {pb : Nat} {T : Array Value} (h : T = #[vb, T.getD 1 undef, T.getD 2 undef, .pointer (some ⟨pb, 0, none⟩), T.getD 4 undef, T.getD 5 undef, T.getD 6 undef, T.getD 7 undef, T.getD 8 undef, T.getD 9 undef, T.getD 10 undef, T.getD 11 undef, T.getD 12 undef, T.getD 13 undef, T.getD 14 undef, T.getD 15 undef, T.getD 16 undef, T.getD 17 undef, T.getD 18 undef, T.getD 19 undef, T.getD 20 undef, T.getD 21 undef, T.getD 22 undef, T.getD 23 undef, T.getD 24 undef, T.getD 25 undef, T.getD 26 undef, T.getD 27 undef, T.getD 28 undef, T.getD 29 undef, T.getD 30 undef, T.getD 31 undef]) : T32 vb pb T := ⟨fun i => T.getD i undef, h⟩
def T14 (T : Array Value) : Prop := ∃ f : Nat → Value, T = #[f 0, f 1, f 2, f 3, f 4, f 5, f 6, f 7, f 8, f 9, f 10, f 11, f 12, f 13]
theorem t14_mk {T : Array Value} (h : T = #[T.getD 0 undef, T.getD 1 undef, T.getD 2 undef, T.getD 3 undef, T.getD 4 undef, T.getD 5 undef, T.getD 6 undef, T.getD 7 undef, T.getD 8 undef, T.getD 9 undef, T.getD 10 undef, T.getD 11 undef, T.getD 12 undef, T.getD 13 undef]) : T14 T := ⟨fun i => T.getD i undef, h⟩

section
variable {X : Nat → Prop} {Y : Nat → Option Obj} {D : Nat → World → Array Event → Prop} {Stop : Goroutine → World → Prop} {w : World} {K N C m cap : Nat} {bo : Option Addr} {f : Nat → Ent} {d : Ent → List UInt8}
set_option maxHeartbeats 8000000 in
set_option maxRecDepth 100000 in
theorem to_arch (hDk : Dok X D) {cs : List Frame} (hA : Args w bo m cap f d) (hP : ParamsOk (K : Int) (N : Int) (C : Int)) (hNf : NamesFit m f)
    (hnext : ∀ (T : Array Value) (g : Nat → Ent) (bo2 : Option Addr) (cap2 : Nat) (w' : World), T28 T → Rearr m f g → (∀ i, i + 1 < m → Hp.lt (g i).k (g (i + 1)).k = true) → BC w' bo2 m g → Bel w.heap.size w w' → ReaI Tryd.prog X Y D Stop 12 (frameen T :: cs) [.code aBody] ⟨#[.slice bo2 m cap2, .agg #[.int .i64 ((K : Nat) : Int), .int .i64 ((N : Nat) : Int), .int .i64 ((C : Nat) : Int)]] ++ Array.replicate 58 undef, []⟩ w') :
    ReaI Tryd.prog X Y D Stop 7 cs [.code enBody] ⟨#[.slice bo m cap, .agg #[.int .i64 ((K : Nat) : Int), .int .i64 ((N : Nat) : Int), .int .i64 ((C : Nat) : Int)]] ++ Array.replicate 26 undef, []⟩ w := by
  have H1 : Hid (ParamsOk (K : Int) (N : Int) (C : Int)) := hP
  have H2 : Hid (NamesFit m f) := hNf
  have eB : enBody = .seq (gFst enBody) (.seq (gFst (gSnd enBody)) (.seq (gFst (gSnd (gSnd enBody))) (.seq (gFst (gSnd (gSnd (gSnd enBody)))) enC))) := by kernel_rfl
  rw [eB]
  simp only [Array.replicate_succ, Array.replicate_zero, List.push_toArray, List.append_toArray, List.nil_append, List.cons_append]
  refine reachI_go goodF hDk (by kernel_rfl) rfl sfen fun R hR τ d' => ?_
  have hzB : w.heap.size ≤ ({ w with tape := τ, drawn := d' } : World).heap.size := Nat.le_refl _
  have bl : Bel w.heap.size w { w with tape := τ, drawn := d' } := (Bel.refl _ w).tp τ d'
  generalize ({ w with tape := τ, drawn := d' } : World) = wA at hzB bl ⊢
  have hr0 : RowAt (wA.alloc (.cells #[.int .i64 ((K : Nat) : Int), .int .i64 ((N : Nat) : Int), .int .i64 ((C : Nat) : Int)] 24)) wA.heap.size [.int .i64 ((K : Nat) : Int), .int .i64 ((N : Nat) : Int), .int .i64 ((C : Nat) : Int)] 24 := RowAt.made wA [.int .i64 ((K : Nat) : Int), .int .i64 ((N : Nat) : Int), .int .i64 ((C : Nat) : Int)] 24
  have hb0 := (Below.refl wA.heap.size wA).alloc (Nat.le_refl _) (.cells #[.int .i64 ((K : Nat) : Int), .int .i64 ((N : Nat) : Int), .int .i64 ((C : Nat) : Int)] 24)
  replace bl := bl.trans (Bel.of hb0) hzB
  simp only [gFst, enBody, Tryd.f7, Option.getD_some]
  go_wp2
  generalize wA.alloc (.cells #[.int .i64 ((K : Nat) : Int), .int .i64 ((N : Nat) : Int), .int .i64 ((C : Nat) : Int)] 24) = w0 at hr0 bl ⊢
  generalize wA.heap.size = pc at *
  clear hb0
  refine reachI_go goodF hDk (by kernel_rfl) rfl sfen fun R hR τ d' => ?_
  replace hr0 : RowAt ({ w0 with tape := τ, drawn := d' } : World) pc [.int .i64 ((K : Nat) : Int), .int .i64 ((N : Nat) : Int), .int .i64 ((C : Nat) : Int)] 24 := hr0
  replace bl := bl.tp τ d'
  generalize ({ w0 with tape := τ, drawn := d' } : World) = w0 at hr0 bl ⊢
  have c0 := hr0.cell (i := 0) rfl
  have c1 := hr0.cell (i := 1) rfl
  have c2 := hr0.cell (i := 2) rfl
  have kp := paramsFit_any (K : Int) (N : Int) (C : Int) w0
  simp only [gFst, gSnd, enBody, Tryd.f7, Option.getD_some]
  go_wp2_with (first | (go_at_call 10; (with_reducible refine kp.mono ?_); rintro r w1 ⟨hb1, ht⟩; obtain rfl := ht.yes H1.out))
  clear kp c0 c1 c2
  have hr1 := hr0.later (S := fun _ => False) (.of_below hb1) hr0.lt id
  have bl1 := bl.trans (Bel.of hb1) bl.size'
  clear hb1 hr0 bl
  refine reachI_go goodF hDk (by kernel_rfl) rfl sfen fun R hR τ d' => ?_
  replace hr1 : RowAt ({ w1 with tape := τ, drawn := d' } : World) pc [.int .i64 ((K : Nat) : Int), .int .i64 ((N : Nat) : Int), .int .i64 ((C : Nat) : Int)] 24 := hr1
  replace bl1 := bl1.tp τ d'
  generalize ({ w1 with tape := τ, drawn := d' } : World) = w1 at hr1 bl1 ⊢
  have kb := byName_any m cap bo f w1 hA.hm hA.hk (hA.bc.bel bl1 (Nat.le_refl _))
  simp only [gFst, gSnd, enBody, Tryd.f7, Option.getD_some]
  go_wp2_with (first | (go_at_call 11; (with_reducible refine kb.mono ?_); rintro r w2 ⟨hb2, hor⟩; obtain ⟨g, v2, rfl, hR2, hlt2, ho2⟩ : ∃ f' v, r = .returned (.tuple #[v, .bool true]) ∧ Rearr m f f' ∧ (∀ i, i + 1 < m → Hp.lt (f' i).k (f' (i + 1)).k = true) ∧ w2.ownsRow w1.heap.size 31 2 v m (blobL m f') := (by rcases hor with ⟨h, _⟩ | ⟨_, h⟩; exact absurd H2.out h; exact h)))
  clear kb
  obtain ⟨bo2, cap2, rfl, _, _, hB2⟩ := BC.of_owns ho2
  have hr2 := hr1.later (S := fun _ => False) (.of_below hb2) hr1.lt id
  have bl2 := bl1.trans (Bel.of hb2) bl1.size'
  clear hb2 hr1 bl1 ho2
  refine reachI_go goodF hDk (by kernel_rfl) rfl sfen fun R hR τ d' => ?_
  replace hr2 : RowAt ({ w2 with tape := τ, drawn := d' } : World) pc [.int .i64 ((K : Nat) : Int), .int .i64 ((N : Nat) : Int), .int .i64 ((C : Nat) : Int)] 24 := hr2
  replace bl2 := bl2.tp τ d'
  replace hB2 := hB2.bel ((Bel.refl w2.heap.size w2).tp τ d') (Nat.le_refl _)
  generalize ({ w2 with tape := τ, drawn := d' } : World) = w2 at hr2 bl2 hB2 ⊢
  simp only [gFst, gSnd, enBody, Tryd.f7, Option.getD_some]
  go_wp2
  have c0 := hr2.cell (i := 0) rfl
  have c1 := hr2.cell (i := 1) rfl
  have c2 := hr2.cell (i := 2) rfl
  rw [enC_eq]
  refine reachI_split hDk rfl (reaI_region hDk ?_)
  rw [enO_size]
  simp only [List.range, List.range.loop]
  refine reaR_op goodF hDk (.slice bo2 m cap2) (by simp only [enO, qen]; rfl) rfl (by kernel_rfl) (fun z _ => by go_simp) ?_
  walk_nrm
  refine reaR_op goodF hDk (.agg #[.int .i64 ((K : Nat) : Int), .int .i64 ((N : Nat) : Int), .int .i64 ((C : Nat) : Int)]) (by simp only [enO, qen]; rfl) rfl (by kernel_rfl) (fun z hz => by
    have e : ∀ a, z.cell? a = w2.cell? a := fun a => by simp only [World.cell?, hz]
    rw [← e] at c0 c1 c2
    go_simp) ?_
  walk_nrm
  refine reaR_call hDk (by simp only [enO, qen]; rfl) rfl (by rfl) Tryd.func12 (by kernel_rfl) (c := aBody) (by kernel_rfl) (vs := #[.slice bo2 m cap2, .agg #[.int .i64 ((K : Nat) : Int), .int .i64 ((N : Nat) : Int), .int .i64 ((C : Nat) : Int)]]) (n := 58) (by simp [Act.eval]) (by kernel_rfl) ?_
  unfold frameen at hnext
  exact hnext _ g bo2 cap2 w2 (t28_mk rfl) hR2 hlt2 hB2 bl2
end
end Go.Proofs.YtkpcmfgeanlcnabDoor

/-
  A column as the program's worker makes it is a column as the document mixes it.
-/
namespace Go.Proofs.YtkpcmfgeanlcnabDoor
open Go.RowKit Go.Deep Go.Hp

theorem zip_range (a : Nat → Nat) (b : Nat → List Nat) (n : Nat) : ((List.range n).map a).zip ((List.range n).map b) = (List.range n).map fun j => (a j, b j) := by
  rw [List.zip_map']
theorem rec_dotN (r x : Nat → Nat) (hr : ∀ j, r j < 256) (hx : ∀ j, x j < 256) : ∀ n, Nat.rec (motive := fun _ => Nat) 0 (fun j s => s ^^^ mul (x j) (r j)) n = dotN r x n
  | 0 => rfl
  | n + 1 => by
    show _ ^^^ _ = dotN r x n ^^^ mul (r n) (x n)
    rw [rec_dotN r x hr hx n, mul_comm (hx n) (hr n)]
theorem res_eq (k L : Nat) (l : List UInt8) (bk bd P F ba : Nat) (h0 : Nat → Option Obj) (t : Nat) : (envK k L l bk bd P F ba h0).res k L t = (List.range L).map fun m => dotN (rowV k t) (fun j => xAt l L j m) k := by
  have hz : zsOf ((List.range k).map (rowV k t)) (envK k L l bk bd P F ba h0).cs = (List.range k).map fun j => (rowV k t j, (List.range L).map fun m => bAt l (j * L + m)) := by
    unfold zsOf envK
    simp only [List.map_map]
    exact zip_range _ _ _
  have hlen : ((envK k L l bk bd P F ba h0).res k L t).length = L := by
    unfold EnvC.res
    rw [comb_length]
    simp
  apply List.ext_getElem?
  intro m
  by_cases hm : m < L
  · have key := comb_get (rowV k t) (fun j => (List.range L).map fun m => bAt l (j * L + m)) L m hm (fun j => by simp) k
    rw [← hz] at key
    have e : ∀ j, ((List.range L).map fun m => bAt l (j * L + m)).getD m 0 = xAt l L j m := fun j => by
      simp [List.getD_eq_getElem?_getD, hm, xAt]
    simp only [e] at key
    rw [rec_dotN (rowV k t) (fun j => xAt l L j m) (fun _ => rowV_lt) (fun j => bAt_lt _ _)] at key
    have h1 : ((envK k L l bk bd P F ba h0).res k L t).getD m 0 = dotN (rowV k t) (fun j => xAt l L j m) k := key
    rw [List.getD_eq_getElem?_getD] at h1
    rw [List.getElem?_eq_getElem (by rw [hlen]; exact hm)] at h1 ⊢
    simp only [Option.getD_some] at h1
    rw [h1]
    simp [hm]
  · rw [List.getElem?_eq_none (by rw [hlen]; omega), List.getElem?_eq_none (by simp; omega)]
end Go.Proofs.YtkpcmfgeanlcnabDoor
