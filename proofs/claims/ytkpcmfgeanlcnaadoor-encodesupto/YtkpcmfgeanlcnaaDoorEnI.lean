/-
  The statement calls encoded, encoded calls Encode, Encode the one within: alone.
-/
import Derived.Test.YtkpcmfgeanlcnaaDoorEnV
import Derived.Test.YtkpcmfgeanlcnaaDoorEnB
import Derived.Test.YtkpcmfgeanlcnaaDoorEnH
namespace Go.Proofs.YtkpcmfgeanlcnaaDoor
open Go.RowKit Go.Deep Go.Lf Go.Conc Go.Hp

noncomputable def enBody : Code := Tryd.f18.body.getD .skip
noncomputable def enC : Code := gSnd (gSnd (gSnd (gSnd enBody)))
noncomputable def qen : {y : Array Oper // y = gOps (gFst enC)} := ⟨_, by (simp only [enC, enBody, gFst, gSnd, gOps, Tryd.f18, Option.getD_some]; rfl)⟩
noncomputable def enO : Array Oper := qen.1
noncomputable def enD : Code := gSnd enC
theorem enC_eq : enC = .seq (.region 6 enO false) enD := by kernel_rfl
theorem enO_size : enO.size = 8 := by kernel_rfl
theorem sfen : ∃ fn, Tryd.prog.funcs[18]? = some fn := ⟨_, Tryd.func18⟩
noncomputable def frameen (T : Array Value) : Frame := (base 18).at ⟨T, []⟩ (.inRegion enO [2, 3, 4, 5, 6, 7] :: [.code enD])
noncomputable def edBody : Code := Tryd.f10.body.getD .skip
noncomputable def edC : Code := gSnd edBody
noncomputable def qed : {y : Array Oper // y = gOps (gFst edC)} := ⟨_, by (simp only [edC, edBody, gFst, gSnd, gOps, Tryd.f10, Option.getD_some]; rfl)⟩
noncomputable def edO : Array Oper := qed.1
noncomputable def edD : Code := gSnd edC
theorem edC_eq : edC = .seq (.region 1 edO false) edD := by kernel_rfl
theorem edO_size : edO.size = 8 := by kernel_rfl
theorem sfed : ∃ fn, Tryd.prog.funcs[10]? = some fn := ⟨_, Tryd.func10⟩
noncomputable def frameed (T : Array Value) : Frame := (base 10).at ⟨T, []⟩ (.inRegion edO [2, 3, 4, 5, 6, 7] :: [.code edD])
noncomputable def esBody : Code := Tryd.f4.body.getD .skip
noncomputable def esC : Code := gSnd esBody
noncomputable def qes : {y : Array Oper // y = gOps (gFst esC)} := ⟨_, by (simp only [esC, esBody, gFst, gSnd, gOps, Tryd.f4, Option.getD_some]; rfl)⟩
noncomputable def esO : Array Oper := qes.1
noncomputable def esD : Code := gSnd esC
theorem esC_eq : esC = .seq (.region 1 esO false) esD := by kernel_rfl
theorem esO_size : esO.size = 8 := by kernel_rfl
theorem sfes : ∃ fn, Tryd.prog.funcs[4]? = some fn := ⟨_, Tryd.func4⟩
noncomputable def framees (T : Array Value) : Frame := (base 4).at ⟨T, []⟩ (.inRegion esO [2, 3, 4, 5, 6, 7] :: [.code esD])

def T28 (T : Array Value) : Prop := ∃ f : Nat → Value, T = #[f 0, f 1, f 2, f 3, f 4, f 5, f 6, f 7, f 8, f 9, f 10, f 11, f 12, f 13, f 14, f 15, f 16, f 17, f 18, f 19, f 20, f 21, f 22, f 23, f 24, f 25, f 26, f 27]
theorem t28_mk {T : Array Value} (h : T = #[T.getD 0 undef, T.getD 1 undef, T.getD 2 undef, T.getD 3 undef, T.getD 4 undef, T.getD 5 undef, T.getD 6 undef, T.getD 7 undef, T.getD 8 undef, T.getD 9 undef, T.getD 10 undef, T.getD 11 undef, T.getD 12 undef, T.getD 13 undef, T.getD 14 undef, T.getD 15 undef, T.getD 16 undef, T.getD 17 undef, T.getD 18 undef, T.getD 19 undef, T.getD 20 undef, T.getD 21 undef, T.getD 22 undef, T.getD 23 undef, T.getD 24 undef, T.getD 25 undef, T.getD 26 undef, T.getD 27 undef]) : T28 T := ⟨fun i => T.getD i undef, h⟩
def T32 (vb : Value) (pb : Nat) (T : Array Value) : Prop := ∃ f : Nat → Value, T = #[vb, f 1, f 2, .pointer (some ⟨pb, 0, none⟩), f 4, f 5, f 6, f 7, f 8, f 9, f 10, f 11, f 12, f 13, f 14, f 15, f 16, f 17, f 18, f 19, f 20, f 21, f 22, f 23, f 24, f 25, f 26, f 27, f 28, f 29, f 30, f 31]
theorem t32_mk {vb : Value} {pb : Nat} {T : Array Value} (h : T = #[vb, T.getD 1 undef, T.getD 2 undef, .pointer (some ⟨pb, 0, none⟩), T.getD 4 undef, T.getD 5 undef, T.getD 6 undef, T.getD 7 undef, T.getD 8 undef, T.getD 9 undef, T.getD 10 undef, T.getD 11 undef, T.getD 12 undef, T.getD 13 undef, T.getD 14 undef, T.getD 15 undef, T.getD 16 undef, T.getD 17 undef, T.getD 18 undef, T.getD 19 undef, T.getD 20 undef, T.getD 21 undef, T.getD 22 undef, T.getD 23 undef, T.getD 24 undef, T.getD 25 undef, T.getD 26 undef, T.getD 27 undef, T.getD 28 undef, T.getD 29 undef, T.getD 30 undef, T.getD 31 undef]) : T32 vb pb T := ⟨fun i => T.getD i undef, h⟩
def T14 (T : Array Value) : Prop := ∃ f : Nat → Value, T = #[f 0, f 1, f 2, f 3, f 4, f 5, f 6, f 7, f 8, f 9, f 10, f 11, f 12, f 13]
theorem t14_mk {T : Array Value} (h : T = #[T.getD 0 undef, T.getD 1 undef, T.getD 2 undef, T.getD 3 undef, T.getD 4 undef, T.getD 5 undef, T.getD 6 undef, T.getD 7 undef, T.getD 8 undef, T.getD 9 undef, T.getD 10 undef, T.getD 11 undef, T.getD 12 undef, T.getD 13 undef]) : T14 T := ⟨fun i => T.getD i undef, h⟩

section
variable {Y : Nat → Option Obj} {Φ : Goroutine → World → Prop} {w : World} {K N C m cap : Nat} {bo : Option Addr} {f : Nat → Ent} {d : Ent → List UInt8}
set_option maxHeartbeats 8000000 in
set_option maxRecDepth 100000 in
theorem to_arch {cs : List Frame} (hA : Args w bo m cap f d) (hP : ParamsOk (K : Int) (N : Int) (C : Int)) (hNf : NamesFit m f)
    (hnext : ∀ (T : Array Value) (g : Nat → Ent) (bo2 : Option Addr) (cap2 : Nat) (w' : World), T28 T → Rearr m f g → (∀ i, i + 1 < m → Hp.lt (g i).k (g (i + 1)).k = true) → BC w' bo2 m g → Below w.heap.size w w' → Rea Tryd.prog Y Φ 32 (frameen T :: cs) [.code aBody] ⟨#[.slice bo2 m cap2, .agg #[.int .i64 ((K : Nat) : Int), .int .i64 ((N : Nat) : Int), .int .i64 ((C : Nat) : Int)]] ++ Array.replicate 58 undef, []⟩ w') :
    Rea Tryd.prog Y Φ 18 cs [.code enBody] ⟨#[.slice bo m cap, .agg #[.int .i64 ((K : Nat) : Int), .int .i64 ((N : Nat) : Int), .int .i64 ((C : Nat) : Int)]] ++ Array.replicate 26 undef, []⟩ w := by
  have hr0 := RowAt.made w [.int .i64 ((K : Nat) : Int), .int .i64 ((N : Nat) : Int), .int .i64 ((C : Nat) : Int)] 28
  have hb0 := (Below.refl w.heap.size w).alloc (Nat.le_refl _) (.cells #[.int .i64 ((K : Nat) : Int), .int .i64 ((N : Nat) : Int), .int .i64 ((C : Nat) : Int)] 28)
  replace hr0 : RowAt (w.alloc (.cells #[.int .i64 ((K : Nat) : Int), .int .i64 ((N : Nat) : Int), .int .i64 ((C : Nat) : Int)] 28)) w.heap.size [.int .i64 ((K : Nat) : Int), .int .i64 ((N : Nat) : Int), .int .i64 ((C : Nat) : Int)] 28 := hr0
  have s0 : (w.alloc (.cells #[.int .i64 ((K : Nat) : Int), .int .i64 ((N : Nat) : Int), .int .i64 ((C : Nat) : Int)] 28)).heap.size = w.heap.size + 1 := by simp
  have H1 : Hid (ParamsOk (K : Int) (N : Int) (C : Int)) := hP
  have H2 : Hid (NamesFit m f) := hNf
  have eB : enBody = .seq (gFst enBody) (.seq (gFst (gSnd enBody)) (.seq (gFst (gSnd (gSnd enBody))) (.seq (gFst (gSnd (gSnd (gSnd enBody)))) enC))) := by kernel_rfl
  rw [eB]
  simp only [Array.replicate_succ, Array.replicate_zero, List.push_toArray, List.append_toArray, List.nil_append, List.cons_append]
  refine reach_go goodF (by kernel_rfl) rfl sfen fun R hR => ?_
  simp only [gFst, enBody, Tryd.f18, Option.getD_some]
  go_wp2
  generalize w.alloc (.cells #[.int .i64 ((K : Nat) : Int), .int .i64 ((N : Nat) : Int), .int .i64 ((C : Nat) : Int)] 28) = w0 at *
  have c0 := hr0.cell (i := 0) rfl
  have c1 := hr0.cell (i := 1) rfl
  have c2 := hr0.cell (i := 2) rfl
  have kp := paramsFit_any (K : Int) (N : Int) (C : Int) w0
  refine reach_go goodF (by kernel_rfl) rfl sfen fun R hR => ?_
  simp only [gFst, gSnd, enBody, Tryd.f18, Option.getD_some]
  go_wp2_with (first | (go_at_call 30; (with_reducible refine kp.mono ?_); rintro r w1 ⟨hb1, ht⟩; obtain rfl := ht.yes H1.out))
  clear kp c0 c1 c2
  have hbw := hb0.trans (hb1.mono (by omega))
  have kb := byName_any m cap bo f w1 hA.hm hA.hk (hA.bc.below hbw (Nat.le_refl _))
  refine reach_go goodF (by kernel_rfl) rfl sfen fun R hR => ?_
  simp only [gFst, gSnd, enBody, Tryd.f18, Option.getD_some]
  go_wp2_with (first | (go_at_call 31; (with_reducible refine kb.mono ?_); rintro r w2 ⟨hb2, hor⟩; obtain ⟨g, v2, rfl, hR2, hlt2, ho2⟩ : ∃ f' v, r = .returned (.tuple #[v, .bool true]) ∧ Rearr m f f' ∧ (∀ i, i + 1 < m → Hp.lt (f' i).k (f' (i + 1)).k = true) ∧ w2.ownsRow w1.heap.size 87 2 v m (blobL m f') := (by rcases hor with ⟨h, _⟩ | ⟨_, h⟩; exact absurd H2.out h; exact h)))
  clear kb
  obtain ⟨bo2, cap2, rfl, _, _, hB2⟩ := BC.of_owns ho2
  refine reach_go goodF (by kernel_rfl) rfl sfen fun R hR => ?_
  simp only [gFst, gSnd, enBody, Tryd.f18, Option.getD_some]
  go_wp2
  have hbw2 := hbw.trans (hb2.mono hbw.size)
  have hr2 := hr0.later (S := fun _ => False) (.of_below (hb1.trans (hb2.mono hb1.size))) (by omega) id
  have c0 := hr2.cell (i := 0) rfl
  have c1 := hr2.cell (i := 1) rfl
  have c2 := hr2.cell (i := 2) rfl
  rw [enC_eq]
  refine reach_split rfl (rea_region ?_)
  rw [enO_size]
  simp only [List.range, List.range.loop]
  refine rea_op goodF (u := .slice bo2 m cap2) (v' := w2) (by simp only [enO, qen]; rfl) rfl (by kernel_rfl) (by go_simp) ?_
  walk_nrm
  refine rea_op goodF (u := .agg #[.int .i64 ((K : Nat) : Int), .int .i64 ((N : Nat) : Int), .int .i64 ((C : Nat) : Int)]) (v' := w2) (by simp only [enO, qen]; rfl) rfl (by kernel_rfl) (by go_simp) ?_
  walk_nrm
  refine rea_call (by simp only [enO, qen]; rfl) rfl (by rfl) Tryd.func32 (by kernel_rfl) (c := aBody) (by kernel_rfl) (vs := #[.slice bo2 m cap2, .agg #[.int .i64 ((K : Nat) : Int), .int .i64 ((N : Nat) : Int), .int .i64 ((C : Nat) : Int)]]) (n := 58) (by simp [Act.eval]) (by kernel_rfl) ?_
  unfold frameen at hnext
  exact hnext _ g bo2 cap2 w2 (t28_mk rfl) hR2 hlt2 hB2 hbw2

set_option maxHeartbeats 4000000 in
set_option maxRecDepth 100000 in
theorem to_enc {cs : List Frame} {vb : Value}
    (hnext : ∀ (T : Array Value) (pb : Nat) (w' : World), T32 vb pb T → RowAt w' pb [.int .i64 ((K : Nat) : Int), .int .i64 ((N : Nat) : Int), .int .i64 ((C : Nat) : Int)] 28 → Below w.heap.size w w' → Rea Tryd.prog Y Φ 18 (frameed T :: cs) [.code enBody] ⟨#[vb, .agg #[.int .i64 ((K : Nat) : Int), .int .i64 ((N : Nat) : Int), .int .i64 ((C : Nat) : Int)]] ++ Array.replicate 26 undef, []⟩ w') :
    Rea Tryd.prog Y Φ 10 cs [.code edBody] ⟨#[vb, .agg #[.int .i64 ((K : Nat) : Int), .int .i64 ((N : Nat) : Int), .int .i64 ((C : Nat) : Int)]] ++ Array.replicate 30 undef, []⟩ w := by
  have hr0 := RowAt.made w [.int .i64 ((K : Nat) : Int), .int .i64 ((N : Nat) : Int), .int .i64 ((C : Nat) : Int)] 28
  have hb0 := (Below.refl w.heap.size w).alloc (Nat.le_refl _) (.cells #[.int .i64 ((K : Nat) : Int), .int .i64 ((N : Nat) : Int), .int .i64 ((C : Nat) : Int)] 28)
  replace hr0 : RowAt (w.alloc (.cells #[.int .i64 ((K : Nat) : Int), .int .i64 ((N : Nat) : Int), .int .i64 ((C : Nat) : Int)] 28)) w.heap.size [.int .i64 ((K : Nat) : Int), .int .i64 ((N : Nat) : Int), .int .i64 ((C : Nat) : Int)] 28 := hr0
  have eB : edBody = .seq (gFst edBody) edC := by kernel_rfl
  rw [eB]
  simp only [Array.replicate_succ, Array.replicate_zero, List.push_toArray, List.append_toArray, List.nil_append, List.cons_append]
  refine reach_go goodF (by kernel_rfl) rfl sfed fun R hR => ?_
  simp only [gFst, edBody, Tryd.f10, Option.getD_some]
  go_wp2
  generalize w.alloc (.cells #[.int .i64 ((K : Nat) : Int), .int .i64 ((N : Nat) : Int), .int .i64 ((C : Nat) : Int)] 28) = w0 at *
  have c0 := hr0.cell (i := 0) rfl
  have c1 := hr0.cell (i := 1) rfl
  have c2 := hr0.cell (i := 2) rfl
  rw [edC_eq]
  refine reach_split rfl (rea_region ?_)
  rw [edO_size]
  simp only [List.range, List.range.loop]
  refine rea_op goodF (u := vb) (v' := w0) (by simp only [edO, qed]; rfl) rfl (by kernel_rfl) (by go_simp) ?_
  walk_nrm
  refine rea_op goodF (u := .agg #[.int .i64 ((K : Nat) : Int), .int .i64 ((N : Nat) : Int), .int .i64 ((C : Nat) : Int)]) (v' := w0) (by simp only [edO, qed]; rfl) rfl (by kernel_rfl) (by go_simp) ?_
  walk_nrm
  refine rea_call (by simp only [edO, qed]; rfl) rfl (by rfl) Tryd.func18 (by kernel_rfl) (c := enBody) (by kernel_rfl) (vs := #[vb, .agg #[.int .i64 ((K : Nat) : Int), .int .i64 ((N : Nat) : Int), .int .i64 ((C : Nat) : Int)]]) (n := 26) (by simp [Act.eval]) (by kernel_rfl) ?_
  unfold frameed at hnext
  exact hnext _ w.heap.size w0 (t32_mk rfl) hr0 hb0

set_option maxHeartbeats 4000000 in
set_option maxRecDepth 100000 in
theorem to_stat {cs : List Frame} {vb : Value}
    (hnext : ∀ (T : Array Value) (w' : World), T14 T → Below w.heap.size w w' → Rea Tryd.prog Y Φ 10 (framees T :: cs) [.code edBody] ⟨#[vb, .agg #[.int .i64 ((K : Nat) : Int), .int .i64 ((N : Nat) : Int), .int .i64 ((C : Nat) : Int)]] ++ Array.replicate 30 undef, []⟩ w') :
    Rea Tryd.prog Y Φ 4 cs [.code esBody] ⟨#[vb, .agg #[.int .i64 ((K : Nat) : Int), .int .i64 ((N : Nat) : Int), .int .i64 ((C : Nat) : Int)]] ++ Array.replicate 12 undef, []⟩ w := by
  have hr0 := RowAt.made w [.int .i64 ((K : Nat) : Int), .int .i64 ((N : Nat) : Int), .int .i64 ((C : Nat) : Int)] 28
  have hb0 := (Below.refl w.heap.size w).alloc (Nat.le_refl _) (.cells #[.int .i64 ((K : Nat) : Int), .int .i64 ((N : Nat) : Int), .int .i64 ((C : Nat) : Int)] 28)
  replace hr0 : RowAt (w.alloc (.cells #[.int .i64 ((K : Nat) : Int), .int .i64 ((N : Nat) : Int), .int .i64 ((C : Nat) : Int)] 28)) w.heap.size [.int .i64 ((K : Nat) : Int), .int .i64 ((N : Nat) : Int), .int .i64 ((C : Nat) : Int)] 28 := hr0
  have eB : esBody = .seq (gFst esBody) esC := by kernel_rfl
  rw [eB]
  simp only [Array.replicate_succ, Array.replicate_zero, List.push_toArray, List.append_toArray, List.nil_append, List.cons_append]
  refine reach_go goodF (by kernel_rfl) rfl sfes fun R hR => ?_
  simp only [gFst, esBody, Tryd.f4, Option.getD_some]
  go_wp2
  generalize w.alloc (.cells #[.int .i64 ((K : Nat) : Int), .int .i64 ((N : Nat) : Int), .int .i64 ((C : Nat) : Int)] 28) = w0 at *
  have c0 := hr0.cell (i := 0) rfl
  have c1 := hr0.cell (i := 1) rfl
  have c2 := hr0.cell (i := 2) rfl
  rw [esC_eq]
  refine reach_split rfl (rea_region ?_)
  rw [esO_size]
  simp only [List.range, List.range.loop]
  refine rea_op goodF (u := vb) (v' := w0) (by simp only [esO, qes]; rfl) rfl (by kernel_rfl) (by go_simp) ?_
  walk_nrm
  refine rea_op goodF (u := .agg #[.int .i64 ((K : Nat) : Int), .int .i64 ((N : Nat) : Int), .int .i64 ((C : Nat) : Int)]) (v' := w0) (by simp only [esO, qes]; rfl) rfl (by kernel_rfl) (by go_simp) ?_
  walk_nrm
  refine rea_call (by simp only [esO, qes]; rfl) rfl (by rfl) Tryd.func10 (by kernel_rfl) (c := edBody) (by kernel_rfl) (vs := #[vb, .agg #[.int .i64 ((K : Nat) : Int), .int .i64 ((N : Nat) : Int), .int .i64 ((C : Nat) : Int)]]) (n := 30) (by simp [Act.eval]) (by kernel_rfl) ?_
  unfold framees at hnext
  exact hnext _ w0 (t14_mk rfl) hb0
end
end Go.Proofs.YtkpcmfgeanlcnaaDoor

/-
  A column as the program's worker makes it is a column as the document mixes it.
-/
namespace Go.Proofs.YtkpcmfgeanlcnaaDoor
open Go.RowKit Go.Deep Go.Hp

theorem zip_range (a : Nat → Nat) (b : Nat → List Nat) (n : Nat) : ((List.range n).map a).zip ((List.range n).map b) = (List.range n).map fun j => (a j, b j) := by
  rw [List.zip_map']
theorem rec_dotN (r x : Nat → Nat) (hr : ∀ j, r j < 256) (hx : ∀ j, x j < 256) : ∀ n, Nat.rec (motive := fun _ => Nat) 0 (fun j s => s ^^^ mul (x j) (r j)) n = dotN r x n
  | 0 => rfl
  | n + 1 => by
    show _ ^^^ _ = dotN r x n ^^^ mul (r n) (x n)
    rw [rec_dotN r x hr hx n, mul_comm (hx n) (hr n)]
theorem res_eq (k L : Nat) (l : List UInt8) (bk bd P F ba : Nat) (h0 : Nat → Option Obj) (t : Nat) : (envK k L l bk bd P F ba h0).res k L t = (List.range L).map fun m => dotN (rowV k t) (fun j => xAt l L j m) k := by
  have hz : zsOf ((List.range k).map (rowV k t)) (envK k L l bk bd P F ba h0).cs = (List.range k).map fun j => (rowV k t j, (List.range L).map fun m => bAt l (j * L + m)) := by
    unfold zsOf envK
    simp only [List.map_map]
    exact zip_range _ _ _
  have hlen : ((envK k L l bk bd P F ba h0).res k L t).length = L := by
    unfold EnvC.res
    rw [comb_length]
    simp
  apply List.ext_getElem?
  intro m
  by_cases hm : m < L
  · have key := comb_get (rowV k t) (fun j => (List.range L).map fun m => bAt l (j * L + m)) L m hm (fun j => by simp) k
    rw [← hz] at key
    have e : ∀ j, ((List.range L).map fun m => bAt l (j * L + m)).getD m 0 = xAt l L j m := fun j => by
      simp [List.getD_eq_getElem?_getD, hm, xAt]
    simp only [e] at key
    rw [rec_dotN (rowV k t) (fun j => xAt l L j m) (fun _ => rowV_lt) (fun j => bAt_lt _ _)] at key
    have h1 : ((envK k L l bk bd P F ba h0).res k L t).getD m 0 = dotN (rowV k t) (fun j => xAt l L j m) k := key
    rw [List.getD_eq_getElem?_getD] at h1
    rw [List.getElem?_eq_getElem (by rw [hlen]; exact hm)] at h1 ⊢
    simp only [Option.getD_some] at h1
    rw [h1]
    simp [hm]
  · rw [List.getElem?_eq_none (by rw [hlen]; omega), List.getElem?_eq_none (by simp; omega)]
end Go.Proofs.YtkpcmfgeanlcnaaDoor
