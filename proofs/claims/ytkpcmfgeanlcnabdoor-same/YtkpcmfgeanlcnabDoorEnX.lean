/-
  archive.Encode behind the join: the loop that writes the shards.
-/
import Derived.Test.YtkpcmfgeanlcnabDoorEnI
namespace Go.Proofs.YtkpcmfgeanlcnabDoor
open Go.RowKit Go.Deep Go.Lf Go.Conc Go.Hp

/-- All that is cells stands. -/
def Sub (u v : World) : Prop := u.heap.size ≤ v.heap.size ∧ ∀ (b : Nat) (c : Array Value) (t : TypeId) (fr : Nat × Nat), u.heap[b]? = some (.cells c t fr) → v.heap[b]? = some (.cells c t fr)
section
variable {u v : World}
theorem Sub.cell (h : Sub u v) {b o : Nat} {x : Value} (hc : u.cell? ⟨b, o, none⟩ = some x) : v.cell? ⟨b, o, none⟩ = some x := by
  have h' := hc
  unfold World.cell? at h'
  cases e : u.heap[b]? with
  | none => simp only [e] at h'; cases h'
  | some y =>
    cases y with
    | cells c t fr =>
      have := h.2 b c t fr e
      simp only [World.cell?, e] at hc
      simp only [World.cell?, this]
      exact hc
    | _ => simp only [e] at h'; cases h'
theorem Sub.row (h : Sub u v) {b : Nat} {cs : List Value} {t : TypeId} (hr : RowAt u b cs t) : RowAt v b cs t := h.2 _ _ _ _ hr
theorem Sub.lies (h : Sub u v) {x : Value} {xs : List Value} (hl : Lies u x xs) : Lies v x xs := by
  obtain ⟨ba, cap, e, h1, h2⟩ := hl
  exact ⟨ba, cap, e, h1, fun j y hj => by
    obtain ⟨b, off, h3, h4⟩ := h2 j y hj
    exact ⟨b, off, h3, h.cell h4⟩⟩
theorem Sub.byt (h : Sub u v) {b o : Nat} {l : List UInt8} (hb : Byt u b o l) : Byt v b o l := fun j hj => h.cell (hb j hj)
theorem Sub.tab (h : Sub u v) (ht : Tab u) : Tab v := ⟨Nat.lt_of_lt_of_le ht.1 h.1, fun i hi => h.cell (ht.2 i hi)⟩
theorem Sub.args {bo : Option Addr} {m cap : Nat} {f : Nat → Ent} {d : Ent → List UInt8} (h : Sub u v) (ha : Args u bo m cap f d) : Args v bo m cap f d :=
  ⟨ha.hm, ha.hcap, ha.hbo, ha.hk, ha.hl, ha.bc.up h.1 h.cell, fun i hi => (ha.dat i hi).grow h.1 h.cell⟩
end
/-- All but one block stands. -/
structure KX (bh : Nat) (a b : World) : Prop where
  os : b.os = a.os
  output : b.output = a.output
  size : a.heap.size ≤ b.heap.size
  block : ∀ x, x < a.heap.size → x ≠ bh → b.heap[x]? = a.heap[x]?
theorem KX.refl (bh : Nat) (a : World) : KX bh a a := ⟨rfl, rfl, Nat.le_refl _, fun _ _ _ => rfl⟩
theorem KX.kept {bh : Nat} {a b c : World} (h : KX bh a b) (h' : Kept b c) : KX bh a c := ⟨h'.os.trans h.os, h'.output.trans h.output, Nat.le_trans h.size h'.size, fun x hx hn => (h'.block x (Nat.lt_of_lt_of_le hx h.size)).trans (h.block x hx hn)⟩
theorem KX.set {bh i : Nat} {a b : World} (h : KX bh a b) (y : Value) : KX bh a (b.setCell ⟨bh, i, none⟩ y) := ⟨h.os, h.output, by rw [World.size_setCell]; exact h.size, fun x hx hn => (Below.heap_setCell _ _ _ x hn).trans (h.block x hx hn)⟩
theorem KX.sub {bh : Nat} {u a b : World} (h : KX bh a b) (hs : Sub u a) (hu : u.heap.size ≤ bh) : Sub u b := ⟨Nat.le_trans hs.1 h.size, fun x c t fr hx => by
  have hlt := (Array.getElem?_eq_some_iff.1 hx).1
  rw [h.block x (Nat.lt_of_lt_of_le hlt hs.1) (by omega)]
  exact hs.2 x c t fr hx⟩

/-- What stands right behind the join. -/
structure VA (K N L Cc bh : Nat) (dN : Nat → Nat) (l : List UInt8) (v : World) : Prop where
  col : ∀ t, t < N → v.cell? ⟨Cc, t, none⟩ = some (.slice (some ⟨dN t, 0, none⟩) L L)
  byt : ∀ t, t < N → v.heap[dN t]? = some (.cells (u8V (colB K L l t)).toArray 5)
  ne : Cc ≠ bh
/-- Between two rounds: so many shards are written. -/
structure LA (K N C m L bh : Nat) (g : Nat → Ent) (l : List UInt8) (v0 : World) (i : Nat) (ov : Nat → Value) (v : World) : Prop where
  kx : KX bh v0 v
  sh : ∃ cur : Array Value, v.heap[bh]? = some (.cells cur 29) ∧ cur.size = N ∧ ∀ t, t < i → cur[t]? = some (ov t)
  own : ∀ t, t < i → OwnB 0 v (ov t) (shardB K N C (namesOf m g) (sizesOf m g) t (colB K L l t))
section
variable {K N C m L Cc bh : Nat} {dN : Nat → Nat} {g : Nat → Ent} {l : List UInt8} {v0 v : World} {i : Nat} {ov : Nat → Value}
theorem LA.tape (h : LA K N C m L bh g l v0 i ov v) (τ : Nat → Question → Nat) (d : Nat) : LA K N C m L bh g l v0 i ov { v with tape := τ, drawn := d } := ⟨⟨h.kx.os, h.kx.output, h.kx.size, h.kx.block⟩, h.sh, h.own⟩
theorem LA.ne (_h : LA K N C m L bh g l v0 i ov v) (hV : VA K N L Cc bh dN l v0) (hb : ∃ cur : Array Value, v0.heap[bh]? = some (.cells cur 29)) {t : Nat} (ht : t < N) : dN t ≠ bh := by
  intro e
  obtain ⟨cur, hc⟩ := hb
  have := hV.byt t ht
  rw [e, hc] at this
  cases this
theorem LA.col (h : LA K N C m L bh g l v0 i ov v) (hV : VA K N L Cc bh dN l v0) {t : Nat} (ht : t < N) : v.cell? ⟨Cc, t, none⟩ = some (.slice (some ⟨dN t, 0, none⟩) L L) := by
  have h1 := hV.col t ht
  have h2 := h.kx.block Cc (cell_lt h1) hV.ne
  simp only [World.cell?, h2] at h1 ⊢
  exact h1
theorem LA.lies (h : LA K N C m L bh g l v0 i ov v) (hV : VA K N L Cc bh dN l v0) (hb : ∃ cur : Array Value, v0.heap[bh]? = some (.cells cur 29)) {t : Nat} (ht : t < N) : Lies v (.slice (some ⟨dN t, 0, none⟩) L L) (u8V (colB K L l t)) := by
  have h1 := hV.byt t ht
  have h2 := (h.kx.block (dN t) (Array.getElem?_eq_some_iff.1 h1).1 (h.ne hV hb ht)).trans h1
  refine ⟨some ⟨dN t, 0, none⟩, L, by rw [u8V_length, colB_length], by rw [u8V_length, colB_length]; exact Nat.le_refl _, fun j x hj => ⟨dN t, 0, rfl, ?_⟩⟩
  rw [Nat.zero_add]
  simp only [World.cell?, h2]
  simpa using hj
theorem LA.kept {w : World} (h : LA K N C m L bh g l v0 i ov v) (hk : Kept v w) : LA K N C m L bh g l v0 i ov w := by
  obtain ⟨cur, h1, h2, h3⟩ := h.sh
  refine ⟨h.kx.kept hk, ⟨cur, (hk.block bh (Array.getElem?_eq_some_iff.1 h1).1).trans h1, h2, h3⟩, fun t ht => owns_keep' (h.own t ht) fun b hb => hk.block b (World.ownsRow.lt (h.own t ht) b hb).2⟩
theorem LA.store (h : LA K N C m L bh g l v0 i ov v) (hi : i < N) {y : Value} (hy : OwnB 0 v y (shardB K N C (namesOf m g) (sizesOf m g) i (colB K L l i))) : LA K N C m L bh g l v0 (i + 1) (fun t => if t = i then y else ov t) (v.setCell ⟨bh, i, none⟩ y) := by
  obtain ⟨cur, h1, h2, h3⟩ := h.sh
  have kp : ∀ {z : Value} {q : List UInt8}, OwnB 0 v z q → OwnB 0 (v.setCell ⟨bh, i, none⟩ y) z q := fun {z q} hz => owns_keep' hz fun b hb => Below.heap_setCell _ _ _ b (fun e => by
    obtain ⟨c1, f1, e1⟩ := Lib.ownsRow_kind hz b hb
    rw [show b = bh from e, h1] at e1
    cases e1)
  refine ⟨h.kx.set y, ⟨cur.setIfInBounds i y, ?_, by simp [h2], fun t ht => ?_⟩, fun t ht => ?_⟩
  · have hlt := (Array.getElem?_eq_some_iff.1 h1).1
    have hk := (Array.getElem?_eq_some_iff.1 h1).2
    show (v.heap.modify bh _)[bh]? = _
    rw [Array.getElem?_eq_getElem (by rw [Array.size_modify]; exact hlt), Array.getElem_modify_self, hk]
    rfl
  · by_cases e : t = i
    · subst e
      simp [h2, hi]
    · rw [if_neg e, Array.getElem?_setIfInBounds_ne (Ne.symm e)]
      exact h3 t (by omega)
  · by_cases e : t = i
    · subst e
      rw [if_pos rfl]
      exact kp hy
    · rw [if_neg e]
      exact kp (h.own t (by omega))
end

noncomputable def qa7 : {x : Array Oper // x = gOps (gFst aLoop)} := ⟨_, by (simp only [aLoop, aC6, aBody, gIn, gFst, gSnd, gOps, Tryd.f12, Option.getD_some]; rfl)⟩
noncomputable def aBlk : Code := gIn (gFst (gSnd (gSnd aLoop)))
noncomputable def qa8 : {x : Array Oper // x = gOps (gFst aBlk)} := ⟨_, by (simp only [aBlk, aLoop, aC6, aBody, gIn, gFst, gSnd, gOps, Tryd.f12, Option.getD_some]; rfl)⟩
noncomputable def qa9 : {x : Array Oper // x = gOps (gFst (gSnd aBlk))} := ⟨_, by (simp only [aBlk, aLoop, aC6, aBody, gIn, gFst, gSnd, gOps, Tryd.f12, Option.getD_some]; rfl)⟩
noncomputable def qa10 : {x : Array Oper // x = gOps (gSnd (gSnd aBlk))} := ⟨_, by (simp only [aBlk, aLoop, aC6, aBody, gIn, gFst, gSnd, gOps, Tryd.f12, Option.getD_some]; rfl)⟩
noncomputable def qa11 : {x : Array Oper // x = gOps (gSnd (gSnd (gSnd aLoop)))} := ⟨_, by (simp only [aLoop, aC6, aBody, gIn, gFst, gSnd, gOps, Tryd.f12, Option.getD_some]; rfl)⟩
noncomputable def qa12 : {x : Array Oper // x = gOps (gFst aRest)} := ⟨_, by (simp only [aRest, aBody, gFst, gSnd, gOps, Tryd.f12, Option.getD_some]; rfl)⟩
noncomputable def aO7 : Array Oper := qa7.1
noncomputable def aO8 : Array Oper := qa8.1
noncomputable def aO9 : Array Oper := qa9.1
noncomputable def aO10 : Array Oper := qa10.1
noncomputable def aO11 : Array Oper := qa11.1
noncomputable def aO12 : Array Oper := qa12.1
theorem aLoop_eq : aLoop = .seq (.region 7 aO7 false) (.seq (.cond (.tmp 37) .skip (.exit 0)) (.seq (.block 1 (.seq (.region 8 aO8 false) (.seq (.region 9 aO9 false) (.region 10 aO10 false)))) (.region 11 aO11 false))) := by kernel_rfl
theorem aRest_eq : aRest = .seq (.region 12 aO12 false) .ret := by kernel_rfl
theorem aO10_size : aO10.size = 7 := by kernel_rfl
def TL (pc bh Cc N : Nat) (vn vs vm : Value) (x : Int) (T : Array Value) : Prop := ∃ f : Nat → Value, T = #[f 0, f 1, f 2, .pointer (some ⟨pc, 0, none⟩), f 4, f 5, vn, vs, vm, .slice (some ⟨bh, 0, none⟩) N N, f 10, f 11, f 12, f 13, f 14, f 15, f 16, f 17, f 18, f 19, f 20, f 21, f 22, f 23, f 24, f 25, f 26, f 27, f 28, f 29, f 30, f 31, f 32, f 33, .slice (some ⟨Cc, 0, none⟩) N N, .int .i64 ((N : Nat) : Int), .int .i64 x, f 37, f 38, f 39, f 40, f 41, f 42, f 43, f 44, f 45, f 46, f 47, f 48, f 49, f 50, f 51, f 52, f 53, f 54, f 55, f 56, f 57, f 58, f 59]
theorem tl_mk {pc bh Cc N : Nat} {vn vs vm : Value} {x : Int} {T : Array Value} (h : T = #[T.getD 0 undef, T.getD 1 undef, T.getD 2 undef, .pointer (some ⟨pc, 0, none⟩), T.getD 4 undef, T.getD 5 undef, vn, vs, vm, .slice (some ⟨bh, 0, none⟩) N N, T.getD 10 undef, T.getD 11 undef, T.getD 12 undef, T.getD 13 undef, T.getD 14 undef, T.getD 15 undef, T.getD 16 undef, T.getD 17 undef, T.getD 18 undef, T.getD 19 undef, T.getD 20 undef, T.getD 21 undef, T.getD 22 undef, T.getD 23 undef, T.getD 24 undef, T.getD 25 undef, T.getD 26 undef, T.getD 27 undef, T.getD 28 undef, T.getD 29 undef, T.getD 30 undef, T.getD 31 undef, T.getD 32 undef, T.getD 33 undef, .slice (some ⟨Cc, 0, none⟩) N N, .int .i64 ((N : Nat) : Int), .int .i64 x, T.getD 37 undef, T.getD 38 undef, T.getD 39 undef, T.getD 40 undef, T.getD 41 undef, T.getD 42 undef, T.getD 43 undef, T.getD 44 undef, T.getD 45 undef, T.getD 46 undef, T.getD 47 undef, T.getD 48 undef, T.getD 49 undef, T.getD 50 undef, T.getD 51 undef, T.getD 52 undef, T.getD 53 undef, T.getD 54 undef, T.getD 55 undef, T.getD 56 undef, T.getD 57 undef, T.getD 58 undef, T.getD 59 undef]) : TL pc bh Cc N vn vs vm x T := ⟨fun i => T.getD i undef, h⟩

section
variable {X : Nat → Prop} {Y : Nat → Option Obj} {D : Nat → World → Array Event → Prop} {Stop : Goroutine → World → Prop} {cs : List Frame} {cfr : Frame}
set_option maxHeartbeats 16000000 in
set_option maxRecDepth 100000 in
theorem archLoop (hD : Dok X D) {K N C m pc gm cm bh Cc L : Nat} {dN : Nat → Nat} {bN bZ : Option Addr} {cN cZ : Nat} {g : Nat → Ent} {l : List UInt8} {u v0 : World} (hKN : 1 ≤ K ∧ K ≤ N ∧ N ≤ 128) (hC : 1 ≤ C ∧ C ≤ 65536) (hL : L ≤ 65536) (hNm : NamesOk (namesOf m g)) (hFw : FewOk (namesOf m g) (sizesOf m g))
    (par : RowAt u pc [.int .i64 ((K : Nat) : Int), .int .i64 ((N : Nat) : Int), .int .i64 ((C : Nat) : Int)] 24) (man : Byt u gm 0 (sealB (manTo (namesOf m g) (sizesOf m g) (namesOf m g).length))) (gml : gm < u.heap.size) (tab : Tab u) (hu : u.heap.size ≤ bh) (hsub : Sub u v0) (hV : VA K N L Cc bh dN l v0) (hb0 : ∃ cur : Array Value, v0.heap[bh]? = some (.cells cur 29))
    (done : ∀ v ov, LA K N C m L bh g l v0 N ov v → ∀ w, SimT X Y w v → GoesI Tryd.prog D Stop (G (cfr.finish (.tuple #[.slice (some ⟨bh, 0, none⟩) N N, .bool true])) cs) w) :
    ∀ (q i : Nat) (T : Array Value) (v : World) (ov : Nat → Value), i + q = N → TL pc bh Cc N (.slice bN m cN) (.slice bZ m cZ) (.slice (some ⟨gm, 0, none⟩) (mlen m g) cm) ((i : Nat) : Int) T → LA K N C m L bh g l v0 i ov v → ReaR Tryd.prog X Y D Stop none [] 12 (cfr :: cs) [.code aLoop, .inLoop aLoop, .inBlock 0, .code aRest] T v := by
  intro q
  induction q with
  | zero =>
    intro i T v ov hi ⟨f, hT⟩ hA
    obtain rfl : i = N := by omega
    subst hT
    have hnl : ¬ ((i : Int) < (i : Int)) := by omega
    rw [aLoop_eq]
    refine reaR_split hD (reaR_go goodF hD (by kernel_rfl) sfA fun R hR τ d => ?_)
    simp only [aO7, qa7]
    go_wp2
    change ReaR _ _ _ _ _ _ _ _ _ _ _ v
    refine reaR_split hD (reaR_cond (b := false) hD (by simp) (reaR_exit hD rfl ?_))
    rw [aRest_eq]
    refine reaR_split hD (reaR_go goodF hD (by kernel_rfl) sfA fun R hR τ d => ?_)
    simp only [aO12, qa12]
    go_wp2
    change ReaR _ _ _ _ _ _ _ _ _ _ _ v
    refine reaI_ret (a := ⟨_, []⟩) hD rfl Tryd.func12 (fun τ d => results_tmp2 (fn := Tryd.f12) (t := 4) (u := 5) rfl _ _ _) ?_
    exact done v ov hA
  | succ q ih =>
    intro i T v ov hi ⟨f, hT⟩ hA
    subst hT
    have hlt : i < N := by omega
    have hlt' : (i : Int) < (N : Int) := by omega
    rw [show [Item.code aLoop, Item.inLoop aLoop, Item.inBlock 0, Item.code aRest] = [Item.code (.seq (.region 7 aO7 false) (.seq (.cond (.tmp 37) .skip (.exit 0)) (.seq (.block 1 (.seq (.region 8 aO8 false) (.seq (.region 9 aO9 false) (.region 10 aO10 false)))) (.region 11 aO11 false)))), Item.inLoop aLoop, Item.inBlock 0, Item.code aRest] by rw [← aLoop_eq]]
    refine reaR_split hD (reaR_go goodF hD (by kernel_rfl) sfA fun R hR τ d => ?_)
    simp only [aO7, qa7]
    go_wp2
    change ReaR _ _ _ _ _ _ _ _ _ _ _ v
    refine reaR_split hD (reaR_cond (b := true) hD (by simp) (reaR_skip hD (reaR_split hD (reaR_block hD (reaR_split hD (reaR_go goodF hD (by kernel_rfl) sfA fun R hR τ d => ?_))))))
    have cC := LA.col (v := { v with tape := τ, drawn := d }) (hA.tape τ d) hV hlt
    simp only [aO8, qa8]
    go_wp2
    change ReaR _ _ _ _ _ _ _ _ _ _ _ v
    clear cC
    refine reaR_split hD (reaR_go goodF hD (by kernel_rfl) sfA fun R hR τ d => ?_)
    have hr := (hA.kx.sub hsub hu).row par
    replace hr : RowAt { v with tape := τ, drawn := d } pc [.int .i64 ((K : Nat) : Int), .int .i64 ((N : Nat) : Int), .int .i64 ((C : Nat) : Int)] 24 := hr
    have c0 := hr.cell (i := 0) rfl
    have c1 := hr.cell (i := 1) rfl
    have c2 := hr.cell (i := 2) rfl
    have hsz : ({ v with tape := τ, drawn := d } : World).heap.size = v.heap.size := rfl
    have hA1 : LA K N C m L bh g l v0 i ov (({ v with tape := τ, drawn := d } : World).alloc (.cells #[.int .i64 ((K : Nat) : Int), .int .i64 ((N : Nat) : Int), .int .i64 ((i : Nat) : Int), .int .i64 ((C : Nat) : Int), .slice bN m cN, .slice bZ m cZ, .slice (some ⟨dN i, 0, none⟩) L L] 60)) := (hA.tape τ d).kept (below_kept ((Below.refl _ _).alloc (Nat.le_refl _) _))
    have hr1 : RowAt (({ v with tape := τ, drawn := d } : World).alloc (.cells #[.int .i64 ((K : Nat) : Int), .int .i64 ((N : Nat) : Int), .int .i64 ((i : Nat) : Int), .int .i64 ((C : Nat) : Int), .slice bN m cN, .slice bZ m cZ, .slice (some ⟨dN i, 0, none⟩) L L] 60)) ({ v with tape := τ, drawn := d } : World).heap.size [.int .i64 ((K : Nat) : Int), .int .i64 ((N : Nat) : Int), .int .i64 ((i : Nat) : Int), .int .i64 ((C : Nat) : Int), .slice bN m cN, .slice bZ m cZ, .slice (some ⟨dN i, 0, none⟩) L L] 60 := RowAt.made _ _ _
    generalize ({ v with tape := τ, drawn := d } : World) = v1 at *
    simp only [aO9, qa9]
    go_wp2
    generalize v1.alloc (.cells #[.int .i64 ((K : Nat) : Int), .int .i64 ((N : Nat) : Int), .int .i64 ((i : Nat) : Int), .int .i64 ((C : Nat) : Int), .slice bN m cN, .slice bZ m cZ, .slice (some ⟨dN i, 0, none⟩) L L] 60) = v2 at *
    rw [hsz] at hr1
    clear c0 c1 c2 hr hA
    have hsub2 := hA1.kx.sub hsub hu
    refine reaR_region hD ?_
    rw [aO10_size]
    simp only [List.range, List.range.loop]
    refine reaR_op goodF hD (.slice (some ⟨bh, 0, none⟩) N N) (by simp only [aO10, qa10]; rfl) rfl (by kernel_rfl) (fun z _ => by go_simp) ?_
    walk_nrm
    refine reaR_op goodF hD (.int .i64 ((i : Nat) : Int)) (by simp only [aO10, qa10]; rfl) rfl (by kernel_rfl) (fun z _ => by go_simp) ?_
    walk_nrm
    refine reaR_op goodF hD (.agg #[.int .i64 ((K : Nat) : Int), .int .i64 ((N : Nat) : Int), .int .i64 ((i : Nat) : Int), .int .i64 ((C : Nat) : Int), .slice bN m cN, .slice bZ m cZ, .slice (some ⟨dN i, 0, none⟩) L L]) (by simp only [aO10, qa10]; rfl) rfl (by kernel_rfl) (fun z hz => by
      have hrz : RowAt z v.heap.size [.int .i64 ((K : Nat) : Int), .int .i64 ((N : Nat) : Int), .int .i64 ((i : Nat) : Int), .int .i64 ((C : Nat) : Int), .slice bN m cN, .slice bZ m cZ, .slice (some ⟨dN i, 0, none⟩) L L] 60 := by
        show z.heap[v.heap.size]? = _
        rw [hz]
        exact hr1
      have c0 := hrz.cell (i := 0) rfl
      have c1 := hrz.cell (i := 1) rfl
      have c2 := hrz.cell (i := 2) rfl
      have c3 := hrz.cell (i := 3) rfl
      have c4 := hrz.cell (i := 4) rfl
      have c5 := hrz.cell (i := 5) rfl
      have c6 := hrz.cell (i := 6) rfl
      go_simp) ?_
    walk_nrm
    refine reaR_op goodF hD (.slice (some ⟨gm, 0, none⟩) (mlen m g) cm) (by simp only [aO10, qa10]; rfl) rfl (by kernel_rfl) (fun z _ => by go_simp) ?_
    walk_nrm
    refine reaR_call hD (by simp only [aO10, qa10]; rfl) rfl (by rfl) Tryd.func23 (by kernel_rfl) (c := wBody) (by kernel_rfl) (vs := #[.agg #[.int .i64 ((K : Nat) : Int), .int .i64 ((N : Nat) : Int), .int .i64 ((i : Nat) : Int), .int .i64 ((C : Nat) : Int), .slice bN m cN, .slice bZ m cZ, .slice (some ⟨dN i, 0, none⟩) L L], .slice (some ⟨gm, 0, none⟩) (mlen m g) cm]) (n := 51) (by simp [Act.eval]) (by kernel_rfl) ?_
    have hml : (manTo (namesOf m g) (sizesOf m g) (namesOf m g).length).length ≤ 300000 := by
      have := manNto_le (namesOf m g) hNm (namesOf m g).length (Nat.le_refl _)
      have := hFw.1
      rw [manTo_len]
      omega
    have hml2 : Hid (mlen m g = (manTo (namesOf m g) (sizesOf m g) (namesOf m g).length).length + 8) := by show _ = _; unfold mlen; rw [sealB_length]
    refine layWriteI hD K N i C (by omega) (by omega) (by omega) (by omega) (by omega) (.slice bN m cN) (.slice bZ m cZ) (some ⟨dN i, 0, none⟩) L L (colB K L l i) (colB_length _ _ _ _) hL gm cm (mlen m g) _ rfl (by have := hml2.out; omega) (by have := hml2.out; omega) (hA1.lies hV hb0 hlt) (hsub2.byt man) (Nat.lt_of_lt_of_le gml hsub2.1) (hsub2.tab tab) fun y v3 hO3 hK3 => ?_
    have hbytes : OwnB 0 v3 y (shardB K N C (namesOf m g) (sizesOf m g) i (colB K L l i)) := by
      unfold shardB
      rw [colB_length]
      rw [hml2.out, Nat.add_sub_cancel] at hO3
      exact hO3.base' (Nat.zero_le _)
    have hA3 := hA1.kept hK3
    rw [Dn_finish (by simp only [aO10, qa10]; rfl)]
    show ReaR _ _ _ _ _ _ _ _ _ _ _ _
    walk_nrm
    have hA4 := hA3.store hlt hbytes
    obtain ⟨cur, hs1, hs2, _⟩ := hA3.sh
    have hin : (i : Nat) < N := hlt
    refine reaR_op goodF hD (.pointer (some ⟨bh, i, none⟩)) (by simp only [aO10, qa10]; rfl) rfl (by kernel_rfl) (fun z _ => by go_simp) ?_
    walk_nrm
    obtain ⟨xo, co, rfl⟩ := owns_form hbytes
    refine reaR_store (a := ⟨bh, i, none⟩) (u := .slice xo (shardB K N C (namesOf m g) (sizesOf m g) i (colB K L l i)).length co) goodF hD (by simp only [aO10, qa10]; rfl) rfl (by kernel_rfl) rfl (fun z hz => by
      have e1 : z.heap[bh]? = some (.cells cur 29) := by rw [hz]; exact hs1
      obtain ⟨old, hold⟩ : ∃ old, cur[i]? = some old := ⟨cur[i]'(by omega), Array.getElem?_eq_getElem (by omega)⟩
      have c0 : z.cell? ⟨bh, i, none⟩ = some old := cell_of_block e1 hold
      have f0 : z.frozen? ⟨bh, i, none⟩ = false := by simp [World.frozen?, e1]
      go_simp) ?_
    refine reaR_endReg hD (reaR_inBlock hD (reaR_go goodF hD (by kernel_rfl) sfA fun R hR τ d => ?_))
    simp only [aO11, qa11]
    go_wp2
    refine reaR_inLoop hD (ih (i + 1) _ _ _ (by omega) ?_ (hA4.tape τ d))
    rw [Int.natCast_add]
    exact tl_mk rfl
end
end Go.Proofs.YtkpcmfgeanlcnabDoor
