/-
  The statement calls encoded, encoded calls Encode, Encode the one within: alone.
-/
import Derived.Test.YtkpcmfgeanlcnabGreatDoorEnV
import Derived.Test.YtkpcmfgeanlcnabGreatDoorEnB
import Derived.Test.YtkpcmfgeanlcnabGreatDoorEnK
namespace Go.Proofs.YtkpcmfgeanlcnabGreatDoor
open Go.RowKit Go.Deep Go.Lf Go.Conc Go.Hp
noncomputable def enBody:Code:=Tryz.f9.body.getD .skip
noncomputable def enC:Code:=gSnd (gSnd (gSnd (gSnd enBody)))
noncomputable def qen:{y:Array Oper // y=gOps (gFst enC)}:=⟨_,by (simp only [enC,enBody,gFst,gSnd,gOps,Tryz.f9,Option.getD_some];rfl)⟩
noncomputable def enO:Array Oper:=qen.1
noncomputable def enD:Code:=gSnd enC
theorem enC_eq:enC = .seq (.region 6 enO false) enD:=by kernel_rfl
theorem enO_size:enO.size=8:=by kernel_rfl
theorem sfen:∃ fn,Tryz.prog.funcs[9]? = some fn:=⟨_,Tryz.func9⟩
noncomputable def frameen (T:Array Value):Frame:=(base 9).at ⟨T,[]⟩ (.inRegion enO [2,3,4,5,6,7] :: [.code enD])
def T28 (T:Array Value):Prop:=∃ f:Nat→Value,T = #[f 0,f 1,f 2,f 3,f 4,f 5,f 6,f 7,f 8,f 9,f 10,f 11,f 12,f 13,f 14,f 15,f 16,f 17,f 18,f 19,f 20,f 21,f 22,f 23,f 24,f 25,f 26,f 27]
theorem t28_mk {T:Array Value} (h:T = #[T.getD 0 undef,T.getD 1 undef,T.getD 2 undef,T.getD 3 undef,T.getD 4 undef,T.getD 5 undef,T.getD 6 undef,T.getD 7 undef,T.getD 8 undef,T.getD 9 undef,T.getD 10 undef,T.getD 11 undef,T.getD 12 undef,T.getD 13 undef,T.getD 14 undef,T.getD 15 undef,T.getD 16 undef,T.getD 17 undef,T.getD 18 undef,T.getD 19 undef,T.getD 20 undef,T.getD 21 undef,T.getD 22 undef,T.getD 23 undef,T.getD 24 undef,T.getD 25 undef,T.getD 26 undef,T.getD 27 undef]):T28 T:=⟨fun i=>T.getD i undef,h⟩
section
variable {X:Nat→Prop} {Y:Nat→Option Obj} {D:Nat→World→Array Event→Prop} {Stop:Goroutine→World→Prop} {w:World} {K N C m cap:Nat} {bo:Option Addr} {f:Nat→Ent} {d:Ent→List UInt8}
set_option maxHeartbeats 8000000 in
set_option maxRecDepth 100000 in
theorem to_arch (hDk:Dok X D) {cs:List Frame} (hA:Args w bo m cap f d) (hP:ParamsOk (K:Int) (N:Int) (C:Int)) (hNf:NamesFit m f)
    (hnext:∀ (T:Array Value) (g:Nat→Ent) (bo2:Option Addr) (cap2:Nat) (w':World),T28 T→Rearr m f g→(∀ i,i+1 < m→Hp.lt (g i).k (g (i+1)).k=true)→BC w' bo2 m g→Bel w.heap.size w w' → ReaI Tryz.prog X Y D Stop 20 (frameen T :: cs) [.code aBody] ⟨#[.slice bo2 m cap2,.agg #[.int .i64 ((K:Nat):Int),.int .i64 ((N:Nat):Int),.int .i64 ((C:Nat):Int)]]++Array.replicate 58 undef,[]⟩ w') :
    ReaI Tryz.prog X Y D Stop 9 cs [.code enBody] ⟨#[.slice bo m cap,.agg #[.int .i64 ((K:Nat):Int),.int .i64 ((N:Nat):Int),.int .i64 ((C:Nat):Int)]]++Array.replicate 26 undef,[]⟩ w:=by
  have H1:Hid (ParamsOk (K:Int) (N:Int) (C:Int)):=hP
  have H2:Hid (NamesFit m f):=hNf
  have eB:enBody = .seq (gFst enBody) (.seq (gFst (gSnd enBody)) (.seq (gFst (gSnd (gSnd enBody))) (.seq (gFst (gSnd (gSnd (gSnd enBody)))) enC))):=by kernel_rfl
  rw [eB]
  simp only [Array.replicate_succ,Array.replicate_zero,List.push_toArray,List.append_toArray,List.nil_append,List.cons_append]
  refine reachI_go goodF hDk (by kernel_rfl) rfl sfen fun R hR τ d' => ?_
  have hzB:w.heap.size≤({ w with tape:=τ,drawn:=d' }:World).heap.size:=Nat.le_refl _
  have bl:Bel w.heap.size w { w with tape:=τ,drawn:=d' }:=(Bel.refl _ w).tp τ d'
  generalize ({ w with tape:=τ,drawn:=d' }:World)=wA at hzB bl ⊢
  have hr0:RowAt (wA.alloc (.cells #[.int .i64 ((K:Nat):Int),.int .i64 ((N:Nat):Int),.int .i64 ((C:Nat):Int)] 24)) wA.heap.size [.int .i64 ((K:Nat):Int),.int .i64 ((N:Nat):Int),.int .i64 ((C:Nat):Int)] 24:=RowAt.made wA [.int .i64 ((K:Nat):Int),.int .i64 ((N:Nat):Int),.int .i64 ((C:Nat):Int)] 24
  have hb0:=(Below.refl wA.heap.size wA).alloc (Nat.le_refl _) (.cells #[.int .i64 ((K:Nat):Int),.int .i64 ((N:Nat):Int),.int .i64 ((C:Nat):Int)] 24)
  replace bl:=bl.trans (Bel.of hb0) hzB
  simp only [gFst,enBody,Tryz.f9,Option.getD_some]
  go_wp2
  generalize wA.alloc (.cells #[.int .i64 ((K:Nat):Int),.int .i64 ((N:Nat):Int),.int .i64 ((C:Nat):Int)] 24)=w0 at hr0 bl ⊢
  generalize wA.heap.size=pc at *
  clear hb0
  refine reachI_go goodF hDk (by kernel_rfl) rfl sfen fun R hR τ d' => ?_
  replace hr0:RowAt ({ w0 with tape:=τ,drawn:=d' }:World) pc [.int .i64 ((K:Nat):Int),.int .i64 ((N:Nat):Int),.int .i64 ((C:Nat):Int)] 24:=hr0
  replace bl:=bl.tp τ d'
  generalize ({ w0 with tape:=τ,drawn:=d' }:World)=w0 at hr0 bl ⊢
  have c0:=hr0.cell (i:=0) rfl
  have c1:=hr0.cell (i:=1) rfl
  have c2:=hr0.cell (i:=2) rfl
  have kp:=paramsFit_any (K:Int) (N:Int) (C:Int) w0
  simp only [gFst,gSnd,enBody,Tryz.f9,Option.getD_some]
  go_wp2_with (first | (go_at_call 18;(with_reducible refine kp.mono ?_);rintro r w1 ⟨hb1,ht⟩;obtain rfl:=ht.yes H1.out))
  clear kp c0 c1 c2
  have hr1:=hr0.later (S:=fun _=>False) (.of_below hb1) hr0.lt id
  have bl1:=bl.trans (Bel.of hb1) bl.size'
  clear hb1 hr0 bl
  refine reachI_go goodF hDk (by kernel_rfl) rfl sfen fun R hR τ d' => ?_
  replace hr1:RowAt ({ w1 with tape:=τ,drawn:=d' }:World) pc [.int .i64 ((K:Nat):Int),.int .i64 ((N:Nat):Int),.int .i64 ((C:Nat):Int)] 24:=hr1
  replace bl1:=bl1.tp τ d'
  generalize ({ w1 with tape:=τ,drawn:=d' }:World)=w1 at hr1 bl1 ⊢
  have kb:=byName_any m cap bo f w1 hA.hm hA.hk (hA.bc.bel bl1 (Nat.le_refl _))
  simp only [gFst,gSnd,enBody,Tryz.f9,Option.getD_some]
  go_wp2_with (first | (go_at_call 19;(with_reducible refine kb.mono ?_);rintro r w2 ⟨hb2,hor⟩;obtain ⟨g,v2,rfl,hR2,hlt2,ho2⟩:∃ f' v,r = .returned (.tuple #[v,.bool true])∧Rearr m f f' ∧ (∀ i,i+1 < m→Hp.lt (f' i).k (f' (i+1)).k=true)∧w2.ownsRow w1.heap.size 42 2 v m (blobL m f'):=(by rcases hor with ⟨h,_⟩ | ⟨_,h⟩;exact absurd H2.out h;exact h)))
  clear kb
  obtain ⟨bo2,cap2,rfl,_,_,hB2⟩:=BC.of_owns ho2
  have hr2:=hr1.later (S:=fun _=>False) (.of_below hb2) hr1.lt id
  have bl2:=bl1.trans (Bel.of hb2) bl1.size'
  clear hb2 hr1 bl1 ho2
  refine reachI_go goodF hDk (by kernel_rfl) rfl sfen fun R hR τ d' => ?_
  replace hr2:RowAt ({ w2 with tape:=τ,drawn:=d' }:World) pc [.int .i64 ((K:Nat):Int),.int .i64 ((N:Nat):Int),.int .i64 ((C:Nat):Int)] 24:=hr2
  replace bl2:=bl2.tp τ d'
  replace hB2:=hB2.bel ((Bel.refl w2.heap.size w2).tp τ d') (Nat.le_refl _)
  generalize ({ w2 with tape:=τ,drawn:=d' }:World)=w2 at hr2 bl2 hB2 ⊢
  simp only [gFst,gSnd,enBody,Tryz.f9,Option.getD_some]
  go_wp2
  have c0:=hr2.cell (i:=0) rfl
  have c1:=hr2.cell (i:=1) rfl
  have c2:=hr2.cell (i:=2) rfl
  rw [enC_eq]
  refine reachI_split hDk rfl (reaI_region hDk ?_)
  rw [enO_size]
  simp only [List.range,List.range.loop]
  refine reaR_op goodF hDk (.slice bo2 m cap2) (by simp only [enO,qen];rfl) rfl (by kernel_rfl) (fun z _=>by go_simp) ?_
  walk_nrm
  refine reaR_op goodF hDk (.agg #[.int .i64 ((K:Nat):Int),.int .i64 ((N:Nat):Int),.int .i64 ((C:Nat):Int)]) (by simp only [enO,qen];rfl) rfl (by kernel_rfl) (fun z hz=>by
    have e:∀ a,z.cell? a=w2.cell? a:=fun a=>by simp only [World.cell?,hz]
    rw [← e] at c0 c1 c2
    go_simp) ?_
  walk_nrm
  refine reaR_call hDk (by simp only [enO,qen];rfl) rfl (by rfl) Tryz.func20 (by kernel_rfl) (c:=aBody) (by kernel_rfl) (vs:=#[.slice bo2 m cap2,.agg #[.int .i64 ((K:Nat):Int),.int .i64 ((N:Nat):Int),.int .i64 ((C:Nat):Int)]]) (n:=58) (by simp [Act.eval]) (by kernel_rfl) ?_
  unfold frameen at hnext
  exact hnext _ g bo2 cap2 w2 (t28_mk rfl) hR2 hlt2 hB2 bl2
end
end Go.Proofs.YtkpcmfgeanlcnabGreatDoor
namespace Go.Proofs.YtkpcmfgeanlcnabGreatDoor
open Go.RowKit Go.Deep Go.Hp
theorem zip_range (a:Nat→Nat) (b:Nat→List Nat) (n:Nat):((List.range n).map a).zip ((List.range n).map b)=(List.range n).map fun j=>(a j,b j):=by
  rw [List.zip_map']
theorem rec_dotN (r x:Nat→Nat) (hr:∀ j,r j < 256) (hx:∀ j,x j < 256):∀ n,Nat.rec (motive:=fun _=>Nat) 0 (fun j s=>s ^^^ mul (x j) (r j)) n=dotN r x n
  | 0=>rfl
  | n+1=>by
    show _ ^^^ _=dotN r x n ^^^ mul (r n) (x n)
    rw [rec_dotN r x hr hx n,mul_comm (hx n) (hr n)]
theorem res_eq (k L:Nat) (l:List UInt8) (bk bd P F ba:Nat) (h0:Nat→Option Obj) (t:Nat):(envK k L l bk bd P F ba h0).res k L t=(List.range L).map fun m=>dotN (rowV k t) (fun j=>xAt l L j m) k:=by
  have hz:zsOf ((List.range k).map (rowV k t)) (envK k L l bk bd P F ba h0).cs=(List.range k).map fun j=>(rowV k t j,(List.range L).map fun m=>bAt l (j*L+m)):=by
    unfold zsOf envK
    simp only [List.map_map]
    exact zip_range _ _ _
  have hlen:((envK k L l bk bd P F ba h0).res k L t).length=L:=by
    unfold EnvC.res
    rw [comb_length]
    simp
  apply List.ext_getElem?
  intro m
  by_cases hm:m < L
  · have key:=comb_get (rowV k t) (fun j=>(List.range L).map fun m=>bAt l (j*L+m)) L m hm (fun j=>by simp) k
    rw [← hz] at key
    have e:∀ j,((List.range L).map fun m=>bAt l (j*L+m)).getD m 0=xAt l L j m:=fun j=>by
      simp [List.getD_eq_getElem?_getD,hm,xAt]
    simp only [e] at key
    rw [rec_dotN (rowV k t) (fun j=>xAt l L j m) (fun _=>rowV_lt) (fun j=>bAt_lt _ _)] at key
    have h1:((envK k L l bk bd P F ba h0).res k L t).getD m 0=dotN (rowV k t) (fun j=>xAt l L j m) k:=key
    rw [List.getD_eq_getElem?_getD] at h1
    rw [List.getElem?_eq_getElem (by rw [hlen];exact hm)] at h1 ⊢
    simp only [Option.getD_some] at h1
    rw [h1]
    simp [hm]
  · rw [List.getElem?_eq_none (by rw [hlen];omega),List.getElem?_eq_none (by simp;omega)]
end Go.Proofs.YtkpcmfgeanlcnabGreatDoor
namespace Go.Proofs.YtkpcmfgeanlcnabGreatDoor
open Go.RowKit Go.Deep Go.Lf Go.Conc Go.Hp
def Sub (u v:World):Prop:=u.heap.size≤v.heap.size∧∀ (b:Nat) (c:Array Value) (t:TypeId) (fr:Nat×Nat),u.heap[b]? = some (.cells c t fr)→v.heap[b]? = some (.cells c t fr)
section
variable {u v:World}
theorem Sub.cell (h:Sub u v) {b o:Nat} {x:Value} (hc:u.cell? ⟨b,o,none⟩=some x):v.cell? ⟨b,o,none⟩=some x:=by
  have h':=hc
  unfold World.cell? at h'
  cases e:u.heap[b]? with
  | none=>simp only [e] at h';cases h'
  | some y=>
    cases y with
    | cells c t fr=>
      have:=h.2 b c t fr e
      simp only [World.cell?,e] at hc
      simp only [World.cell?,this]
      exact hc
    | _=>simp only [e] at h';cases h'
theorem Sub.row (h:Sub u v) {b:Nat} {cs:List Value} {t:TypeId} (hr:RowAt u b cs t):RowAt v b cs t:=h.2 _ _ _ _ hr
theorem Sub.lies (h:Sub u v) {x:Value} {xs:List Value} (hl:Lies u x xs):Lies v x xs:=by
  obtain ⟨ba,cap,e,h1,h2⟩:=hl
  exact ⟨ba,cap,e,h1,fun j y hj=>by
    obtain ⟨b,off,h3,h4⟩:=h2 j y hj
    exact ⟨b,off,h3,h.cell h4⟩⟩
theorem Sub.byt (h:Sub u v) {b o:Nat} {l:List UInt8} (hb:Byt u b o l):Byt v b o l:=fun j hj=>h.cell (hb j hj)
theorem Sub.tab (h:Sub u v) (ht:Tab u):Tab v:=⟨Nat.lt_of_lt_of_le ht.1 h.1,fun i hi=>h.cell (ht.2 i hi)⟩
theorem Sub.args {bo:Option Addr} {m cap:Nat} {f:Nat→Ent} {d:Ent→List UInt8} (h:Sub u v) (ha:Args u bo m cap f d):Args v bo m cap f d:=
  ⟨ha.hm,ha.hcap,ha.hbo,ha.hk,ha.hl,ha.bc.up h.1 h.cell,fun i hi=>(ha.dat i hi).grow h.1 h.cell⟩
end
structure KX (bh:Nat) (a b:World):Prop where
  os:b.os=a.os
  output:b.output=a.output
  size:a.heap.size≤b.heap.size
  block:∀ x,x < a.heap.size→x≠bh→b.heap[x]? = a.heap[x]?
theorem KX.refl (bh:Nat) (a:World):KX bh a a:=⟨rfl,rfl,Nat.le_refl _,fun _ _ _=>rfl⟩
theorem KX.kept {bh:Nat} {a b c:World} (h:KX bh a b) (h':Kept b c):KX bh a c:=⟨h'.os.trans h.os,h'.output.trans h.output,Nat.le_trans h.size h'.size,fun x hx hn=>(h'.block x (Nat.lt_of_lt_of_le hx h.size)).trans (h.block x hx hn)⟩
theorem KX.set {bh i:Nat} {a b:World} (h:KX bh a b) (y:Value):KX bh a (b.setCell ⟨bh,i,none⟩ y):=⟨h.os,h.output,by rw [World.size_setCell];exact h.size,fun x hx hn=>(Below.heap_setCell _ _ _ x hn).trans (h.block x hx hn)⟩
theorem KX.sub {bh:Nat} {u a b:World} (h:KX bh a b) (hs:Sub u a) (hu:u.heap.size≤bh):Sub u b:=⟨Nat.le_trans hs.1 h.size,fun x c t fr hx=>by
  have hlt:=(Array.getElem?_eq_some_iff.1 hx).1
  rw [h.block x (Nat.lt_of_lt_of_le hlt hs.1) (by omega)]
  exact hs.2 x c t fr hx⟩
structure VA (K N L Cc bh:Nat) (dN:Nat→Nat) (l:List UInt8) (v:World):Prop where
  col:∀ t,t < N→v.cell? ⟨Cc,t,none⟩=some (.slice (some ⟨dN t,0,none⟩) L L)
  byt:∀ t,t < N→v.heap[dN t]? = some (.cells (u8V (colB K L l t)).toArray 5)
  ne:Cc≠bh
structure LA (K N C m L bh:Nat) (g:Nat→Ent) (l:List UInt8) (v0:World) (i:Nat) (ov:Nat→Value) (v:World):Prop where
  kx:KX bh v0 v
  sh:∃ cur:Array Value,v.heap[bh]? = some (.cells cur 33)∧cur.size=N∧∀ t,t < i→cur[t]? = some (ov t)
  own:∀ t,t < i→OwnB 0 v (ov t) (shardB K N C (namesOf m g) (sizesOf m g) t (colB K L l t))
section
variable {K N C m L Cc bh:Nat} {dN:Nat→Nat} {g:Nat→Ent} {l:List UInt8} {v0 v:World} {i:Nat} {ov:Nat→Value}
theorem LA.tape (h:LA K N C m L bh g l v0 i ov v) (τ:Nat→Question→Nat) (d:Nat):LA K N C m L bh g l v0 i ov { v with tape:=τ,drawn:=d }:=⟨⟨h.kx.os,h.kx.output,h.kx.size,h.kx.block⟩,h.sh,h.own⟩
theorem LA.ne (_h:LA K N C m L bh g l v0 i ov v) (hV:VA K N L Cc bh dN l v0) (hb:∃ cur:Array Value,v0.heap[bh]? = some (.cells cur 33)) {t:Nat} (ht:t < N):dN t≠bh:=by
  intro e
  obtain ⟨cur,hc⟩:=hb
  have:=hV.byt t ht
  rw [e,hc] at this
  cases this
theorem LA.col (h:LA K N C m L bh g l v0 i ov v) (hV:VA K N L Cc bh dN l v0) {t:Nat} (ht:t < N):v.cell? ⟨Cc,t,none⟩=some (.slice (some ⟨dN t,0,none⟩) L L):=by
  have h1:=hV.col t ht
  have h2:=h.kx.block Cc (cell_lt h1) hV.ne
  simp only [World.cell?,h2] at h1 ⊢
  exact h1
theorem LA.lies (h:LA K N C m L bh g l v0 i ov v) (hV:VA K N L Cc bh dN l v0) (hb:∃ cur:Array Value,v0.heap[bh]? = some (.cells cur 33)) {t:Nat} (ht:t < N):Lies v (.slice (some ⟨dN t,0,none⟩) L L) (u8V (colB K L l t)):=by
  have h1:=hV.byt t ht
  have h2:=(h.kx.block (dN t) (Array.getElem?_eq_some_iff.1 h1).1 (h.ne hV hb ht)).trans h1
  refine ⟨some ⟨dN t,0,none⟩,L,by rw [u8V_length,colB_length],by rw [u8V_length,colB_length];exact Nat.le_refl _,fun j x hj=>⟨dN t,0,rfl,?_⟩⟩
  rw [Nat.zero_add]
  simp only [World.cell?,h2]
  simpa using hj
theorem LA.kept {w:World} (h:LA K N C m L bh g l v0 i ov v) (hk:Kept v w):LA K N C m L bh g l v0 i ov w:=by
  obtain ⟨cur,h1,h2,h3⟩:=h.sh
  refine ⟨h.kx.kept hk,⟨cur,(hk.block bh (Array.getElem?_eq_some_iff.1 h1).1).trans h1,h2,h3⟩,fun t ht=>owns_keep' (h.own t ht) fun b hb=>hk.block b (World.ownsRow.lt (h.own t ht) b hb).2⟩
theorem LA.store (h:LA K N C m L bh g l v0 i ov v) (hi:i < N) {y:Value} (hy:OwnB 0 v y (shardB K N C (namesOf m g) (sizesOf m g) i (colB K L l i))):LA K N C m L bh g l v0 (i+1) (fun t=>if t=i then y else ov t) (v.setCell ⟨bh,i,none⟩ y):=by
  obtain ⟨cur,h1,h2,h3⟩:=h.sh
  have kp:∀ {z:Value} {q:List UInt8},OwnB 0 v z q→OwnB 0 (v.setCell ⟨bh,i,none⟩ y) z q:=fun {z q} hz=>owns_keep' hz fun b hb=>Below.heap_setCell _ _ _ b (fun e=>by
    obtain ⟨c1,f1,e1⟩:=Lib.ownsRow_kind hz b hb
    rw [show b=bh from e,h1] at e1
    cases e1)
  refine ⟨h.kx.set y,⟨cur.setIfInBounds i y,?_,by simp [h2],fun t ht => ?_⟩,fun t ht => ?_⟩
  · have hlt:=(Array.getElem?_eq_some_iff.1 h1).1
    have hk:=(Array.getElem?_eq_some_iff.1 h1).2
    show (v.heap.modify bh _)[bh]? = _
    rw [Array.getElem?_eq_getElem (by rw [Array.size_modify];exact hlt),Array.getElem_modify_self,hk]
    rfl
  · by_cases e:t=i
    · subst e
      simp [h2,hi]
    · rw [if_neg e,Array.getElem?_setIfInBounds_ne (Ne.symm e)]
      exact h3 t (by omega)
  · by_cases e:t=i
    · subst e
      rw [if_pos rfl]
      exact kp hy
    · rw [if_neg e]
      exact kp (h.own t (by omega))
end
noncomputable def qa7:{x:Array Oper // x=gOps (gFst aLoop)}:=⟨_,by (simp only [aLoop,aC6,aBody,gIn,gFst,gSnd,gOps,Tryz.f20,Option.getD_some];rfl)⟩
noncomputable def aBlk:Code:=gIn (gFst (gSnd (gSnd aLoop)))
noncomputable def qa8:{x:Array Oper // x=gOps (gFst aBlk)}:=⟨_,by (simp only [aBlk,aLoop,aC6,aBody,gIn,gFst,gSnd,gOps,Tryz.f20,Option.getD_some];rfl)⟩
noncomputable def qa9:{x:Array Oper // x=gOps (gFst (gSnd aBlk))}:=⟨_,by (simp only [aBlk,aLoop,aC6,aBody,gIn,gFst,gSnd,gOps,Tryz.f20,Option.getD_some];rfl)⟩
noncomputable def qa10:{x:Array Oper // x=gOps (gSnd (gSnd aBlk))}:=⟨_,by (simp only [aBlk,aLoop,aC6,aBody,gIn,gFst,gSnd,gOps,Tryz.f20,Option.getD_some];rfl)⟩
noncomputable def qa11:{x:Array Oper // x=gOps (gSnd (gSnd (gSnd aLoop)))}:=⟨_,by (simp only [aLoop,aC6,aBody,gIn,gFst,gSnd,gOps,Tryz.f20,Option.getD_some];rfl)⟩
noncomputable def qa12:{x:Array Oper // x=gOps (gFst aRest)}:=⟨_,by (simp only [aRest,aBody,gFst,gSnd,gOps,Tryz.f20,Option.getD_some];rfl)⟩
noncomputable def aO7:Array Oper:=qa7.1
noncomputable def aO8:Array Oper:=qa8.1
noncomputable def aO9:Array Oper:=qa9.1
noncomputable def aO10:Array Oper:=qa10.1
noncomputable def aO11:Array Oper:=qa11.1
noncomputable def aO12:Array Oper:=qa12.1
theorem aLoop_eq:aLoop = .seq (.region 7 aO7 false) (.seq (.cond (.tmp 37) .skip (.exit 0)) (.seq (.block 1 (.seq (.region 8 aO8 false) (.seq (.region 9 aO9 false) (.region 10 aO10 false)))) (.region 11 aO11 false))):=by kernel_rfl
theorem aRest_eq:aRest = .seq (.region 12 aO12 false) .ret:=by kernel_rfl
theorem aO10_size:aO10.size=7:=by kernel_rfl
def TL (pc bh Cc N:Nat) (vn vs vm:Value) (x:Int) (T:Array Value):Prop:=∃ f:Nat→Value,T = #[f 0,f 1,f 2,.pointer (some ⟨pc,0,none⟩),f 4,f 5,vn,vs,vm,.slice (some ⟨bh,0,none⟩) N N,f 10,f 11,f 12,f 13,f 14,f 15,f 16,f 17,f 18,f 19,f 20,f 21,f 22,f 23,f 24,f 25,f 26,f 27,f 28,f 29,f 30,f 31,f 32,f 33,.slice (some ⟨Cc,0,none⟩) N N,.int .i64 ((N:Nat):Int),.int .i64 x,f 37,f 38,f 39,f 40,f 41,f 42,f 43,f 44,f 45,f 46,f 47,f 48,f 49,f 50,f 51,f 52,f 53,f 54,f 55,f 56,f 57,f 58,f 59]
theorem tl_mk {pc bh Cc N:Nat} {vn vs vm:Value} {x:Int} {T:Array Value} (h:T = #[T.getD 0 undef,T.getD 1 undef,T.getD 2 undef,.pointer (some ⟨pc,0,none⟩),T.getD 4 undef,T.getD 5 undef,vn,vs,vm,.slice (some ⟨bh,0,none⟩) N N,T.getD 10 undef,T.getD 11 undef,T.getD 12 undef,T.getD 13 undef,T.getD 14 undef,T.getD 15 undef,T.getD 16 undef,T.getD 17 undef,T.getD 18 undef,T.getD 19 undef,T.getD 20 undef,T.getD 21 undef,T.getD 22 undef,T.getD 23 undef,T.getD 24 undef,T.getD 25 undef,T.getD 26 undef,T.getD 27 undef,T.getD 28 undef,T.getD 29 undef,T.getD 30 undef,T.getD 31 undef,T.getD 32 undef,T.getD 33 undef,.slice (some ⟨Cc,0,none⟩) N N,.int .i64 ((N:Nat):Int),.int .i64 x,T.getD 37 undef,T.getD 38 undef,T.getD 39 undef,T.getD 40 undef,T.getD 41 undef,T.getD 42 undef,T.getD 43 undef,T.getD 44 undef,T.getD 45 undef,T.getD 46 undef,T.getD 47 undef,T.getD 48 undef,T.getD 49 undef,T.getD 50 undef,T.getD 51 undef,T.getD 52 undef,T.getD 53 undef,T.getD 54 undef,T.getD 55 undef,T.getD 56 undef,T.getD 57 undef,T.getD 58 undef,T.getD 59 undef]):TL pc bh Cc N vn vs vm x T:=⟨fun i=>T.getD i undef,h⟩
section
variable {X:Nat→Prop} {Y:Nat→Option Obj} {D:Nat→World→Array Event→Prop} {Stop:Goroutine→World→Prop} {cs:List Frame} {cfr:Frame}
set_option maxHeartbeats 16000000 in
set_option maxRecDepth 100000 in
theorem archLoop (hD:Dok X D) {K N C m pc gm cm bh Cc L:Nat} {dN:Nat→Nat} {bN bZ:Option Addr} {cN cZ:Nat} {g:Nat→Ent} {l:List UInt8} {u v0:World} (hKN:1≤K∧K≤N∧N≤128) (hC:1≤C∧C≤65536) (hL:L≤65536) (hNm:NamesOk (namesOf m g)) (hFw:FewOk (namesOf m g) (sizesOf m g))
    (par:RowAt u pc [.int .i64 ((K:Nat):Int),.int .i64 ((N:Nat):Int),.int .i64 ((C:Nat):Int)] 24) (man:Byt u gm 0 (sealB (manTo (namesOf m g) (sizesOf m g) (namesOf m g).length))) (gml:gm < u.heap.size) (tab:Tab u) (hu:u.heap.size≤bh) (hsub:Sub u v0) (hV:VA K N L Cc bh dN l v0) (hb0:∃ cur:Array Value,v0.heap[bh]? = some (.cells cur 33))
    (done:∀ v ov,LA K N C m L bh g l v0 N ov v→∀ w,SimT X Y w v→GoesI Tryz.prog D Stop (G (cfr.finish (.tuple #[.slice (some ⟨bh,0,none⟩) N N,.bool true])) cs) w) :
    ∀ (q i:Nat) (T:Array Value) (v:World) (ov:Nat→Value),i+q=N→TL pc bh Cc N (.slice bN m cN) (.slice bZ m cZ) (.slice (some ⟨gm,0,none⟩) (mlen m g) cm) ((i:Nat):Int) T→LA K N C m L bh g l v0 i ov v→ReaR Tryz.prog X Y D Stop none [] 20 (cfr :: cs) [.code aLoop,.inLoop aLoop,.inBlock 0,.code aRest] T v:=by
  intro q
  induction q with
  | zero=>
    intro i T v ov hi ⟨f,hT⟩ hA
    obtain rfl:i=N:=by omega
    subst hT
    have hnl:¬ ((i:Int) < (i:Int)):=by omega
    rw [aLoop_eq]
    refine reaR_split hD (reaR_go goodF hD (by kernel_rfl) sfA fun R hR τ d => ?_)
    simp only [aO7,qa7]
    go_wp2
    change ReaR _ _ _ _ _ _ _ _ _ _ _ v
    refine reaR_split hD (reaR_cond (b:=false) hD (by simp) (reaR_exit hD rfl ?_))
    rw [aRest_eq]
    refine reaR_split hD (reaR_go goodF hD (by kernel_rfl) sfA fun R hR τ d => ?_)
    simp only [aO12,qa12]
    go_wp2
    change ReaR _ _ _ _ _ _ _ _ _ _ _ v
    refine reaI_ret (a:=⟨_,[]⟩) hD rfl Tryz.func20 (fun τ d=>results_tmp2 (fn:=Tryz.f20) (t:=4) (u:=5) rfl _ _ _) ?_
    exact done v ov hA
  | succ q ih=>
    intro i T v ov hi ⟨f,hT⟩ hA
    subst hT
    have hlt:i < N:=by omega
    have hlt':(i:Int) < (N:Int):=by omega
    rw [show [Item.code aLoop,Item.inLoop aLoop,Item.inBlock 0,Item.code aRest]=[Item.code (.seq (.region 7 aO7 false) (.seq (.cond (.tmp 37) .skip (.exit 0)) (.seq (.block 1 (.seq (.region 8 aO8 false) (.seq (.region 9 aO9 false) (.region 10 aO10 false)))) (.region 11 aO11 false)))),Item.inLoop aLoop,Item.inBlock 0,Item.code aRest] by rw [← aLoop_eq]]
    refine reaR_split hD (reaR_go goodF hD (by kernel_rfl) sfA fun R hR τ d => ?_)
    simp only [aO7,qa7]
    go_wp2
    change ReaR _ _ _ _ _ _ _ _ _ _ _ v
    refine reaR_split hD (reaR_cond (b:=true) hD (by simp) (reaR_skip hD (reaR_split hD (reaR_block hD (reaR_split hD (reaR_go goodF hD (by kernel_rfl) sfA fun R hR τ d => ?_))))))
    have cC:=LA.col (v:={ v with tape:=τ,drawn:=d }) (hA.tape τ d) hV hlt
    simp only [aO8,qa8]
    go_wp2
    change ReaR _ _ _ _ _ _ _ _ _ _ _ v
    clear cC
    refine reaR_split hD (reaR_go goodF hD (by kernel_rfl) sfA fun R hR τ d => ?_)
    have hr:=(hA.kx.sub hsub hu).row par
    replace hr:RowAt { v with tape:=τ,drawn:=d } pc [.int .i64 ((K:Nat):Int),.int .i64 ((N:Nat):Int),.int .i64 ((C:Nat):Int)] 24:=hr
    have c0:=hr.cell (i:=0) rfl
    have c1:=hr.cell (i:=1) rfl
    have c2:=hr.cell (i:=2) rfl
    have hsz:({ v with tape:=τ,drawn:=d }:World).heap.size=v.heap.size:=rfl
    have hA1:LA K N C m L bh g l v0 i ov (({ v with tape:=τ,drawn:=d }:World).alloc (.cells #[.int .i64 ((K:Nat):Int),.int .i64 ((N:Nat):Int),.int .i64 ((i:Nat):Int),.int .i64 ((C:Nat):Int),.slice bN m cN,.slice bZ m cZ,.slice (some ⟨dN i,0,none⟩) L L] 36)):=(hA.tape τ d).kept (below_kept ((Below.refl _ _).alloc (Nat.le_refl _) _))
    have hr1:RowAt (({ v with tape:=τ,drawn:=d }:World).alloc (.cells #[.int .i64 ((K:Nat):Int),.int .i64 ((N:Nat):Int),.int .i64 ((i:Nat):Int),.int .i64 ((C:Nat):Int),.slice bN m cN,.slice bZ m cZ,.slice (some ⟨dN i,0,none⟩) L L] 36)) ({ v with tape:=τ,drawn:=d }:World).heap.size [.int .i64 ((K:Nat):Int),.int .i64 ((N:Nat):Int),.int .i64 ((i:Nat):Int),.int .i64 ((C:Nat):Int),.slice bN m cN,.slice bZ m cZ,.slice (some ⟨dN i,0,none⟩) L L] 36:=RowAt.made _ _ _
    generalize ({ v with tape:=τ,drawn:=d }:World)=v1 at *
    simp only [aO9,qa9]
    go_wp2
    generalize v1.alloc (.cells #[.int .i64 ((K:Nat):Int),.int .i64 ((N:Nat):Int),.int .i64 ((i:Nat):Int),.int .i64 ((C:Nat):Int),.slice bN m cN,.slice bZ m cZ,.slice (some ⟨dN i,0,none⟩) L L] 36)=v2 at *
    rw [hsz] at hr1
    clear c0 c1 c2 hr hA
    have hsub2:=hA1.kx.sub hsub hu
    refine reaR_region hD ?_
    rw [aO10_size]
    simp only [List.range,List.range.loop]
    refine reaR_op goodF hD (.slice (some ⟨bh,0,none⟩) N N) (by simp only [aO10,qa10];rfl) rfl (by kernel_rfl) (fun z _=>by go_simp) ?_
    walk_nrm
    refine reaR_op goodF hD (.int .i64 ((i:Nat):Int)) (by simp only [aO10,qa10];rfl) rfl (by kernel_rfl) (fun z _=>by go_simp) ?_
    walk_nrm
    refine reaR_op goodF hD (.agg #[.int .i64 ((K:Nat):Int),.int .i64 ((N:Nat):Int),.int .i64 ((i:Nat):Int),.int .i64 ((C:Nat):Int),.slice bN m cN,.slice bZ m cZ,.slice (some ⟨dN i,0,none⟩) L L]) (by simp only [aO10,qa10];rfl) rfl (by kernel_rfl) (fun z hz=>by
      have hrz:RowAt z v.heap.size [.int .i64 ((K:Nat):Int),.int .i64 ((N:Nat):Int),.int .i64 ((i:Nat):Int),.int .i64 ((C:Nat):Int),.slice bN m cN,.slice bZ m cZ,.slice (some ⟨dN i,0,none⟩) L L] 36:=by
        show z.heap[v.heap.size]? = _
        rw [hz]
        exact hr1
      have c0:=hrz.cell (i:=0) rfl
      have c1:=hrz.cell (i:=1) rfl
      have c2:=hrz.cell (i:=2) rfl
      have c3:=hrz.cell (i:=3) rfl
      have c4:=hrz.cell (i:=4) rfl
      have c5:=hrz.cell (i:=5) rfl
      have c6:=hrz.cell (i:=6) rfl
      go_simp) ?_
    walk_nrm
    refine reaR_op goodF hD (.slice (some ⟨gm,0,none⟩) (mlen m g) cm) (by simp only [aO10,qa10];rfl) rfl (by kernel_rfl) (fun z _=>by go_simp) ?_
    walk_nrm
    refine reaR_call hD (by simp only [aO10,qa10];rfl) rfl (by rfl) Tryz.func25 (by kernel_rfl) (c:=wBody) (by kernel_rfl) (vs:=#[.agg #[.int .i64 ((K:Nat):Int),.int .i64 ((N:Nat):Int),.int .i64 ((i:Nat):Int),.int .i64 ((C:Nat):Int),.slice bN m cN,.slice bZ m cZ,.slice (some ⟨dN i,0,none⟩) L L],.slice (some ⟨gm,0,none⟩) (mlen m g) cm]) (n:=51) (by simp [Act.eval]) (by kernel_rfl) ?_
    have hml:(manTo (namesOf m g) (sizesOf m g) (namesOf m g).length).length≤300000:=by
      have:=manNto_le (namesOf m g) hNm (namesOf m g).length (Nat.le_refl _)
      have:=hFw.1
      rw [manTo_len]
      omega
    have hml2:Hid (mlen m g=(manTo (namesOf m g) (sizesOf m g) (namesOf m g).length).length+8):=by show _=_;unfold mlen;rw [sealB_length]
    refine layWriteI hD K N i C (by omega) (by omega) (by omega) (by omega) (by omega) (.slice bN m cN) (.slice bZ m cZ) (some ⟨dN i,0,none⟩) L L (colB K L l i) (colB_length _ _ _ _) hL gm cm (mlen m g) _ rfl (by have:=hml2.out;omega) (by have:=hml2.out;omega) (hA1.lies hV hb0 hlt) (hsub2.byt man) (Nat.lt_of_lt_of_le gml hsub2.1) (hsub2.tab tab) fun y v3 hO3 hK3 => ?_
    have hbytes:OwnB 0 v3 y (shardB K N C (namesOf m g) (sizesOf m g) i (colB K L l i)):=by
      unfold shardB
      rw [colB_length]
      rw [hml2.out,Nat.add_sub_cancel] at hO3
      exact hO3.base' (Nat.zero_le _)
    have hA3:=hA1.kept hK3
    rw [Dn_finish (by simp only [aO10,qa10];rfl)]
    show ReaR _ _ _ _ _ _ _ _ _ _ _ _
    walk_nrm
    have hA4:=hA3.store hlt hbytes
    obtain ⟨cur,hs1,hs2,_⟩:=hA3.sh
    have hin:(i:Nat) < N:=hlt
    refine reaR_op goodF hD (.pointer (some ⟨bh,i,none⟩)) (by simp only [aO10,qa10];rfl) rfl (by kernel_rfl) (fun z _=>by go_simp) ?_
    walk_nrm
    obtain ⟨xo,co,rfl⟩:=owns_form hbytes
    refine reaR_store (a:=⟨bh,i,none⟩) (u:=.slice xo (shardB K N C (namesOf m g) (sizesOf m g) i (colB K L l i)).length co) goodF hD (by simp only [aO10,qa10];rfl) rfl (by kernel_rfl) rfl (fun z hz=>by
      have e1:z.heap[bh]? = some (.cells cur 33):=by rw [hz];exact hs1
      obtain ⟨old,hold⟩:∃ old,cur[i]? = some old:=⟨cur[i]'(by omega),Array.getElem?_eq_getElem (by omega)⟩
      have c0:z.cell? ⟨bh,i,none⟩=some old:=cell_of_block e1 hold
      have f0:z.frozen? ⟨bh,i,none⟩=false:=by simp [World.frozen?,e1]
      go_simp) ?_
    refine reaR_endReg hD (reaR_inBlock hD (reaR_go goodF hD (by kernel_rfl) sfA fun R hR τ d => ?_))
    simp only [aO11,qa11]
    go_wp2
    refine reaR_inLoop hD (ih (i+1) _ _ _ (by omega) ?_ (hA4.tape τ d))
    rw [Int.natCast_add]
    exact tl_mk rfl
end
section
variable {X:Nat→Prop} {Y:Nat→Option Obj} {D:Nat→World→Array Event→Prop} {Stop:Goroutine→World→Prop} {v:World} {cs:List Frame} {cfr:Frame}
set_option maxHeartbeats 8000000 in
set_option maxRecDepth 100000 in
theorem backA (hD:Dok X D) {pc bh Cc N:Nat} {vn vs vm x:Value} {T:Array Value} {rest:List Nat} (hT:TA pc vn vs vm (.slice (some ⟨bh,0,none⟩) N N) x T) (hL:Left x rest)
    (hnext:∀ T,TL pc bh Cc N vn vs vm 0 T→ReaR Tryz.prog X Y D Stop none [] 20 cs [.code aLoop,.inLoop aLoop,.inBlock 0,.code aRest] T v) :
    ∀ w,SimT X Y w v→GoesI Tryz.prog D Stop (G ((frameA T rest).finish (.slice (some ⟨Cc,0,none⟩) N N)) cs) w:=by
  rw [show frameA T rest=Dn none [] 20 T (.inRegion aO6 (6 :: rest) :: [.code (.block 0 (.loop aLoop)),.code aRest]) from rfl]
  rw [Dn_finish (by simp only [aO6,qa6];rfl)]
  show ReaR _ _ _ _ _ _ _ _ _ _ _ _
  obtain ⟨f,rfl⟩:=hT
  walk_nrm
  rcases hL with ⟨rfl,rfl⟩ | rfl | rfl
  · refine reaR_op goodF hD (.int .i64 ((N:Nat):Int)) (by simp only [aO6,qa6];rfl) rfl (by kernel_rfl) (fun z _=>by go_simp) ?_
    walk_nrm
    exact reaR_endReg hD (reaR_block hD (reaR_loop hD (hnext _ (tl_mk rfl))))
  · refine reaR_op goodF hD (.int .i64 ((N:Nat):Int)) (by simp only [aO6,qa6];rfl) rfl (by kernel_rfl) (fun z _=>by go_simp) ?_
    walk_nrm
    refine reaR_op goodF hD (.int .i64 0) (by simp only [aO6,qa6];rfl) rfl (by kernel_rfl) (fun z _=>by go_simp) ?_
    walk_nrm
    exact reaR_endReg hD (reaR_block hD (reaR_loop hD (hnext _ (tl_mk rfl))))
  · refine reaR_op goodF hD (.int .i64 0) (by simp only [aO6,qa6];rfl) rfl (by kernel_rfl) (fun z _=>by go_simp) ?_
    walk_nrm
    refine reaR_op goodF hD (.int .i64 ((N:Nat):Int)) (by simp only [aO6,qa6];rfl) rfl (by kernel_rfl) (fun z _=>by go_simp) ?_
    walk_nrm
    exact reaR_endReg hD (reaR_block hD (reaR_loop hD (hnext _ (tl_mk rfl))))
set_option maxHeartbeats 8000000 in
set_option maxRecDepth 100000 in
theorem backEn (hD:Dok X D) {T:Array Value} (hT:T28 T) {vh:Value}
    (hnext:∀ w,SimT X Y w v→GoesI Tryz.prog D Stop (G (cfr.finish (.tuple #[vh,.int .i64 0])) cs) w) :
    ∀ w,SimT X Y w v→GoesI Tryz.prog D Stop (G ((frameen T).finish (.tuple #[vh,.bool true])) (cfr :: cs)) w:=by
  rw [show frameen T=Dn none [] 9 T (.inRegion enO [2,3,4,5,6,7] :: [.code enD]) from rfl]
  rw [Dn_finish (by simp only [enO,qen];rfl)]
  show ReaR _ _ _ _ _ _ _ _ _ _ _ _
  obtain ⟨f,rfl⟩:=hT
  walk_nrm
  refine reaR_op goodF hD (.tuple #[vh,.bool true]) (by simp only [enO,qen];rfl) rfl (by kernel_rfl) (fun z _=>by go_simp) ?_
  walk_nrm
  refine reaR_op goodF hD vh (by simp only [enO,qen];rfl) rfl (by kernel_rfl) (fun z _=>by go_simp) ?_
  walk_nrm
  refine reaR_op goodF hD (.bool true) (by simp only [enO,qen];rfl) rfl (by kernel_rfl) (fun z _=>by go_simp) ?_
  walk_nrm
  refine reaR_op goodF hD vh (by simp only [enO,qen];rfl) rfl (by kernel_rfl) (fun z _=>by go_simp) ?_
  walk_nrm
  refine reaR_op goodF hD (.bool true) (by simp only [enO,qen];rfl) rfl (by kernel_rfl) (fun z _=>by go_simp) ?_
  walk_nrm
  refine reaR_endReg hD ?_
  unfold enD enC enBody
  simp only [gSnd,Tryz.f9,Option.getD_some]
  refine reaR_split hD (reaR_go goodF hD (by kernel_rfl) sfen fun R hR τ d => ?_)
  go_wp2
  change ReaR _ _ _ _ _ _ _ _ _ _ _ v
  refine reaR_split hD (reaR_go goodF hD (by kernel_rfl) sfen fun R hR τ d => ?_)
  go_wp2
  change ReaR _ _ _ _ _ _ _ _ _ _ _ v
  refine reaI_ret (a:=⟨_,[]⟩) hD rfl Tryz.func9 (fun τ d=>results_tmp2 (fn:=Tryz.f9) (t:=4) (u:=5) rfl _ _ _) ?_
  exact hnext
end
end Go.Proofs.YtkpcmfgeanlcnabGreatDoor
