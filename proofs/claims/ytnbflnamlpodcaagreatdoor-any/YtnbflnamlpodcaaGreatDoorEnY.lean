import Derived.Test.YtnbflnamlpodcaaGreatDoorEnU
set_option maxHeartbeats 16000000
set_option maxRecDepth 100000
namespace Go.Proofs.Y
open Go.RowKit Go.Deep Go.Lf Go.Conc Go.Hp
theorem ajN{X:Nat->Prop}{Y:Nat->Option Obj}{D:Nat->World->Array Event->Prop}{Stop:Goroutine->World->Prop}{cs:List Frame}{k:List Item}{v:World}{T:Array Value}(pc K N:Nat)(vb vn vs vm vh:Value)(h:T=T6 (λi=>T.getD i undef) pc K N vb vn vs vm vh undef false false false false false false false)(hr:∀f,sK Tryz.prog X Y D Stop 17 cs k ⟨T6 f pc K N vb vn vs vm vh undef false false false false false false false,[]⟩ v):sK Tryz.prog X Y D Stop 17 cs k ⟨T,[]⟩ v:=by rw[h];exact hr _
theorem BC.bel{w w':World}{bo:Option Addr}{n B:Nat}{f:Nat->qQ}(h:BC w bo n f)(hb:rJ B w w')(hB:w.heap.size<=B):BC w' bo n f:=BC.below (w:={w with tape:=w'.tape}) ⟨h.here⟩ hb hB
theorem xE.bel{w w':World}{e:qQ}{d:List UInt8}{B:Nat}(h:xE w e d)(hb:rJ B w w')(hB:w.heap.size<=B):xE w' e d:=xE.below (w:={w with tape:=w'.tape}) h hb hB
theorem Tab.bel{w w':World}{B:Nat}(h:Tab w)(hb:rJ B w w')(hB:2<B):Tab w':=Tab.below (w:={w with tape:=w'.tape}) h hb hB
structure FA(K N C m:Nat)(g:Nat->qQ)(l:List UInt8)(pc gm bh:Nat)(vn vs vj:Value)(w u w':World):Prop where
 par:qf u pc [.int .i64 ((K:Nat):Int),.int .i64 ((N:Nat):Int),.int .i64 ((C:Nat):Int)] 24
 nm:Lies u vn (uV (qA m g))
 sz:Lies u vs (Dh (qC m g))
 Lj:Ag u gm 0 (rV (uX (qA m g) (qC m g) (qA m g).length))
 gml:gm<u.heap.size
 tab:Tab u
 us:u.heap.size=bh
 wu:rJ w.heap.size w u
 bel:rJ bh u w'
 sh:w'.heap[bh]?=some (.cells (madeCells #[.slice none 0 0] N) 34)
 dat:Lies w' vj (rF l)
def UQ(m:Nat)(g:Nat->qQ):Nat:=(rV (uX (qA m g) (qC m g) (qA m g).length)).length
section
variable {X:Nat->Prop}{Y:Nat->Option Obj}{D:Nat->World->Array Event->Prop}{Stop:Goroutine->World->Prop}{w:World}{K N C m cap:Nat}{bo:Option Addr}{g:Nat->qQ}{d:qQ->List UInt8}
theorem ahf(rM:uo X D){cs:List Frame}(hKN:1<=K/\K<=N/\N<=128)(hm:m<=1048576)(hB:BC w bo m g)(hD:∀i,i<m->xE w (g i) (d (g i)))(hN:uG (qA m g))(hF:Ik (qA m g) (qC m g))(hT:Tab w)
  (hnext:∀(T:Array Value)(rest:List Nat)(x vn vs vj:Value)(pc gm cm bh:Nat)(u w':World),TA pc vn vs (.slice (some ⟨gm,0,none⟩) (UQ m g) cm) (.slice (some ⟨bh,0,none⟩) N N) x T->Left x rest->FA K N C m g (qW (λj=>d (g j)) m) pc gm bh vn vs vj w u w'->
   sK Tryz.prog X Y D Stop 29 (FY T rest::cs) [.code xW] ⟨#[.int .i64 ((K:Nat):Int),.int .i64 ((N:Nat):Int),vj]++Array.replicate 23 undef,[]⟩ w'):
  sK Tryz.prog X Y D Stop 17 cs [.code wV] ⟨#[.slice bo m cap,.agg #[.int .i64 ((K:Nat):Int),.int .i64 ((N:Nat):Int),.int .i64 ((C:Nat):Int)]]++Array.replicate 58 undef,[]⟩ w:=by
 have hL:=Jw hN;have htot:=Dz d g m (λi hi=>(hD i hi).1);have hjl:(qW (λj=>d (g j)) m).length<=65536:=by rw[<-htot];exact hF.2.1
 have ak_:∀{u:World},rJ w.heap.size w u->BC u bo m g:=λ{u} hb=>hB.bel hb (ak _);have toD:∀{u:World},rJ w.heap.size w u->∀i,i<m->xE u (g i) (d (g i)):=λ{u} hb i hi=>(hD i hi).bel hb (ak _);have toT:∀{u:World},rJ w.heap.size w u->Tab u:=λ{u} hb=>hT.bel hb hT.1;have eB:wV=.seq (qG wV) (.seq (qG (qo wV)) (.seq (qG (qo (qo wV))) (.seq (qG (qo (qo (qo wV)))) (.seq (qG (qo (qo (qo (qo wV))))) (.seq aC6 Gf))))):=ag;rw[eB];simp only[cu,b_,bV,bY,bf,aW];refine qL qI rM ag rfl sfA λR hR τ d'=>?_
 have hzB:w.heap.size<=({w with tape:=τ,drawn:=d'}:World).heap.size:=ak _;have bl:rJ w.heap.size w {w with tape:=τ,drawn:=d'}:=(rJ.refl _ w).tp τ d';generalize({w with tape:=τ,drawn:=d'}:World)=wA at hzB bl⊢;have hr0:qf (wA.alloc (.cells #[.int .i64 ((K:Nat):Int),.int .i64 ((N:Nat):Int),.int .i64 ((C:Nat):Int)] 24)) wA.heap.size [.int .i64 ((K:Nat):Int),.int .i64 ((N:Nat):Int),.int .i64 ((C:Nat):Int)] 24:=qf.made wA [.int .i64 ((K:Nat):Int),.int .i64 ((N:Nat):Int),.int .i64 ((C:Nat):Int)] 24;have hb0:=(aA wA.heap.size wA).alloc (ak _) (.cells #[.int .i64 ((K:Nat):Int),.int .i64 ((N:Nat):Int),.int .i64 ((C:Nat):Int)] 24);have s0:wA.heap.size<(wA.alloc (.cells #[.int .i64 ((K:Nat):Int),.int .i64 ((N:Nat):Int),.int .i64 ((C:Nat):Int)] 24)).heap.size:=ai;replace bl:=bl.trans (rJ.of hb0) hzB;simp only[qG,wV,Tryz.f17,aB];go_wp2;generalize wA.alloc (.cells #[.int .i64 ((K:Nat):Int),.int .i64 ((N:Nat):Int),.int .i64 ((C:Nat):Int)] 24)=w0 at hr0 bl s0⊢;generalize wA.heap.size=pc at*;clear hb0;refine qL qI rM ag rfl sfA λR hR τ d'=>?_
 replace hr0:qf ({w0 with tape:=τ,drawn:=d'}:World) pc [.int .i64 ((K:Nat):Int),.int .i64 ((N:Nat):Int),.int .i64 ((C:Nat):Int)] 24:=hr0;replace s0:pc<({w0 with tape:=τ,drawn:=d'}:World).heap.size:=s0;replace bl:=bl.tp τ d';generalize({w0 with tape:=τ,drawn:=d'}:World)=w0 at hr0 bl s0⊢;have kc:=WW m cap bo g w0 hm (ak_ bl);simp only[qG,qo,wV,Tryz.f17,aB]
 go_wp2_with(first|(go_at_call 26;(with_reducible refine kc.mono ?_);rintro r w1 ⟨hb1,vn,vs,rfl,hn1,hs1⟩))
 clear kc;have hr1:=hr0.later (S:=λ_=>False) (.of_below hb1) s0 id;have Ic:=bl.trans (rJ.of hb1) bl.size';replace hn1:=LM hn1;replace hs1:=LM hs1;clear hb1 hr0 bl s0;have HF:Hid (Ik (qA m g) (qC m g)):=hF;refine qL qI rM ag rfl sfA λR hR τ d'=>?_
 replace hr1:qf ({w1 with tape:=τ,drawn:=d'}:World) pc [.int .i64 ((K:Nat):Int),.int .i64 ((N:Nat):Int),.int .i64 ((C:Nat):Int)] 24:=hr1;replace hn1:Lies ({w1 with tape:=τ,drawn:=d'}:World) vn (uV (qA m g)):=hn1;replace hs1:Lies ({w1 with tape:=τ,drawn:=d'}:World) vs (Dh (qC m g)):=hs1;replace Ic:=Ic.tp τ d';generalize({w1 with tape:=τ,drawn:=d'}:World)=w1 at hr1 hn1 hs1 Ic⊢;have kf:=Oj vn vs (qA m g) (qC m g) (by rw[uu];omega) (by rw[wP];omega) hL w1 hn1 hs1;simp only[qG,qo,wV,Tryz.f17,aB]
 go_wp2_with(first|(go_at_call 27;(with_reducible refine kf.mono ?_);rintro r w2 ⟨hw2,ht⟩;obtain rfl:=ht.yes HF.out;obtain rfl:=hw2.symm))
 clear kf;refine qL qI rM ag rfl sfA λR hR τ d'=>?_
 replace hr1:qf ({w1 with tape:=τ,drawn:=d'}:World) pc [.int .i64 ((K:Nat):Int),.int .i64 ((N:Nat):Int),.int .i64 ((C:Nat):Int)] 24:=hr1;replace hn1:Lies ({w1 with tape:=τ,drawn:=d'}:World) vn (uV (qA m g)):=hn1;replace hs1:Lies ({w1 with tape:=τ,drawn:=d'}:World) vs (Dh (qC m g)):=hs1;replace Ic:=Ic.tp τ d';generalize({w1 with tape:=τ,drawn:=d'}:World)=w1 at hr1 hn1 hs1 Ic⊢;have km:=U0 vn vs (qA m g) (qC m g) hL hF.1 hF.2.1 w1 hn1 hs1 (toT Ic);simp only[qG,qo,wV,Tryz.f17,aB]
 go_wp2_with(first|(go_at_call 28;(with_reducible refine km.mono ?_);rintro r w2 ⟨vm,rfl,hO2,hb2⟩))
 clear km;obtain⟨gm,cm,rfl,_,amo,hgm,_,hmb⟩:=yU hO2 aoq;have QZ:=Ic.trans (rJ.of hb2) Ic.size';have hr2:=hr1.later (S:=λ_=>False) (.of_below hb2) hr1.lt id;have hn2:=hn1.below hb2;have hs2:=hs1.below hb2;clear hb2 hr1 hn1 hs1 Ic amo hO2;refine qL qI rM ag rfl sfA λR hR τ d'=>?_
 replace hr2:qf ({w2 with tape:=τ,drawn:=d'}:World) pc [.int .i64 ((K:Nat):Int),.int .i64 ((N:Nat):Int),.int .i64 ((C:Nat):Int)] 24:=hr2;replace hn2:Lies ({w2 with tape:=τ,drawn:=d'}:World) vn (uV (qA m g)):=hn2;replace hs2:Lies ({w2 with tape:=τ,drawn:=d'}:World) vs (Dh (qC m g)):=hs2;replace hmb:Ag ({w2 with tape:=τ,drawn:=d'}:World) gm 0 (rV (uX (qA m g) (qC m g) (qA m g).length)):=hmb;replace hgm:gm<({w2 with tape:=τ,drawn:=d'}:World).heap.size:=hgm;replace QZ:=QZ.tp τ d';generalize({w2 with tape:=τ,drawn:=d'}:World)=w2 at hr2 hn2 hs2 hmb hgm QZ⊢;have c1:=hr2.cell (i:=1) rfl;have m2:=BH N ae w2;have z2:=dM w2 (.cells (madeCells #[.slice none 0 0] N) 34);have hb3:Below w2.heap.size w2 (w2.alloc (.cells (madeCells #[.slice none 0 0] N) 34)):=(aA _ _).alloc (ak _) _;simp only[qG,qo,wV,Tryz.f17,aB];go_wp2;clear m2 c1;generalize w2.alloc (.cells (madeCells #[.slice none 0 0] N) 34)=w3 at*;have Q3:=QZ.trans (rJ.of hb3) QZ.size';have hr3:=hr2.later (S:=λ_=>False) (.of_below hb3) hr2.lt id;have hs3:w2.heap.size<w3.heap.size:=(a_.1 z2).1;refine uH rM rfl ?_;rw[ajL];refine uH rM rfl (abX rM λt=>?_);rw[abV ajM,W_]
 have kj:∀τ dd,Calls Tryz.prog 30 #[.slice bo m cap] {w3 with tape:=τ,drawn:=dd} λr w'=>rJ w3.heap.size w3 w'/\∃v,r=.returned v/\OwnB w3.heap.size w' v (qW (λj=>d (g j)) m):=λτ dd=>
  (aeO m cap bo g (λj=>d (g j)) {w3 with tape:=τ,drawn:=dd} hm (ak_ (Q3.tp τ dd)) (toD (Q3.tp τ dd)) ae).mono λr w' ⟨h1,v,h2,h3⟩=>⟨⟨h1.os,rfl,h1.output,h1.size,h1.block⟩,v,h2,h3⟩
 refine ajN pc K N (.slice bo m cap) vn vs (.slice (some ⟨gm,0,none⟩) (UQ m g) cm) (.slice (some ⟨w2.heap.size,0,none⟩) N N) rfl λf=>?_
 refine acd rM (f:=f) (vj:=undef) (bo:=bo) (m:=m) (cap:=cap) (l:=qW (λj=>d (g j)) m) rfl (hr3.cell (i:=0) rfl) (hr3.cell (i:=1) rfl) kj (λT rest x vj v hTA hLf hb hO=>?_) 9 t false false false false false false false w3 rfl ⟨(λh=>dZ),(λh=>dZ),(λh=>dZ)⟩ (.inl ⟨rfl,rfl⟩);exact hnext T rest x vn vs vj pc gm cm w2.heap.size w2 v hTA hLf ⟨hr2,hn2,hs2,hmb,hgm,toT QZ,rfl,QZ,(rJ.of hb3).trans hb ae,(hb.blk hs3).trans z2,LM hO⟩
end
noncomputable def wG:Code:=Tryz.f8.body.getD .skip
noncomputable def enC:Code:=qo (qo (qo (qo wG)))
noncomputable def qen:{y:Array Oper//y=sN (qG enC)}:=⟨_,by(simp only[enC,wG,qG,qo,sN,Tryz.f8,aB];rfl)⟩
noncomputable def enO:Array Oper:=qen.1
noncomputable def enD:Code:=qo enC
theorem ajO:enC=.seq (.region 6 enO false) enD:=ag
theorem ae3:enO.size=8:=ag
theorem ace:∃fn,Tryz.prog.funcs[8]?=some fn:=⟨_,Tryz.func8⟩
noncomputable def Cf(T:Array Value):Frame:=(base 8).at ⟨T,[]⟩ (.inRegion enO [2,3,4,5,6,7]::[.code enD])
def T28(T:Array Value):Prop:=∃f:Nat->Value,T=#[f 0,f 1,f 2,f 3,f 4,f 5,f 6,f 7,f 8,f 9,f 10,f 11,f 12,f 13,f 14,f 15,f 16,f 17,f 18,f 19,f 20,f 21,f 22,f 23,f 24,f 25,f 26,f 27]
theorem ajP{T:Array Value}(h:T=#[T.getD 0 undef,T.getD 1 undef,T.getD 2 undef,T.getD 3 undef,T.getD 4 undef,T.getD 5 undef,T.getD 6 undef,T.getD 7 undef,T.getD 8 undef,T.getD 9 undef,T.getD 10 undef,T.getD 11 undef,T.getD 12 undef,T.getD 13 undef,T.getD 14 undef,T.getD 15 undef,T.getD 16 undef,T.getD 17 undef,T.getD 18 undef,T.getD 19 undef,T.getD 20 undef,T.getD 21 undef,T.getD 22 undef,T.getD 23 undef,T.getD 24 undef,T.getD 25 undef,T.getD 26 undef,T.getD 27 undef]):T28 T:=⟨λi=>T.getD i undef,h⟩
section
variable {X:Nat->Prop}{Y:Nat->Option Obj}{D:Nat->World->Array Event->Prop}{Stop:Goroutine->World->Prop}{w:World}{K N C m cap:Nat}{bo:Option Addr}{f:Nat->qQ}{d:qQ->List UInt8}
theorem ahe(rM:uo X D){cs:List Frame}(hA:UG w bo m cap f d)(hP:yP (K:Int) (N:Int) (C:Int))(hNf:tX m f)
  (hnext:∀(T:Array Value)(g:Nat->qQ)(bo2:Option Addr)(cap2:Nat)(w':World),T28 T->qK m f g->(∀i,i+1<m->Hp.lt (g i).k (g (i+1)).k=true)->BC w' bo2 m g->rJ w.heap.size w w'->sK Tryz.prog X Y D Stop 17 (Cf T::cs) [.code wV] ⟨#[.slice bo2 m cap2,.agg #[.int .i64 ((K:Nat):Int),.int .i64 ((N:Nat):Int),.int .i64 ((C:Nat):Int)]]++Array.replicate 58 undef,[]⟩ w'):
  sK Tryz.prog X Y D Stop 8 cs [.code wG] ⟨#[.slice bo m cap,.agg #[.int .i64 ((K:Nat):Int),.int .i64 ((N:Nat):Int),.int .i64 ((C:Nat):Int)]]++Array.replicate 26 undef,[]⟩ w:=by
 have H1:Hid (yP (K:Int) (N:Int) (C:Int)):=hP;have H2:Hid (tX m f):=hNf;have eB:wG=.seq (qG wG) (.seq (qG (qo wG)) (.seq (qG (qo (qo wG))) (.seq (qG (qo (qo (qo wG)))) enC))):=ag;rw[eB];simp only[cu,b_,bV,bY,bf,aW];refine qL qI rM ag rfl ace λR hR τ d'=>?_
 have hzB:w.heap.size<=({w with tape:=τ,drawn:=d'}:World).heap.size:=ak _;have bl:rJ w.heap.size w {w with tape:=τ,drawn:=d'}:=(rJ.refl _ w).tp τ d';generalize({w with tape:=τ,drawn:=d'}:World)=wA at hzB bl⊢;have hr0:qf (wA.alloc (.cells #[.int .i64 ((K:Nat):Int),.int .i64 ((N:Nat):Int),.int .i64 ((C:Nat):Int)] 24)) wA.heap.size [.int .i64 ((K:Nat):Int),.int .i64 ((N:Nat):Int),.int .i64 ((C:Nat):Int)] 24:=qf.made wA [.int .i64 ((K:Nat):Int),.int .i64 ((N:Nat):Int),.int .i64 ((C:Nat):Int)] 24;have hb0:=(aA wA.heap.size wA).alloc (ak _) (.cells #[.int .i64 ((K:Nat):Int),.int .i64 ((N:Nat):Int),.int .i64 ((C:Nat):Int)] 24);replace bl:=bl.trans (rJ.of hb0) hzB;simp only[qG,wG,Tryz.f8,aB];go_wp2;generalize wA.alloc (.cells #[.int .i64 ((K:Nat):Int),.int .i64 ((N:Nat):Int),.int .i64 ((C:Nat):Int)] 24)=w0 at hr0 bl⊢;generalize wA.heap.size=pc at*;clear hb0;refine qL qI rM ag rfl ace λR hR τ d'=>?_
 replace hr0:qf ({w0 with tape:=τ,drawn:=d'}:World) pc [.int .i64 ((K:Nat):Int),.int .i64 ((N:Nat):Int),.int .i64 ((C:Nat):Int)] 24:=hr0;replace bl:=bl.tp τ d';generalize({w0 with tape:=τ,drawn:=d'}:World)=w0 at hr0 bl⊢;have c0:=hr0.cell (i:=0) rfl;have c1:=hr0.cell (i:=1) rfl;have c2:=hr0.cell (i:=2) rfl;have kp:=Ri (K:Int) (N:Int) (C:Int) w0;simp only[qG,qo,wG,Tryz.f8,aB]
 go_wp2_with(first|(go_at_call 15;(with_reducible refine kp.mono ?_);rintro r w1 ⟨hb1,ht⟩;obtain rfl:=ht.yes H1.out))
 clear kp c0 c1 c2;have hr1:=hr0.later (S:=λ_=>False) (.of_below hb1) hr0.lt id;have Ic:=bl.trans (rJ.of hb1) bl.size';clear hb1 hr0 bl;refine qL qI rM ag rfl ace λR hR τ d'=>?_
 replace hr1:qf ({w1 with tape:=τ,drawn:=d'}:World) pc [.int .i64 ((K:Nat):Int),.int .i64 ((N:Nat):Int),.int .i64 ((C:Nat):Int)] 24:=hr1;replace Ic:=Ic.tp τ d';generalize({w1 with tape:=τ,drawn:=d'}:World)=w1 at hr1 Ic⊢;have kb:=Zk m cap bo f w1 hA.hm hA.hk (hA.bc.bel Ic (ak _));simp only[qG,qo,wG,Tryz.f8,aB]
 go_wp2_with(first|(go_at_call 16;(with_reducible refine kb.mono ?_);rintro r w2 ⟨hb2,hor⟩;obtain⟨g,v2,rfl,hR2,hlt2,ho2⟩:∃f' v,r=.returned (.tuple #[v,.bool true])/\qK m f f'/\(∀i,i+1<m->Hp.lt (f' i).k (f' (i+1)).k=true)/\w2.ownsRow w1.heap.size 44 2 v m (vg m f'):=(by rcases hor with⟨h,_⟩|⟨_,h⟩;exact absurd H2.out h;exact h)))
 clear kb;obtain⟨bo2,cap2,rfl,_,_,hB2⟩:=BC.aa5 ho2;have hr2:=hr1.later (S:=λ_=>False) (.of_below hb2) hr1.lt id;have QZ:=Ic.trans (rJ.of hb2) Ic.size';clear hb2 hr1 Ic ho2;refine qL qI rM ag rfl ace λR hR τ d'=>?_
 replace hr2:qf ({w2 with tape:=τ,drawn:=d'}:World) pc [.int .i64 ((K:Nat):Int),.int .i64 ((N:Nat):Int),.int .i64 ((C:Nat):Int)] 24:=hr2;replace QZ:=QZ.tp τ d';replace hB2:=hB2.bel ((rJ.refl w2.heap.size w2).tp τ d') (ak _);generalize({w2 with tape:=τ,drawn:=d'}:World)=w2 at hr2 QZ hB2⊢;simp only[qG,qo,wG,Tryz.f8,aB];go_wp2;have c0:=hr2.cell (i:=0) rfl;have c1:=hr2.cell (i:=1) rfl;have c2:=hr2.cell (i:=2) rfl;rw[ajO];refine uH rM rfl (zW rM ?_);rw[ae3];simp only[List.range,List.range.loop];refine qm qI rM (.slice bo2 m cap2) iU rfl ag (λz _=>aI) ?_;walk_nrm
 refine qm qI rM (.agg #[.int .i64 ((K:Nat):Int),.int .i64 ((N:Nat):Int),.int .i64 ((C:Nat):Int)]) iU rfl ag (λz hz=>by
  have e:∀a,z.cell? a=w2.cell? a:=λa=>aob
  rw[<-e]at c0 c1 c2;go_simp) ?_
 walk_nrm;refine uZ rM iU rfl ax Tryz.func17 ag (c:=wV) ag (vs:=#[.slice bo2 m cap2,.agg #[.int .i64 ((K:Nat):Int),.int .i64 ((N:Nat):Int),.int .i64 ((C:Nat):Int)]]) (n:=58) fC ag ?_;unfold Cf at hnext;exact hnext _ g bo2 cap2 w2 (ajP rfl) hR2 hlt2 hB2 QZ
end
end Go.Proofs.Y
namespace Go.Proofs.Y
open Go.RowKit Go.Deep Go.Hp
theorem acf(a:Nat->Nat)(b:Nat->List Nat)(n:Nat):((List.range n).map a).zip ((List.range n).map b)=(List.range n).map λj=>(a j,b j):=by rw[List.zip_map']
theorem Xa(r x:Nat->Nat)(hr:∀j,r j<256)(hx:∀j,x j<256):∀n,Nat.rec (motive:=λ_=>Nat) 0 (λj s=>s^^^mul (x j) (r j)) n=Jv r x n
 |0=>rfl
 |n+1=>by show _^^^_=Jv r x n^^^mul (r n) (x n);rw[Xa r x hr hx n,mul_comm (hx n) (hr n)]
theorem aje(k L:Nat)(l:List UInt8)(bk bd P F ba:Nat)(h0:Nat->Option Obj)(t:Nat):(Fj k L l bk bd P F ba h0).res k L t=(List.range L).map λm=>Jv (sQ k t) (λj=>YO l L j m) k:=by
 have hz:BZ ((List.range k).map (sQ k t)) (Fj k L l bk bd P F ba h0).cs=(List.range k).map λj=>(sQ k t j,(List.range L).map λm=>sH l (j*L+m)):=by unfold BZ Fj;simp only[je];exact acf _ _ _
 have hlen:((Fj k L l bk bd P F ba h0).res k L t).length=L:=by unfold Dc.res;rw[z_];simp
 apply jg;intro m;by_cases hm:m<L
 .have key:=PN (sQ k t) (λj=>(List.range L).map λm=>sH l (j*L+m)) L m hm (λj=>ai) k;rw[<-hz]at key
  have e:∀j,((List.range L).map λm=>sH l (j*L+m)).getD m 0=YO l L j m:=λj=>by simp[hm,YO]
  simp only[e]at key;rw[Xa (sQ k t) (λj=>YO l L j m) (λ_=>AV) (λj=>FM _ _)]at key;have h1:((Fj k L l bk bd P F ba h0).res k L t).getD m 0=Jv (sQ k t) (λj=>YO l L j m) k:=key;rw[aO]at h1;rw[aY (by rw[hlen];exact hm)]at h1⊢;simp only[aB]at h1;rw[h1];simp[hm]
 .rw[gZ (by rw[hlen];omega),gZ az]
end Go.Proofs.Y
namespace Go.Proofs.Y
open Go.RowKit Go.Deep Go.Lf Go.Conc Go.Hp
def Sub(u v:World):Prop:=u.heap.size<=v.heap.size/\∀(b:Nat)(c:Array Value)(t:TypeId)(fr:Nat×Nat),u.heap[b]?=some (.cells c t fr)->v.heap[b]?=some (.cells c t fr)
section
variable {u v:World}
theorem Sub.cell(h:Sub u v){b o:Nat}{x:Value}(hc:u.cell? ⟨b,o,none⟩=some x):v.cell? ⟨b,o,none⟩=some x:=by
 have h':=hc;unfold World.cell? at h';cases e:u.heap[b]? with
 |none=>simp only[e]at h';cases h'
 |some y=>
  cases y with
  |cells c t fr=>
   have:=h.2 b c t fr e;simp only[World.cell?,e]at hc;simp only[World.cell?,this];exact hc
  |_=>simp only[e]at h';cases h'
theorem Sub.row(h:Sub u v){b:Nat}{cs:List Value}{t:TypeId}(hr:qf u b cs t):qf v b cs t:=h.2 _ _ _ _ hr
theorem Sub.lies(h:Sub u v){x:Value}{xs:List Value}(hl:Lies u x xs):Lies v x xs:=by
 obtain⟨ba,cap,e,h1,h2⟩:=hl
 exact⟨ba,cap,e,h1,λj y hj=>by obtain⟨b,off,h3,h4⟩:=h2 j y hj;exact⟨b,off,h3,h.cell h4⟩⟩
theorem Sub.EW(h:Sub u v){b o:Nat}{l:List UInt8}(hb:Ag u b o l):Ag v b o l:=λj hj=>h.cell (hb j hj)
theorem Sub.tab(h:Sub u v)(ht:Tab u):Tab v:=⟨aN ht.1 h.1,λi hi=>h.cell (ht.2 i hi)⟩
theorem Sub.args{bo:Option Addr}{m cap:Nat}{f:Nat->qQ}{d:qQ->List UInt8}(h:Sub u v)(ha:UG u bo m cap f d):UG v bo m cap f d:=
 ⟨ha.hm,ha.hcap,ha.hbo,ha.hk,ha.hl,ha.bc.up h.1 h.cell,λi hi=>(ha.dat i hi).grow h.1 h.cell⟩
end
structure KX(bh:Nat)(a b:World):Prop where
 os:b.os=a.os
 output:b.output=a.output
 size:a.heap.size<=b.heap.size
 block:∀x,x<a.heap.size->x≠bh->b.heap[x]?=a.heap[x]?
theorem KX.refl(bh:Nat)(a:World):KX bh a a:=⟨rfl,rfl,ak _,λ_ _ _=>rfl⟩
theorem KX.kept{bh:Nat}{a b c:World}(h:KX bh a b)(h':Kept b c):KX bh a c:=⟨h'.os.trans h.os,h'.output.trans h.output,aK h.size h'.size,λx hx hn=>(h'.block x (aN hx h.size)).trans (h.block x hx hn)⟩
theorem KX.set{bh i:Nat}{a b:World}(h:KX bh a b)(y:Value):KX bh a (b.setCell ⟨bh,i,none⟩ y):=⟨h.os,h.output,by rw[pY];exact h.size,λx hx hn=>(bG _ _ _ x hn).trans (h.block x hx hn)⟩
theorem KX.sub{bh:Nat}{u a b:World}(h:KX bh a b)(hs:Sub u a)(hu:u.heap.size<=bh):Sub u b:=⟨aK hs.1 h.size,λx c t fr hx=>by have hlt:=(a_.1 hx).1;rw[h.block x (aN hlt hs.1) ae];exact hs.2 x c t fr hx⟩
structure VA(K N L Cc bh:Nat)(dN:Nat->Nat)(l:List UInt8)(v:World):Prop where
 qx:∀t,t<N->v.cell? ⟨Cc,t,none⟩=some (.slice (some ⟨dN t,0,none⟩) L L)
 EW:∀t,t<N->v.heap[dN t]?=some (.cells (rF (zn K L l t)).toArray 5)
 ne:Cc≠bh
structure LA(K N C m L bh:Nat)(g:Nat->qQ)(l:List UInt8)(v0:World)(i:Nat)(ov:Nat->Value)(v:World):Prop where
 kx:KX bh v0 v
 sh:∃cur:Array Value,v.heap[bh]?=some (.cells cur 34)/\cur.size=N/\∀t,t<i->cur[t]?=some (ov t)
 own:∀t,t<i->OwnB 0 v (ov t) (FN K N C (qA m g) (qC m g) t (zn K L l t))
section
variable {K N C m L Cc bh:Nat}{dN:Nat->Nat}{g:Nat->qQ}{l:List UInt8}{v0 v:World}{i:Nat}{ov:Nat->Value}
theorem LA.tape(h:LA K N C m L bh g l v0 i ov v)(τ:Nat->Question->Nat)(d:Nat):LA K N C m L bh g l v0 i ov {v with tape:=τ,drawn:=d}:=⟨⟨h.kx.os,h.kx.output,h.kx.size,h.kx.block⟩,h.sh,h.own⟩
theorem LA.ne(_h:LA K N C m L bh g l v0 i ov v)(hV:VA K N L Cc bh dN l v0)(hb:∃cur:Array Value,v0.heap[bh]?=some (.cells cur 34)){t:Nat}(ht:t<N):dN t≠bh:=by intro e;obtain⟨cur,hc⟩:=hb;have:=hV.EW t ht;rw[e,hc]at this;cases this
theorem LA.qx(h:LA K N C m L bh g l v0 i ov v)(hV:VA K N L Cc bh dN l v0){t:Nat}(ht:t<N):v.cell? ⟨Cc,t,none⟩=some (.slice (some ⟨dN t,0,none⟩) L L):=by have h1:=hV.qx t ht;have h2:=h.kx.block Cc (cell_lt h1) hV.ne;simp only[World.cell?,h2]at h1⊢;exact h1
theorem LA.lies(h:LA K N C m L bh g l v0 i ov v)(hV:VA K N L Cc bh dN l v0)(hb:∃cur:Array Value,v0.heap[bh]?=some (.cells cur 34)){t:Nat}(ht:t<N):Lies v (.slice (some ⟨dN t,0,none⟩) L L) (rF (zn K L l t)):=by have h1:=hV.EW t ht;have h2:=(h.kx.block (dN t) (a_.1 h1).1 (h.ne hV hb ht)).trans h1;refine⟨some ⟨dN t,0,none⟩,L,by rw[rH,wM],by rw[rH,wM];exact ak _,λj x hj=>⟨dN t,0,rfl,?_⟩⟩;rw[aS];simp only[World.cell?,h2];simpa using hj
theorem LA.kept{w:World}(h:LA K N C m L bh g l v0 i ov v)(hk:Kept v w):LA K N C m L bh g l v0 i ov w:=by obtain⟨cur,h1,h2,h3⟩:=h.sh;refine⟨h.kx.kept hk,⟨cur,(hk.block bh (a_.1 h1).1).trans h1,h2,h3⟩,λt ht=>rX (h.own t ht) λb hb=>hk.block b (iH (h.own t ht) b hb).2⟩
theorem LA.store(h:LA K N C m L bh g l v0 i ov v)(hi:i<N){y:Value}(hy:OwnB 0 v y (FN K N C (qA m g) (qC m g) i (zn K L l i))):LA K N C m L bh g l v0 (i+1) (λt=>if t=i then y else ov t) (v.setCell ⟨bh,i,none⟩ y):=by
 obtain⟨cur,h1,h2,h3⟩:=h.sh
 have kp:∀{z:Value}{q:List UInt8},OwnB 0 v z q->OwnB 0 (v.setCell ⟨bh,i,none⟩ y) z q:=λ{z q} hz=>rX hz λb hb=>bG _ _ _ b (λe=>by obtain⟨c1,f1,e1⟩:=Lib.ownsRow_kind hz b hb;rw[show b=bh from e,h1]at e1;cases e1)
 refine⟨h.kx.set y,⟨cur.setIfInBounds i y,?_,by simp[h2],λt ht=>?_⟩,λt ht=>?_⟩
 .have hlt:=(a_.1 h1).1;have hk:=(a_.1 h1).2;show(v.heap.modify bh _)[bh]?=_;rw[kN (by rw[Array.size_modify];exact hlt),Array.getElem_modify_self,hk];rfl
 .by_cases e:t=i
  .subst e;simp[h2,hi]
  .rw[ah e,jh (dh e)];exact h3 t ae
 .by_cases e:t=i
  .subst e;rw[aj rfl];exact kp hy
  .rw[ah e];exact kp (h.own t ae)
end
noncomputable def qa7:{x:Array Oper//x=sN (qG yL)}:=⟨_,by(simp only[yL,aC6,wV,Lc,qG,qo,sN,Tryz.f17,aB];rfl)⟩
noncomputable def acg:Code:=Lc (qG (qo (qo yL)))
noncomputable def qa8:{x:Array Oper//x=sN (qG acg)}:=⟨_,by(simp only[acg,yL,aC6,wV,Lc,qG,qo,sN,Tryz.f17,aB];rfl)⟩
noncomputable def qa9:{x:Array Oper//x=sN (qG (qo acg))}:=⟨_,by(simp only[acg,yL,aC6,wV,Lc,qG,qo,sN,Tryz.f17,aB];rfl)⟩
noncomputable def U5:{x:Array Oper//x=sN (qo (qo acg))}:=⟨_,by(simp only[acg,yL,aC6,wV,Lc,qG,qo,sN,Tryz.f17,aB];rfl)⟩
noncomputable def ala:{x:Array Oper//x=sN (qo (qo (qo yL)))}:=⟨_,by(simp only[yL,aC6,wV,Lc,qG,qo,sN,Tryz.f17,aB];rfl)⟩
noncomputable def alb:{x:Array Oper//x=sN (qG Gf)}:=⟨_,by(simp only[Gf,wV,qG,qo,sN,Tryz.f17,aB];rfl)⟩
noncomputable def aO7:Array Oper:=qa7.1
noncomputable def aO8:Array Oper:=qa8.1
noncomputable def aO9:Array Oper:=qa9.1
noncomputable def P_:Array Oper:=U5.1
noncomputable def ajQ:Array Oper:=ala.1
noncomputable def alc:Array Oper:=alb.1
theorem Xb:yL=.seq (.region 7 aO7 false) (.seq (.cond (.tmp 37) .skip (.exit 0)) (.seq (.block 1 (.seq (.region 8 aO8 false) (.seq (.region 9 aO9 false) (.region 10 P_ false)))) (.region 11 ajQ false))):=ag
theorem ae4:Gf=.seq (.region 12 alc false) .ret:=ag
theorem ach:P_.size=7:=ag
def TL(pc bh Cc N:Nat)(vn vs vm:Value)(x:Int)(T:Array Value):Prop:=∃f:Nat->Value,T=#[f 0,f 1,f 2,.pointer (some ⟨pc,0,none⟩),f 4,f 5,vn,vs,vm,.slice (some ⟨bh,0,none⟩) N N,f 10,f 11,f 12,f 13,f 14,f 15,f 16,f 17,f 18,f 19,f 20,f 21,f 22,f 23,f 24,f 25,f 26,f 27,f 28,f 29,f 30,f 31,f 32,f 33,.slice (some ⟨Cc,0,none⟩) N N,.int .i64 ((N:Nat):Int),.int .i64 x,f 37,f 38,f 39,f 40,f 41,f 42,f 43,f 44,f 45,f 46,f 47,f 48,f 49,f 50,f 51,f 52,f 53,f 54,f 55,f 56,f 57,f 58,f 59]
theorem aa6{pc bh Cc N:Nat}{vn vs vm:Value}{x:Int}{T:Array Value}(h:T=#[T.getD 0 undef,T.getD 1 undef,T.getD 2 undef,.pointer (some ⟨pc,0,none⟩),T.getD 4 undef,T.getD 5 undef,vn,vs,vm,.slice (some ⟨bh,0,none⟩) N N,T.getD 10 undef,T.getD 11 undef,T.getD 12 undef,T.getD 13 undef,T.getD 14 undef,T.getD 15 undef,T.getD 16 undef,T.getD 17 undef,T.getD 18 undef,T.getD 19 undef,T.getD 20 undef,T.getD 21 undef,T.getD 22 undef,T.getD 23 undef,T.getD 24 undef,T.getD 25 undef,T.getD 26 undef,T.getD 27 undef,T.getD 28 undef,T.getD 29 undef,T.getD 30 undef,T.getD 31 undef,T.getD 32 undef,T.getD 33 undef,.slice (some ⟨Cc,0,none⟩) N N,.int .i64 ((N:Nat):Int),.int .i64 x,T.getD 37 undef,T.getD 38 undef,T.getD 39 undef,T.getD 40 undef,T.getD 41 undef,T.getD 42 undef,T.getD 43 undef,T.getD 44 undef,T.getD 45 undef,T.getD 46 undef,T.getD 47 undef,T.getD 48 undef,T.getD 49 undef,T.getD 50 undef,T.getD 51 undef,T.getD 52 undef,T.getD 53 undef,T.getD 54 undef,T.getD 55 undef,T.getD 56 undef,T.getD 57 undef,T.getD 58 undef,T.getD 59 undef]):TL pc bh Cc N vn vs vm x T:=⟨λi=>T.getD i undef,h⟩
section
variable {X:Nat->Prop}{Y:Nat->Option Obj}{D:Nat->World->Array Event->Prop}{Stop:Goroutine->World->Prop}{cs:List Frame}{LQ:Frame}
theorem ael(hD:uo X D){K N C m pc gm cm bh Cc L:Nat}{dN:Nat->Nat}{bN bZ:Option Addr}{cN cZ:Nat}{g:Nat->qQ}{l:List UInt8}{u v0:World}(hKN:1<=K/\K<=N/\N<=128)(hC:1<=C/\C<=65536)(hL:L<=65536)(hNm:uG (qA m g))(hFw:Ik (qA m g) (qC m g))
  (par:qf u pc [.int .i64 ((K:Nat):Int),.int .i64 ((N:Nat):Int),.int .i64 ((C:Nat):Int)] 24) (Lj:Ag u gm 0 (rV (uX (qA m g) (qC m g) (qA m g).length))) (gml:gm<u.heap.size) (tab:Tab u) (hu:u.heap.size<=bh) (hsub:Sub u v0) (hV:VA K N L Cc bh dN l v0) (hb0:∃cur:Array Value,v0.heap[bh]?=some (.cells cur 34))
  (done:∀v ov,LA K N C m L bh g l v0 N ov v->∀w,qH X Y w v->ru Tryz.prog D Stop (G (LQ.finish (.tuple #[.slice (some ⟨bh,0,none⟩) N N,.bool true])) cs) w):
  ∀(q i:Nat)(T:Array Value)(v:World)(ov:Nat->Value),i+q=N->TL pc bh Cc N (.slice bN m cN) (.slice bZ m cZ) (.slice (some ⟨gm,0,none⟩) (UQ m g) cm) ((i:Nat):Int) T->LA K N C m L bh g l v0 i ov v->qR Tryz.prog X Y D Stop none [] 17 (LQ::cs) [.code yL,.inLoop yL,.inBlock 0,.code Gf] T v:=by
 intro q
 induction q with
 |zero=>
  intro i T v ov hi ⟨f,hT⟩ hA;obtain rfl:i=N:=ae;subst hT;have hnl:¬((i:Int)<(i:Int)):=ae;rw[Xb];refine qw hD (rG qI hD ag sfA λR hR τ d=>?_);simp only[aO7,qa7];go_wp2;change qR _ _ _ _ _ _ _ _ _ _ _ v;refine qw hD (zA (b:=false) hD ai (S9 hD rfl ?_));rw[ae4];refine qw hD (rG qI hD ag sfA λR hR τ d=>?_);simp only[alc,alb];go_wp2;change qR _ _ _ _ _ _ _ _ _ _ _ v;refine F5 (a:=⟨_,[]⟩) hD rfl Tryz.func17 (λτ d=>results_tmp2 (fn:=Tryz.f17) (t:=4) (u:=5) rfl _ _ _) ?_;exact done v ov hA
 |succ q ih=>
  intro i T v ov hi ⟨f,hT⟩ hA;subst hT;have hlt:i<N:=ae;have hlt':(i:Int)<(N:Int):=ae;rw[show[Item.code yL,Item.inLoop yL,Item.inBlock 0,Item.code Gf]=[Item.code (.seq (.region 7 aO7 false) (.seq (.cond (.tmp 37) .skip (.exit 0)) (.seq (.block 1 (.seq (.region 8 aO8 false) (.seq (.region 9 aO9 false) (.region 10 P_ false)))) (.region 11 ajQ false)))),Item.inLoop yL,Item.inBlock 0,Item.code Gf]by rw[<-Xb]];refine qw hD (rG qI hD ag sfA λR hR τ d=>?_);simp only[aO7,qa7];go_wp2;change qR _ _ _ _ _ _ _ _ _ _ _ v;refine qw hD (zA (b:=true) hD ai (Hg hD (qw hD (yw hD (qw hD (rG qI hD ag sfA λR hR τ d=>?_))))));have cC:=LA.qx (v:={v with tape:=τ,drawn:=d}) (hA.tape τ d) hV hlt;simp only[aO8,qa8];go_wp2;change qR _ _ _ _ _ _ _ _ _ _ _ v;clear cC;refine qw hD (rG qI hD ag sfA λR hR τ d=>?_);have hr:=(hA.kx.sub hsub hu).row par;replace hr:qf {v with tape:=τ,drawn:=d} pc [.int .i64 ((K:Nat):Int),.int .i64 ((N:Nat):Int),.int .i64 ((C:Nat):Int)] 24:=hr;have c0:=hr.cell (i:=0) rfl;have c1:=hr.cell (i:=1) rfl;have c2:=hr.cell (i:=2) rfl;have hsz:({v with tape:=τ,drawn:=d}:World).heap.size=v.heap.size:=rfl;have hA1:LA K N C m L bh g l v0 i ov (({v with tape:=τ,drawn:=d}:World).alloc (.cells #[.int .i64 ((K:Nat):Int),.int .i64 ((N:Nat):Int),.int .i64 ((i:Nat):Int),.int .i64 ((C:Nat):Int),.slice bN m cN,.slice bZ m cZ,.slice (some ⟨dN i,0,none⟩) L L] 55)):=(hA.tape τ d).kept (P9 ((aA _ _).alloc (ak _) _));have hr1:qf (({v with tape:=τ,drawn:=d}:World).alloc (.cells #[.int .i64 ((K:Nat):Int),.int .i64 ((N:Nat):Int),.int .i64 ((i:Nat):Int),.int .i64 ((C:Nat):Int),.slice bN m cN,.slice bZ m cZ,.slice (some ⟨dN i,0,none⟩) L L] 55)) ({v with tape:=τ,drawn:=d}:World).heap.size [.int .i64 ((K:Nat):Int),.int .i64 ((N:Nat):Int),.int .i64 ((i:Nat):Int),.int .i64 ((C:Nat):Int),.slice bN m cN,.slice bZ m cZ,.slice (some ⟨dN i,0,none⟩) L L] 55:=qf.made _ _ _;generalize({v with tape:=τ,drawn:=d}:World)=v1 at*;simp only[aO9,qa9];go_wp2;generalize v1.alloc (.cells #[.int .i64 ((K:Nat):Int),.int .i64 ((N:Nat):Int),.int .i64 ((i:Nat):Int),.int .i64 ((C:Nat):Int),.slice bN m cN,.slice bZ m cZ,.slice (some ⟨dN i,0,none⟩) L L] 55)=v2 at*;rw[hsz]at hr1;clear c0 c1 c2 hr hA;have hsub2:=hA1.kx.sub hsub hu;refine yI hD ?_;rw[ach];simp only[List.range,List.range.loop];refine qm qI hD (.slice (some ⟨bh,0,none⟩) N N) jk rfl ag (λz _=>aI) ?_;walk_nrm;refine qm qI hD (.int .i64 ((i:Nat):Int)) jk rfl ag (λz _=>aI) ?_;walk_nrm
  refine qm qI hD (.agg #[.int .i64 ((K:Nat):Int),.int .i64 ((N:Nat):Int),.int .i64 ((i:Nat):Int),.int .i64 ((C:Nat):Int),.slice bN m cN,.slice bZ m cZ,.slice (some ⟨dN i,0,none⟩) L L]) jk rfl ag (λz hz=>by
   have hrz:qf z v.heap.size [.int .i64 ((K:Nat):Int),.int .i64 ((N:Nat):Int),.int .i64 ((i:Nat):Int),.int .i64 ((C:Nat):Int),.slice bN m cN,.slice bZ m cZ,.slice (some ⟨dN i,0,none⟩) L L] 55:=by show z.heap[v.heap.size]?=_;rw[hz];exact hr1
   have c0:=hrz.cell (i:=0) rfl;have c1:=hrz.cell (i:=1) rfl;have c2:=hrz.cell (i:=2) rfl;have c3:=hrz.cell (i:=3) rfl;have c4:=hrz.cell (i:=4) rfl;have c5:=hrz.cell (i:=5) rfl;have c6:=hrz.cell (i:=6) rfl;go_simp) ?_
  walk_nrm;refine qm qI hD (.slice (some ⟨gm,0,none⟩) (UQ m g) cm) jk rfl ag (λz _=>aI) ?_;walk_nrm;refine uZ hD jk rfl ax Tryz.func31 ag (c:=Ir) ag (vs:=#[.agg #[.int .i64 ((K:Nat):Int),.int .i64 ((N:Nat):Int),.int .i64 ((i:Nat):Int),.int .i64 ((C:Nat):Int),.slice bN m cN,.slice bZ m cZ,.slice (some ⟨dN i,0,none⟩) L L],.slice (some ⟨gm,0,none⟩) (UQ m g) cm]) (n:=51) fC ag ?_
  have hml:(uX (qA m g) (qC m g) (qA m g).length).length<=300000:=by have:=zC (qA m g) hNm (qA m g).length (ak _);have:=hFw.1;rw[Hq];omega
  have ajR:Hid (UQ m g=(uX (qA m g) (qC m g) (qA m g).length).length+8):=by show _=_;unfold UQ;rw[rY]
  refine aca hD K N i C ae ae ae ae ae (.slice bN m cN) (.slice bZ m cZ) (some ⟨dN i,0,none⟩) L L (zn K L l i) (wM _ _ _ _) hL gm cm (UQ m g) _ rfl (by have:=ajR.out;omega) (by have:=ajR.out;omega) (hA1.lies hV hb0 hlt) (hsub2.EW Lj) (aN gml hsub2.1) (hsub2.tab tab) λy v3 hO3 hK3=>?_
  have hbytes:OwnB 0 v3 y (FN K N C (qA m g) (qC m g) i (zn K L l i)):=by unfold FN;rw[wM];rw[ajR.out,f_]at hO3;exact hO3.base' (gV _)
  have hA3:=hA1.kept hK3;rw[uD jk];show qR _ _ _ _ _ _ _ _ _ _ _ _;walk_nrm;have hA4:=hA3.store hlt hbytes;obtain⟨cur,hs1,hs2,_⟩:=hA3.sh;have hin:(i:Nat)<N:=hlt;refine qm qI hD (.pointer (some ⟨bh,i,none⟩)) jk rfl ag (λz _=>aI) ?_;walk_nrm;obtain⟨xo,co,rfl⟩:=ab9 hbytes
  refine Y9 (a:=⟨bh,i,none⟩) (u:=.slice xo (FN K N C (qA m g) (qC m g) i (zn K L l i)).length co) qI hD jk rfl ag rfl (λz hz=>by
   have e1:z.heap[bh]?=some (.cells cur 34):=by rw[hz];exact hs1
   obtain⟨old,hold⟩:∃old,cur[i]?=some old:=⟨cur[i]' ae,kN ae⟩;have c0:z.cell? ⟨bh,i,none⟩=some old:=cell_of_block e1 hold;have f0:z.frozen? ⟨bh,i,none⟩=false:=by simp[World.frozen?,e1]
   go_simp) ?_
  refine r_ hD (Ec hD (rG qI hD ag sfA λR hR τ d=>?_));simp only[ajQ,ala];go_wp2;refine Nk hD (ih (i+1) _ _ _ ae ?_ (hA4.tape τ d));rw[Int.natCast_add];exact aa6 rfl
end
section
variable {X:Nat->Prop}{Y:Nat->Option Obj}{D:Nat->World->Array Event->Prop}{Stop:Goroutine->World->Prop}{v:World}{cs:List Frame}{LQ:Frame}
theorem akS(hD:uo X D){pc bh Cc N:Nat}{vn vs vm x:Value}{T:Array Value}{rest:List Nat}(hT:TA pc vn vs vm (.slice (some ⟨bh,0,none⟩) N N) x T)(hL:Left x rest)
  (hnext:∀T,TL pc bh Cc N vn vs vm 0 T->qR Tryz.prog X Y D Stop none [] 17 cs [.code yL,.inLoop yL,.inBlock 0,.code Gf] T v):
  ∀w,qH X Y w v->ru Tryz.prog D Stop (G ((FY T rest).finish (.slice (some ⟨Cc,0,none⟩) N N)) cs) w:=by
 rw[show FY T rest=Dn none [] 17 T (.inRegion BX (6::rest)::[.code (.block 0 (.loop yL)),.code Gf])from rfl];rw[uD dD];show qR _ _ _ _ _ _ _ _ _ _ _ _;obtain⟨f,rfl⟩:=hT;walk_nrm;rcases hL with⟨rfl,rfl⟩|rfl|rfl
 .refine qm qI hD (.int .i64 ((N:Nat):Int)) dD rfl ag (λz _=>aI) ?_;walk_nrm;exact aqF
 .refine qm qI hD (.int .i64 ((N:Nat):Int)) dD rfl ag (λz _=>aI) ?_;walk_nrm;refine qm qI hD (.int .i64 0) dD rfl ag (λz _=>aI) ?_;walk_nrm;exact aqF
 .refine qm qI hD (.int .i64 0) dD rfl ag (λz _=>aI) ?_;walk_nrm;refine qm qI hD (.int .i64 ((N:Nat):Int)) dD rfl ag (λz _=>aI) ?_;walk_nrm;exact aqF
theorem ajg(hD:uo X D){T:Array Value}(hT:T28 T){vh:Value}
  (hnext:∀w,qH X Y w v->ru Tryz.prog D Stop (G (LQ.finish (.tuple #[vh,.int .i64 0])) cs) w):
  ∀w,qH X Y w v->ru Tryz.prog D Stop (G ((Cf T).finish (.tuple #[vh,.bool true])) (LQ::cs)) w:=by
 rw[show Cf T=Dn none [] 8 T (.inRegion enO [2,3,4,5,6,7]::[.code enD])from rfl];rw[uD iU];show qR _ _ _ _ _ _ _ _ _ _ _ _;obtain⟨f,rfl⟩:=hT;walk_nrm;refine qm qI hD (.tuple #[vh,.bool true]) iU rfl ag (λz _=>aI) ?_;walk_nrm;refine qm qI hD vh iU rfl ag (λz _=>aI) ?_;walk_nrm;refine qm qI hD (.bool true) iU rfl ag (λz _=>aI) ?_;walk_nrm;refine qm qI hD vh iU rfl ag (λz _=>aI) ?_;walk_nrm;refine qm qI hD (.bool true) iU rfl ag (λz _=>aI) ?_;walk_nrm;refine r_ hD ?_;unfold enD enC wG;simp only[qo,Tryz.f8,aB];refine qw hD (rG qI hD ag ace λR hR τ d=>?_);go_wp2;change qR _ _ _ _ _ _ _ _ _ _ _ v;refine qw hD (rG qI hD ag ace λR hR τ d=>?_);go_wp2;change qR _ _ _ _ _ _ _ _ _ _ _ v;refine F5 (a:=⟨_,[]⟩) hD rfl Tryz.func8 (λτ d=>results_tmp2 (fn:=Tryz.f8) (t:=4) (u:=5) rfl _ _ _) ?_;exact hnext
