import Derived.Test.YtnbflnamlpodcaaGreatDoorEnU
set_option maxHeartbeats 16000000
set_option maxRecDepth 100000
namespace Go.Proofs.Y
open Go.Proofs.Tryz
open Go.RowKit Go.Deep Go.Lf Go.Conc Go.Hp
theorem aoA{X:Nat->Prop}{Y:Nat->Option Obj}{D:Nat->World->Array Event->Prop}{Stop:Goroutine->World->Prop}{cs:List Frame}{k:List Item}{v:World}{T:Array Value}(pc K N:Nat)(vb vn vs vm vh:Value)(h:T=T6 (λi=>T.getD i undef) pc K N vb vn vs vm vh undef false false false false false false false)(hr:∀f,uh prog X Y D Stop 17 cs k ⟨T6 f pc K N vb vn vs vm vh undef false false false false false false false,[]⟩ v):uh prog X Y D Stop 17 cs k ⟨T,[]⟩ v:=by rw[h];exact hr _
theorem BC.AZ{w w':World}{bo:Option Addr}{n B:Nat}{f:Nat->qY}(h:BC w bo n f)(hb:sK B w w')(hB:w.heap.size<=B):BC w' bo n f:=BC.below (w:={w with tape:=w'.tape}) ⟨h.here⟩ hb hB
theorem yR.AZ{w w':World}{e:qY}{d:List UInt8}{B:Nat}(h:yR w e d)(hb:sK B w w')(hB:w.heap.size<=B):yR w' e d:=yR.below (w:={w with tape:=w'.tape}) h hb hB
theorem CQ.AZ{w w':World}{B:Nat}(h:CQ w)(hb:sK B w w')(hB:2<B):CQ w':=CQ.below (w:={w with tape:=w'.tape}) h hb hB
structure FA(K N C m:Nat)(g:Nat->qY)(l:List UInt8)(pc gm bh:Nat)(vn vs vj:Value)(w u w':World):Prop where
 par:qf u pc [.int .i64 ((K:Nat):Int),.int .i64 ((N:Nat):Int),.int .i64 ((C:Nat):Int)] 24
 nm:qR u vn (wO (qB m g))
 sz:qR u vs (FC (qG m g))
 NJ:CS u gm 0 (rf (wS (qB m g) (qG m g) (qB m g).length))
 gml:gm<u.heap.size
 tab:CQ u
 us:u.heap.size=bh
 wu:sK w.heap.size w u
 AZ:sK bh u w'
 sh:w'.heap[bh]?=some (.cells (madeCells #[.slice none 0 0] N) 34)
 dat:qR w' vj (r_ l)
def YO(m:Nat)(g:Nat->qY):Nat:=(rf (wS (qB m g) (qG m g) (qB m g).length)).length
section
variable {X:Nat->Prop}{Y:Nat->Option Obj}{D:Nat->World->Array Event->Prop}{Stop:Goroutine->World->Prop}{w:World}{K N C m cap:Nat}{bo:Option Addr}{g:Nat->qY}{d:qY->List UInt8}
theorem alB(sW:vw X D){cs:List Frame}(hKN:1<=K/\K<=N/\N<=128)(hm:m<=1048576)(hB:BC w bo m g)(hD:∀i,i<m->yR w (g i) (d (g i)))(hN:vV (qB m g))(hF:Lm (qB m g) (qG m g))(hT:CQ w)
  (qH:∀(T:Array Value)(rest:List Nat)(x vn vs vj:Value)(pc gm cm bh:Nat)(u w':World),TA pc vn vs (.slice (some ⟨gm,0,none⟩) (YO m g) cm) (.slice (some ⟨bh,0,none⟩) N N) x T->Left x rest->FA K N C m g (rC (λj=>d (g j)) m) pc gm bh vn vs vj w u w'->
   uh prog X Y D Stop 29 (Jb T rest::cs) [.code zi] ⟨#[.int .i64 ((K:Nat):Int),.int .i64 ((N:Nat):Int),vj]++Array.replicate 23 undef,[]⟩ w'):
  uh prog X Y D Stop 17 cs [.code yx] ⟨#[.slice bo m cap,.agg #[.int .i64 ((K:Nat):Int),.int .i64 ((N:Nat):Int),.int .i64 ((C:Nat):Int)]]++Array.replicate 58 undef,[]⟩ w:=by
 have hL:=NM hN;have akA:=FY d g m (λi hi=>(hD i hi).1);have Nz:(rC (λj=>d (g j)) m).length<=65536:=by rw[<-akA];exact hF.2.1
 have aql:∀{u:World},sK w.heap.size w u->BC u bo m g:=λ{u} hb=>hB.AZ hb (ak _);have toD:∀{u:World},sK w.heap.size w u->∀i,i<m->yR u (g i) (d (g i)):=λ{u} hb i hi=>(hD i hi).AZ hb (ak _);have toT:∀{u:World},sK w.heap.size w u->CQ u:=λ{u} hb=>hT.AZ hb hT.1;have eB:yx=.seq (qJ yx) (.seq (qJ (qo yx)) (.seq (qJ (qo (qo yx))) (.seq (qJ (qo (qo (qo yx)))) (.seq (qJ (qo (qo (qo (qo yx))))) (.seq aC6 Jk))))):=ag;rw[eB];simp only[cu,b_,bU,bY,bg,aV];refine qQ qK sW ag rfl sfA λR hR τ d'=>?_
 have hzB:w.heap.size<=({w with tape:=τ,drawn:=d'}:World).heap.size:=ak _;have bl:sK w.heap.size w {w with tape:=τ,drawn:=d'}:=(sK.refl _ w).tp τ d';generalize({w with tape:=τ,drawn:=d'}:World)=wA at hzB bl⊢;have L6:qf (wA.alloc (.cells #[.int .i64 ((K:Nat):Int),.int .i64 ((N:Nat):Int),.int .i64 ((C:Nat):Int)] 24)) wA.heap.size [.int .i64 ((K:Nat):Int),.int .i64 ((N:Nat):Int),.int .i64 ((C:Nat):Int)] 24:=qf.made wA [.int .i64 ((K:Nat):Int),.int .i64 ((N:Nat):Int),.int .i64 ((C:Nat):Int)] 24;have xq:=(aA wA.heap.size wA).alloc (ak _) (.cells #[.int .i64 ((K:Nat):Int),.int .i64 ((N:Nat):Int),.int .i64 ((C:Nat):Int)] 24);have s0:wA.heap.size<(wA.alloc (.cells #[.int .i64 ((K:Nat):Int),.int .i64 ((N:Nat):Int),.int .i64 ((C:Nat):Int)] 24)).heap.size:=ai;replace bl:=bl.trans (sK.of xq) hzB;simp only[qJ,yx,Tryz.f17,aB];go_wp2;generalize wA.alloc (.cells #[.int .i64 ((K:Nat):Int),.int .i64 ((N:Nat):Int),.int .i64 ((C:Nat):Int)] 24)=w0 at L6 bl s0⊢;generalize wA.heap.size=pc at*;clear xq;refine qQ qK sW ag rfl sfA λR hR τ d'=>?_
 replace L6:qf ({w0 with tape:=τ,drawn:=d'}:World) pc [.int .i64 ((K:Nat):Int),.int .i64 ((N:Nat):Int),.int .i64 ((C:Nat):Int)] 24:=L6;replace s0:pc<({w0 with tape:=τ,drawn:=d'}:World).heap.size:=s0;replace bl:=bl.tp τ d';generalize({w0 with tape:=τ,drawn:=d'}:World)=w0 at L6 bl s0⊢;have kc:=aaX m cap bo g w0 hm (aql bl);simp only[qJ,qo,yx,Tryz.f17,aB]
 go_wp2_with(first|(go_at_call 26;(with_reducible refine kc.mono ?_);rintro r w1 ⟨t_,vn,vs,rfl,ZQ,x9⟩))
 clear kc;have xW:=L6.later (S:=λ_=>False) (.qm t_) s0 id;have KJ:=bl.trans (sK.of t_) bl.sH;replace ZQ:=PX ZQ;replace x9:=PX x9;clear t_ L6 bl s0;have HF:Hid (Lm (qB m g) (qG m g)):=hF;refine qQ qK sW ag rfl sfA λR hR τ d'=>?_
 replace xW:qf ({w1 with tape:=τ,drawn:=d'}:World) pc [.int .i64 ((K:Nat):Int),.int .i64 ((N:Nat):Int),.int .i64 ((C:Nat):Int)] 24:=xW;replace ZQ:qR ({w1 with tape:=τ,drawn:=d'}:World) vn (wO (qB m g)):=ZQ;replace x9:qR ({w1 with tape:=τ,drawn:=d'}:World) vs (FC (qG m g)):=x9;replace KJ:=KJ.tp τ d';generalize({w1 with tape:=τ,drawn:=d'}:World)=w1 at xW ZQ x9 KJ⊢;have kf:=Si vn vs (qB m g) (qG m g) (by rw[vG];omega) (by rw[yh];omega) hL w1 ZQ x9;simp only[qJ,qo,yx,Tryz.f17,aB]
 go_wp2_with(first|(go_at_call 27;(with_reducible refine kf.mono ?_);rintro r w2 ⟨xG,ht⟩;obtain rfl:=ht.yes HF.out;obtain rfl:=xG.symm))
 clear kf;refine qQ qK sW ag rfl sfA λR hR τ d'=>?_
 replace xW:qf ({w1 with tape:=τ,drawn:=d'}:World) pc [.int .i64 ((K:Nat):Int),.int .i64 ((N:Nat):Int),.int .i64 ((C:Nat):Int)] 24:=xW;replace ZQ:qR ({w1 with tape:=τ,drawn:=d'}:World) vn (wO (qB m g)):=ZQ;replace x9:qR ({w1 with tape:=τ,drawn:=d'}:World) vs (FC (qG m g)):=x9;replace KJ:=KJ.tp τ d';generalize({w1 with tape:=τ,drawn:=d'}:World)=w1 at xW ZQ x9 KJ⊢;have km:=Y5 vn vs (qB m g) (qG m g) hL hF.1 hF.2.1 w1 ZQ x9 (toT KJ);simp only[qJ,qo,yx,Tryz.f17,aB]
 go_wp2_with(first|(go_at_call 28;(with_reducible refine km.mono ?_);rintro r w2 ⟨vm,rfl,ND,sZ⟩))
 clear km;obtain⟨gm,cm,rfl,_,arY,hgm,_,hmb⟩:=Aq ND auN;have VS:=KJ.trans (sK.of sZ) KJ.sH;have Gy:=xW.later (S:=λ_=>False) (.qm sZ) xW.lt id;have hn2:=ZQ.below sZ;have zD:=x9.below sZ;clear sZ xW ZQ x9 KJ arY ND;refine qQ qK sW ag rfl sfA λR hR τ d'=>?_
 replace Gy:qf ({w2 with tape:=τ,drawn:=d'}:World) pc [.int .i64 ((K:Nat):Int),.int .i64 ((N:Nat):Int),.int .i64 ((C:Nat):Int)] 24:=Gy;replace hn2:qR ({w2 with tape:=τ,drawn:=d'}:World) vn (wO (qB m g)):=hn2;replace zD:qR ({w2 with tape:=τ,drawn:=d'}:World) vs (FC (qG m g)):=zD;replace hmb:CS ({w2 with tape:=τ,drawn:=d'}:World) gm 0 (rf (wS (qB m g) (qG m g) (qB m g).length)):=hmb;replace hgm:gm<({w2 with tape:=τ,drawn:=d'}:World).heap.size:=hgm;replace VS:=VS.tp τ d';generalize({w2 with tape:=τ,drawn:=d'}:World)=w2 at Gy hn2 zD hmb hgm VS⊢;have c1:=Gy.cell (i:=1) rfl;have m2:=Eg N ae w2;have z2:=dO w2 (.cells (madeCells #[.slice none 0 0] N) 34);have vK:Below w2.heap.size w2 (w2.alloc (.cells (madeCells #[.slice none 0 0] N) 34)):=(aA _ _).alloc (ak _) _;simp only[qJ,qo,yx,Tryz.f17,aB];go_wp2;clear m2 c1;generalize w2.alloc (.cells (madeCells #[.slice none 0 0] N) 34)=w3 at*;have bl3:=VS.trans (sK.of vK) VS.sH;have hr3:=Gy.later (S:=λ_=>False) (.qm vK) Gy.lt id;have xu:w2.heap.size<w3.heap.size:=(bf.1 z2).1;refine vX sW rfl ?_;rw[aoy];refine vX sW rfl (afN sW λt=>?_);rw[afL aoz,aa1]
 have kj:∀τ dd,Calls prog 30 #[.slice bo m cap] {w3 with tape:=τ,drawn:=dd} λr w'=>sK w3.heap.size w3 w'/\∃v,r=.returned v/\rG w3.heap.size w' v (rC (λj=>d (g j)) m):=λτ dd=>
  (aiL m cap bo g (λj=>d (g j)) {w3 with tape:=τ,drawn:=dd} hm (aql (bl3.tp τ dd)) (toD (bl3.tp τ dd)) ae).mono λr w' ⟨h1,v,h2,h3⟩=>⟨⟨h1.os,rfl,h1.output,h1.size,h1.block⟩,v,h2,h3⟩
 refine aoA pc K N (.slice bo m cap) vn vs (.slice (some ⟨gm,0,none⟩) (YO m g) cm) (.slice (some ⟨w2.heap.size,0,none⟩) N N) rfl λf=>?_
 refine af9 sW (f:=f) (vj:=undef) (bo:=bo) (m:=m) (cap:=cap) (l:=rC (λj=>d (g j)) m) rfl (hr3.cell (i:=0) rfl) (hr3.cell (i:=1) rfl) kj (λT rest x vj v hTA hLf hb hO=>?_) 9 t false false false false false false false w3 rfl ⟨(λh=>eP),(λh=>eP),(λh=>eP)⟩ (.inl ⟨rfl,rfl⟩);exact qH T rest x vn vs vj pc gm cm w2.heap.size w2 v hTA hLf ⟨Gy,hn2,zD,hmb,hgm,toT VS,rfl,VS,(sK.of vK).trans hb ae,(hb.blk xu).trans z2,PX hO⟩
end
noncomputable def xQ:Code:=Tryz.f8.body.getD .skip
noncomputable def enC:Code:=qo (qo (qo (qo xQ)))
noncomputable def qen:{y:Array Oper//y=uk (qJ enC)}:=⟨_,by(simp only[enC,xQ,qJ,qo,uk,Tryz.f8,aB];rfl)⟩
noncomputable def enO:Array Oper:=qen.1
noncomputable def enD:Code:=qo enC
theorem aoB:enC=.seq (.region 6 enO false) enD:=ag
theorem ai0:enO.size=8:=ag
theorem af_:∃fn,prog.funcs[8]?=some fn:=⟨_,func8⟩
noncomputable def EO(T:Array Value):Frame:=(base 8).at ⟨T,[]⟩ (.inRegion enO [2,3,4,5,6,7]::[.code enD])
def T28(T:Array Value):Prop:=∃f:Nat->Value,T=#[f 0,f 1,f 2,f 3,f 4,f 5,f 6,f 7,f 8,f 9,f 10,f 11,f 12,f 13,f 14,f 15,f 16,f 17,f 18,f 19,f 20,f 21,f 22,f 23,f 24,f 25,f 26,f 27]
theorem aoC{T:Array Value}(h:T=#[T.getD 0 undef,T.getD 1 undef,T.getD 2 undef,T.getD 3 undef,T.getD 4 undef,T.getD 5 undef,T.getD 6 undef,T.getD 7 undef,T.getD 8 undef,T.getD 9 undef,T.getD 10 undef,T.getD 11 undef,T.getD 12 undef,T.getD 13 undef,T.getD 14 undef,T.getD 15 undef,T.getD 16 undef,T.getD 17 undef,T.getD 18 undef,T.getD 19 undef,T.getD 20 undef,T.getD 21 undef,T.getD 22 undef,T.getD 23 undef,T.getD 24 undef,T.getD 25 undef,T.getD 26 undef,T.getD 27 undef]):T28 T:=⟨λi=>T.getD i undef,h⟩
section
variable {X:Nat->Prop}{Y:Nat->Option Obj}{D:Nat->World->Array Event->Prop}{Stop:Goroutine->World->Prop}{w:World}{K N C m cap:Nat}{bo:Option Addr}{f:Nat->qY}{d:qY->List UInt8}
theorem alA(sW:vw X D){cs:List Frame}(hA:YF w bo m cap f d)(hP:Ah (K:Int) (N:Int) (C:Int))(hNf:uM m f)
  (qH:∀(T:Array Value)(g:Nat->qY)(bo2:Option Addr)(La:Nat)(w':World),T28 T->qN m f g->(∀i,i+1<m->Hp.lt (g i).k (g (i+1)).k=true)->BC w' bo2 m g->sK w.heap.size w w'->uh prog X Y D Stop 17 (EO T::cs) [.code yx] ⟨#[.slice bo2 m La,.agg #[.int .i64 ((K:Nat):Int),.int .i64 ((N:Nat):Int),.int .i64 ((C:Nat):Int)]]++Array.replicate 58 undef,[]⟩ w'):
  uh prog X Y D Stop 8 cs [.code xQ] ⟨#[.slice bo m cap,.agg #[.int .i64 ((K:Nat):Int),.int .i64 ((N:Nat):Int),.int .i64 ((C:Nat):Int)]]++Array.replicate 26 undef,[]⟩ w:=by
 have H1:Hid (Ah (K:Int) (N:Int) (C:Int)):=hP;have H2:Hid (uM m f):=hNf;have eB:xQ=.seq (qJ xQ) (.seq (qJ (qo xQ)) (.seq (qJ (qo (qo xQ))) (.seq (qJ (qo (qo (qo xQ)))) enC))):=ag;rw[eB];simp only[cu,b_,bU,bY,bg,aV];refine qQ qK sW ag rfl af_ λR hR τ d'=>?_
 have hzB:w.heap.size<=({w with tape:=τ,drawn:=d'}:World).heap.size:=ak _;have bl:sK w.heap.size w {w with tape:=τ,drawn:=d'}:=(sK.refl _ w).tp τ d';generalize({w with tape:=τ,drawn:=d'}:World)=wA at hzB bl⊢;have L6:qf (wA.alloc (.cells #[.int .i64 ((K:Nat):Int),.int .i64 ((N:Nat):Int),.int .i64 ((C:Nat):Int)] 24)) wA.heap.size [.int .i64 ((K:Nat):Int),.int .i64 ((N:Nat):Int),.int .i64 ((C:Nat):Int)] 24:=qf.made wA [.int .i64 ((K:Nat):Int),.int .i64 ((N:Nat):Int),.int .i64 ((C:Nat):Int)] 24;have xq:=(aA wA.heap.size wA).alloc (ak _) (.cells #[.int .i64 ((K:Nat):Int),.int .i64 ((N:Nat):Int),.int .i64 ((C:Nat):Int)] 24);replace bl:=bl.trans (sK.of xq) hzB;simp only[qJ,xQ,Tryz.f8,aB];go_wp2;generalize wA.alloc (.cells #[.int .i64 ((K:Nat):Int),.int .i64 ((N:Nat):Int),.int .i64 ((C:Nat):Int)] 24)=w0 at L6 bl⊢;generalize wA.heap.size=pc at*;clear xq;refine qQ qK sW ag rfl af_ λR hR τ d'=>?_
 replace L6:qf ({w0 with tape:=τ,drawn:=d'}:World) pc [.int .i64 ((K:Nat):Int),.int .i64 ((N:Nat):Int),.int .i64 ((C:Nat):Int)] 24:=L6;replace bl:=bl.tp τ d';generalize({w0 with tape:=τ,drawn:=d'}:World)=w0 at L6 bl⊢;have c0:=L6.cell (i:=0) rfl;have c1:=L6.cell (i:=1) rfl;have c2:=L6.cell (i:=2) rfl;have kp:=Wh (K:Int) (N:Int) (C:Int) w0;simp only[qJ,qo,xQ,Tryz.f8,aB]
 go_wp2_with(first|(go_at_call 15;(with_reducible refine kp.mono ?_);rintro r w1 ⟨t_,ht⟩;obtain rfl:=ht.yes H1.out))
 clear kp c0 c1 c2;have xW:=L6.later (S:=λ_=>False) (.qm t_) L6.lt id;have KJ:=bl.trans (sK.of t_) bl.sH;clear t_ L6 bl;refine qQ qK sW ag rfl af_ λR hR τ d'=>?_
 replace xW:qf ({w1 with tape:=τ,drawn:=d'}:World) pc [.int .i64 ((K:Nat):Int),.int .i64 ((N:Nat):Int),.int .i64 ((C:Nat):Int)] 24:=xW;replace KJ:=KJ.tp τ d';generalize({w1 with tape:=τ,drawn:=d'}:World)=w1 at xW KJ⊢;have kb:=ac6 m cap bo f w1 hA.hm hA.hk (hA.bc.AZ KJ (ak _));simp only[qJ,qo,xQ,Tryz.f8,aB]
 go_wp2_with(first|(go_at_call 16;(with_reducible refine kb.mono ?_);rintro r w2 ⟨sZ,hor⟩;obtain⟨g,v2,rfl,Fh,ZY,ho2⟩:∃f' v,r=.returned (.tuple #[v,.bool true])/\qN m f f'/\(∀i,i+1<m->Hp.lt (f' i).k (f' (i+1)).k=true)/\w2.ownsRow w1.heap.size 44 2 v m (wW m f'):=(by rcases hor with⟨h,_⟩|⟨_,h⟩;exact absurd H2.out h;exact h)))
 clear kb;obtain⟨bo2,La,rfl,_,_,Ae⟩:=BC.aeY ho2;have Gy:=xW.later (S:=λ_=>False) (.qm sZ) xW.lt id;have VS:=KJ.trans (sK.of sZ) KJ.sH;clear sZ xW KJ ho2;refine qQ qK sW ag rfl af_ λR hR τ d'=>?_
 replace Gy:qf ({w2 with tape:=τ,drawn:=d'}:World) pc [.int .i64 ((K:Nat):Int),.int .i64 ((N:Nat):Int),.int .i64 ((C:Nat):Int)] 24:=Gy;replace VS:=VS.tp τ d';replace Ae:=Ae.AZ ((sK.refl w2.heap.size w2).tp τ d') (ak _);generalize({w2 with tape:=τ,drawn:=d'}:World)=w2 at Gy VS Ae⊢;simp only[qJ,qo,xQ,Tryz.f8,aB];go_wp2;have c0:=Gy.cell (i:=0) rfl;have c1:=Gy.cell (i:=1) rfl;have c2:=Gy.cell (i:=2) rfl;rw[aoB];refine vX sW rfl (BQ sW ?_);rw[ai0];simp only[List.range,List.range.loop];refine qw qK sW (.slice bo2 m La) je rfl ag (λz _=>aN) ?_;walk_nrm
 refine qw qK sW (.agg #[.int .i64 ((K:Nat):Int),.int .i64 ((N:Nat):Int),.int .i64 ((C:Nat):Int)]) je rfl ag (λz hz=>by
  have e:∀a,z.cell? a=w2.cell? a:=λa=>by simp only[World.cell?,hz]
  rw[<-e]at c0 c1 c2;go_simp) ?_
 walk_nrm;refine xH sW je rfl ax func17 ag (c:=yx) ag (vs:=#[.slice bo2 m La,.agg #[.int .i64 ((K:Nat):Int),.int .i64 ((N:Nat):Int),.int .i64 ((C:Nat):Int)]]) (n:=58) fQ ag ?_;unfold EO at qH;exact qH _ g bo2 La w2 (aoC rfl) Fh ZY Ae VS
end
end Go.Proofs.Y
namespace Go.Proofs.Y
open Go.Proofs.Tryz
open Go.RowKit Go.Deep Go.Hp
theorem aga(a:Nat->Nat)(b:Nat->List Nat)(n:Nat):((List.range n).map a).zip ((List.range n).map b)=(List.range n).map λj=>(a j,b j):=by rw[List.zip_map']
theorem aa2(r x:Nat->Nat)(hr:∀j,r j<256)(hx:∀j,x j<256):∀n,Nat.rec (motive:=λ_=>Nat) 0 (λj s=>s^^^mul (x j) (r j)) n=NL r x n
 |0=>rfl
 |n+1=>by show _^^^_=NL r x n^^^mul (r n) (x n);rw[aa2 r x hr hx n,mul_comm (hx n) (hr n)]
theorem an0(k L:Nat)(l:List UInt8)(bk bd P F ba:Nat)(h0:Nat->Option Obj)(t:Nat):(Iw k L l bk bd P F ba h0).res k L t=(List.range L).map λm=>NL (uj k t) (λj=>xAt l L j m) k:=by
 have hz:EH ((List.range k).map (uj k t)) (Iw k L l bk bd P F ba h0).cs=(List.range k).map λj=>(uj k t j,(List.range L).map λm=>tJ l (j*L+m)):=by unfold EH Iw;simp only[jo];exact aga _ _ _
 have hlen:((Iw k L l bk bd P F ba h0).res k L t).length=L:=by unfold FB.res;rw[BZ];simp
 apply iY;intro m;by_cases hm:m<L
 .have key:=Us (uj k t) (λj=>(List.range L).map λm=>tJ l (j*L+m)) L m hm (λj=>ai) k;rw[<-hz]at key
  have e:∀j,((List.range L).map λm=>tJ l (j*L+m)).getD m 0=xAt l L j m:=λj=>by simp[hm,xAt]
  simp only[e]at key;rw[aa2 (uj k t) (λj=>xAt l L j m) (λ_=>Dw) (λj=>Fv _ _)]at key;have h1:((Iw k L l bk bd P F ba h0).res k L t).getD m 0=NL (uj k t) (λj=>xAt l L j m) k:=key;rw[aO]at h1;rw[a_ (by rw[hlen];exact hm)]at h1⊢;simp only[aB]at h1;rw[h1];simp[hm]
 .rw[gG (by rw[hlen];omega),gG az]
end Go.Proofs.Y
namespace Go.Proofs.Y
open Go.Proofs.Tryz
open Go.RowKit Go.Deep Go.Lf Go.Conc Go.Hp
def Sub(u v:World):Prop:=u.heap.size<=v.heap.size/\∀(b:Nat)(c:Array Value)(t:TypeId)(fr:Nat×Nat),u.heap[b]?=some (.cells c t fr)->v.heap[b]?=some (.cells c t fr)
section
variable {u v:World}
theorem Sub.cell(h:Sub u v){b o:Nat}{x:Value}(hc:u.cell? ⟨b,o,none⟩=some x):v.cell? ⟨b,o,none⟩=some x:=by
 have h':=hc;unfold World.cell? at h';cases e:u.heap[b]? with
 |none=>simp only[e]at h';cases h'
 |some y=>
  cases y with
  |cells c t fr=>
   have:=h.2 b c t fr e;simp only[World.cell?,e]at hc;simp only[World.cell?,this];exact hc
  |_=>simp only[e]at h';cases h'
theorem Sub.row(h:Sub u v){b:Nat}{cs:List Value}{t:TypeId}(hr:qf u b cs t):qf v b cs t:=h.2 _ _ _ _ hr
theorem Sub.lies(h:Sub u v){x:Value}{xs:List Value}(hl:qR u x xs):qR v x xs:=by
 obtain⟨ba,cap,e,h1,h2⟩:=hl
 exact⟨ba,cap,e,h1,λj y hj=>by obtain⟨b,off,h3,h4⟩:=h2 j y hj;exact⟨b,off,h3,h.cell h4⟩⟩
theorem Sub.IW(h:Sub u v){b o:Nat}{l:List UInt8}(hb:CS u b o l):CS v b o l:=λj hj=>h.cell (hb j hj)
theorem Sub.tab(h:Sub u v)(ht:CQ u):CQ v:=⟨aK ht.1 h.1,λi hi=>h.cell (ht.2 i hi)⟩
theorem Sub.args{bo:Option Addr}{m cap:Nat}{f:Nat->qY}{d:qY->List UInt8}(h:Sub u v)(ha:YF u bo m cap f d):YF v bo m cap f d:=
 ⟨ha.hm,ha.BD,ha.hbo,ha.hk,ha.hl,ha.bc.up h.1 h.cell,λi hi=>(ha.dat i hi).grow h.1 h.cell⟩
end
structure KX(bh:Nat)(a b:World):Prop where
 os:b.os=a.os
 output:b.output=a.output
 size:a.heap.size<=b.heap.size
 block:∀x,x<a.heap.size->x≠bh->b.heap[x]?=a.heap[x]?
theorem KX.refl(bh:Nat)(a:World):KX bh a a:=⟨rfl,rfl,ak _,λ_ _ _=>rfl⟩
theorem KX.kept{bh:Nat}{a b c:World}(h:KX bh a b)(h':Kept b c):KX bh a c:=⟨h'.os.trans h.os,h'.output.trans h.output,aJ h.size h'.size,λx hx hn=>(h'.block x (aK hx h.size)).trans (h.block x hx hn)⟩
theorem KX.set{bh i:Nat}{a b:World}(h:KX bh a b)(y:Value):KX bh a (b.setCell ⟨bh,i,none⟩ y):=⟨h.os,h.output,by rw[atU];exact h.size,λx hx hn=>(bF _ _ _ x hn).trans (h.block x hx hn)⟩
theorem KX.sub{bh:Nat}{u a b:World}(h:KX bh a b)(hs:Sub u a)(hu:u.heap.size<=bh):Sub u b:=⟨aJ hs.1 h.size,λx c t fr hx=>by have qE:=(bf.1 hx).1;rw[h.block x (aK qE hs.1) ae];exact hs.2 x c t fr hx⟩
structure VA(K N L Cc bh:Nat)(dN:Nat->Nat)(l:List UInt8)(v:World):Prop where
 qy:∀t,t<N->v.cell? ⟨Cc,t,none⟩=some (.slice (some ⟨dN t,0,none⟩) L L)
 IW:∀t,t<N->v.heap[dN t]?=some (.cells (r_ (AY K L l t)).toArray 5)
 ne:Cc≠bh
structure LA(K N C m L bh:Nat)(g:Nat->qY)(l:List UInt8)(v0:World)(i:Nat)(ov:Nat->Value)(v:World):Prop where
 kx:KX bh v0 v
 sh:∃cur:Array Value,v.heap[bh]?=some (.cells cur 34)/\cur.size=N/\∀t,t<i->cur[t]?=some (ov t)
 own:∀t,t<i->rG 0 v (ov t) (IU K N C (qB m g) (qG m g) t (AY K L l t))
section
variable {K N C m L Cc bh:Nat}{dN:Nat->Nat}{g:Nat->qY}{l:List UInt8}{v0 v:World}{i:Nat}{ov:Nat->Value}
theorem LA.tape(h:LA K N C m L bh g l v0 i ov v)(τ:Nat->Question->Nat)(d:Nat):LA K N C m L bh g l v0 i ov {v with tape:=τ,drawn:=d}:=⟨⟨h.kx.os,h.kx.output,h.kx.size,h.kx.block⟩,h.sh,h.own⟩
theorem LA.ne(_h:LA K N C m L bh g l v0 i ov v)(hV:VA K N L Cc bh dN l v0)(hb:∃cur:Array Value,v0.heap[bh]?=some (.cells cur 34)){t:Nat}(ht:t<N):dN t≠bh:=by intro e;obtain⟨cur,hc⟩:=hb;have:=hV.IW t ht;rw[e,hc]at this;cases this
theorem LA.qy(h:LA K N C m L bh g l v0 i ov v)(hV:VA K N L Cc bh dN l v0){t:Nat}(ht:t<N):v.cell? ⟨Cc,t,none⟩=some (.slice (some ⟨dN t,0,none⟩) L L):=by have h1:=hV.qy t ht;have h2:=h.kx.block Cc (rM h1) hV.ne;simp only[World.cell?,h2]at h1⊢;exact h1
theorem LA.lies(h:LA K N C m L bh g l v0 i ov v)(hV:VA K N L Cc bh dN l v0)(hb:∃cur:Array Value,v0.heap[bh]?=some (.cells cur 34)){t:Nat}(ht:t<N):qR v (.slice (some ⟨dN t,0,none⟩) L L) (r_ (AY K L l t)):=by have h1:=hV.IW t ht;have h2:=(h.kx.block (dN t) (bf.1 h1).1 (h.ne hV hb ht)).trans h1;refine⟨some ⟨dN t,0,none⟩,L,by rw[sN,yc],by rw[sN,yc];exact ak _,λj x hj=>⟨dN t,0,rfl,?_⟩⟩;rw[aT];simp only[World.cell?,h2];simpa using hj
theorem LA.kept{w:World}(h:LA K N C m L bh g l v0 i ov v)(hk:Kept v w):LA K N C m L bh g l v0 i ov w:=by obtain⟨cur,h1,h2,h3⟩:=h.sh;refine⟨h.kx.kept hk,⟨cur,(hk.block bh (bf.1 h1).1).trans h1,h2,h3⟩,λt ht=>rX (h.own t ht) λb hb=>hk.block b (eQ (h.own t ht) b hb).2⟩
theorem LA.store(h:LA K N C m L bh g l v0 i ov v)(hi:i<N){y:Value}(hy:rG 0 v y (IU K N C (qB m g) (qG m g) i (AY K L l i))):LA K N C m L bh g l v0 (i+1) (λt=>if t=i then y else ov t) (v.setCell ⟨bh,i,none⟩ y):=by
 obtain⟨cur,h1,h2,h3⟩:=h.sh
 have kp:∀{z:Value}{q:List UInt8},rG 0 v z q->rG 0 (v.setCell ⟨bh,i,none⟩ y) z q:=λ{z q} hz=>rX hz λb hb=>bF _ _ _ b (λe=>by obtain⟨c1,f1,e1⟩:=Lib.ownsRow_kind hz b hb;rw[show b=bh from e,h1]at e1;cases e1)
 refine⟨h.kx.set y,⟨cur.setIfInBounds i y,?_,by simp[h2],λt ht=>?_⟩,λt ht=>?_⟩
 .have qE:=(bf.1 h1).1;have hk:=(bf.1 h1).2;show(v.heap.modify bh _)[bh]?=_;rw[kV (by rw[Array.size_modify];exact qE),Array.getElem_modify_self,hk];rfl
 .by_cases e:t=i
  .subst e;simp[h2,hi]
  .rw[ah e,jr (di e)];exact h3 t ae
 .by_cases e:t=i
  .subst e;rw[aj rfl];exact kp hy
  .rw[ah e];exact kp (h.own t ae)
end
noncomputable def qa7:{x:Array Oper//x=uk (qJ z_)}:=⟨_,by(simp only[z_,aC6,yx,Pg,qJ,qo,uk,Tryz.f17,aB];rfl)⟩
noncomputable def agb:Code:=Pg (qJ (qo (qo z_)))
noncomputable def qa8:{x:Array Oper//x=uk (qJ agb)}:=⟨_,by(simp only[agb,z_,aC6,yx,Pg,qJ,qo,uk,Tryz.f17,aB];rfl)⟩
noncomputable def qa9:{x:Array Oper//x=uk (qJ (qo agb))}:=⟨_,by(simp only[agb,z_,aC6,yx,Pg,qJ,qo,uk,Tryz.f17,aB];rfl)⟩
noncomputable def Y_:{x:Array Oper//x=uk (qo (qo agb))}:=⟨_,by(simp only[agb,z_,aC6,yx,Pg,qJ,qo,uk,Tryz.f17,aB];rfl)⟩
noncomputable def aqm:{x:Array Oper//x=uk (qo (qo (qo z_)))}:=⟨_,by(simp only[z_,aC6,yx,Pg,qJ,qo,uk,Tryz.f17,aB];rfl)⟩
noncomputable def aqn:{x:Array Oper//x=uk (qJ Jk)}:=⟨_,by(simp only[Jk,yx,qJ,qo,uk,Tryz.f17,aB];rfl)⟩
noncomputable def aO7:Array Oper:=qa7.1
noncomputable def aO8:Array Oper:=qa8.1
noncomputable def aO9:Array Oper:=qa9.1
noncomputable def UJ:Array Oper:=Y_.1
noncomputable def aoD:Array Oper:=aqm.1
noncomputable def aqo:Array Oper:=aqn.1
theorem aa3:z_=.seq (.region 7 aO7 false) (.seq (.cond (.tmp 37) .skip (.exit 0)) (.seq (.block 1 (.seq (.region 8 aO8 false) (.seq (.region 9 aO9 false) (.region 10 UJ false)))) (.region 11 aoD false))):=ag
theorem ai1:Jk=.seq (.region 12 aqo false) .ret:=ag
theorem agc:UJ.size=7:=ag
def TL(pc bh Cc N:Nat)(vn vs vm:Value)(x:Int)(T:Array Value):Prop:=∃f:Nat->Value,T=#[f 0,f 1,f 2,.pointer (some ⟨pc,0,none⟩),f 4,f 5,vn,vs,vm,.slice (some ⟨bh,0,none⟩) N N,f 10,f 11,f 12,f 13,f 14,f 15,f 16,f 17,f 18,f 19,f 20,f 21,f 22,f 23,f 24,f 25,f 26,f 27,f 28,f 29,f 30,f 31,f 32,f 33,.slice (some ⟨Cc,0,none⟩) N N,.int .i64 ((N:Nat):Int),.int .i64 x,f 37,f 38,f 39,f 40,f 41,f 42,f 43,f 44,f 45,f 46,f 47,f 48,f 49,f 50,f 51,f 52,f 53,f 54,f 55,f 56,f 57,f 58,f 59]
theorem aeZ{pc bh Cc N:Nat}{vn vs vm:Value}{x:Int}{T:Array Value}(h:T=#[T.getD 0 undef,T.getD 1 undef,T.getD 2 undef,.pointer (some ⟨pc,0,none⟩),T.getD 4 undef,T.getD 5 undef,vn,vs,vm,.slice (some ⟨bh,0,none⟩) N N,T.getD 10 undef,T.getD 11 undef,T.getD 12 undef,T.getD 13 undef,T.getD 14 undef,T.getD 15 undef,T.getD 16 undef,T.getD 17 undef,T.getD 18 undef,T.getD 19 undef,T.getD 20 undef,T.getD 21 undef,T.getD 22 undef,T.getD 23 undef,T.getD 24 undef,T.getD 25 undef,T.getD 26 undef,T.getD 27 undef,T.getD 28 undef,T.getD 29 undef,T.getD 30 undef,T.getD 31 undef,T.getD 32 undef,T.getD 33 undef,.slice (some ⟨Cc,0,none⟩) N N,.int .i64 ((N:Nat):Int),.int .i64 x,T.getD 37 undef,T.getD 38 undef,T.getD 39 undef,T.getD 40 undef,T.getD 41 undef,T.getD 42 undef,T.getD 43 undef,T.getD 44 undef,T.getD 45 undef,T.getD 46 undef,T.getD 47 undef,T.getD 48 undef,T.getD 49 undef,T.getD 50 undef,T.getD 51 undef,T.getD 52 undef,T.getD 53 undef,T.getD 54 undef,T.getD 55 undef,T.getD 56 undef,T.getD 57 undef,T.getD 58 undef,T.getD 59 undef]):TL pc bh Cc N vn vs vm x T:=⟨λi=>T.getD i undef,h⟩
section
variable {X:Nat->Prop}{Y:Nat->Option Obj}{D:Nat->World->Array Event->Prop}{Stop:Goroutine->World->Prop}{cs:List Frame}{PZ:Frame}
theorem ah_(hD:vw X D){K N C m pc gm cm bh Cc L:Nat}{dN:Nat->Nat}{bN bZ:Option Addr}{cN cZ:Nat}{g:Nat->qY}{l:List UInt8}{u v0:World}(hKN:1<=K/\K<=N/\N<=128)(hC:1<=C/\C<=65536)(hL:L<=65536)(hNm:vV (qB m g))(hFw:Lm (qB m g) (qG m g))
  (par:qf u pc [.int .i64 ((K:Nat):Int),.int .i64 ((N:Nat):Int),.int .i64 ((C:Nat):Int)] 24) (NJ:CS u gm 0 (rf (wS (qB m g) (qG m g) (qB m g).length))) (gml:gm<u.heap.size) (tab:CQ u) (hu:u.heap.size<=bh) (QC:Sub u v0) (hV:VA K N L Cc bh dN l v0) (xq:∃cur:Array Value,v0.heap[bh]?=some (.cells cur 34))
  (done:∀v ov,LA K N C m L bh g l v0 N ov v->∀w,qL X Y w v->rV prog D Stop (G (PZ.finish (.tuple #[.slice (some ⟨bh,0,none⟩) N N,.bool true])) cs) w):
  ∀(q i:Nat)(T:Array Value)(v:World)(ov:Nat->Value),i+q=N->TL pc bh Cc N (.slice bN m cN) (.slice bZ m cZ) (.slice (some ⟨gm,0,none⟩) (YO m g) cm) ((i:Nat):Int) T->LA K N C m L bh g l v0 i ov v->rD prog X Y D Stop none [] 17 (PZ::cs) [.code z_,.inLoop z_,.inBlock 0,.code Jk] T v:=by
 intro q
 induction q with
 |zero=>
  intro i T v ov hi ⟨f,hT⟩ hA;obtain rfl:i=N:=ae;subst hT;have GH:¬((i:Int)<(i:Int)):=ae;rw[aa3];refine qx hD (rY qK hD ag sfA λR hR τ d=>?_);simp only[aO7,qa7];go_wp2;change rD _ _ _ _ _ _ _ _ _ _ _ v;refine qx hD (yI (b:=false) hD ai (Xv hD rfl ?_));rw[ai1];refine qx hD (rY qK hD ag sfA λR hR τ d=>?_);simp only[aqo,aqn];go_wp2;change rD _ _ _ _ _ _ _ _ _ _ _ v;refine Jd (a:=⟨_,[]⟩) hD rfl func17 (λτ d=>results_tmp2 (fn:=Tryz.f17) (t:=4) (u:=5) rfl _ _ _) ?_;exact done v ov hA
 |succ q ih=>
  intro i T v ov hi ⟨f,hT⟩ hA;subst hT;have qE:i<N:=ae;have Ag:(i:Int)<(N:Int):=ae;rw[show[Item.code z_,Item.inLoop z_,Item.inBlock 0,Item.code Jk]=[Item.code (.seq (.region 7 aO7 false) (.seq (.cond (.tmp 37) .skip (.exit 0)) (.seq (.block 1 (.seq (.region 8 aO8 false) (.seq (.region 9 aO9 false) (.region 10 UJ false)))) (.region 11 aoD false)))),Item.inLoop z_,Item.inBlock 0,Item.code Jk]by rw[<-aa3]];refine qx hD (rY qK hD ag sfA λR hR τ d=>?_);simp only[aO7,qa7];go_wp2;change rD _ _ _ _ _ _ _ _ _ _ _ v;refine qx hD (yI (b:=true) hD ai (F9 hD (qx hD (zJ hD (qx hD (rY qK hD ag sfA λR hR τ d=>?_))))));have cC:=LA.qy (v:={v with tape:=τ,drawn:=d}) (hA.tape τ d) hV qE;simp only[aO8,qa8];go_wp2;change rD _ _ _ _ _ _ _ _ _ _ _ v;clear cC;refine qx hD (rY qK hD ag sfA λR hR τ d=>?_);have hr:=(hA.kx.sub QC hu).row par;replace hr:qf {v with tape:=τ,drawn:=d} pc [.int .i64 ((K:Nat):Int),.int .i64 ((N:Nat):Int),.int .i64 ((C:Nat):Int)] 24:=hr;have c0:=hr.cell (i:=0) rfl;have c1:=hr.cell (i:=1) rfl;have c2:=hr.cell (i:=2) rfl;have hsz:({v with tape:=τ,drawn:=d}:World).heap.size=v.heap.size:=rfl;have O8:LA K N C m L bh g l v0 i ov (({v with tape:=τ,drawn:=d}:World).alloc (.cells #[.int .i64 ((K:Nat):Int),.int .i64 ((N:Nat):Int),.int .i64 ((i:Nat):Int),.int .i64 ((C:Nat):Int),.slice bN m cN,.slice bZ m cZ,.slice (some ⟨dN i,0,none⟩) L L] 55)):=(hA.tape τ d).kept (UI ((aA _ _).alloc (ak _) _));have xW:qf (({v with tape:=τ,drawn:=d}:World).alloc (.cells #[.int .i64 ((K:Nat):Int),.int .i64 ((N:Nat):Int),.int .i64 ((i:Nat):Int),.int .i64 ((C:Nat):Int),.slice bN m cN,.slice bZ m cZ,.slice (some ⟨dN i,0,none⟩) L L] 55)) ({v with tape:=τ,drawn:=d}:World).heap.size [.int .i64 ((K:Nat):Int),.int .i64 ((N:Nat):Int),.int .i64 ((i:Nat):Int),.int .i64 ((C:Nat):Int),.slice bN m cN,.slice bZ m cZ,.slice (some ⟨dN i,0,none⟩) L L] 55:=qf.made _ _ _;generalize({v with tape:=τ,drawn:=d}:World)=v1 at*;simp only[aO9,qa9];go_wp2;generalize v1.alloc (.cells #[.int .i64 ((K:Nat):Int),.int .i64 ((N:Nat):Int),.int .i64 ((i:Nat):Int),.int .i64 ((C:Nat):Int),.slice bN m cN,.slice bZ m cZ,.slice (some ⟨dN i,0,none⟩) L L] 55)=v2 at*;rw[hsz]at xW;clear c0 c1 c2 hr hA;have O5:=O8.kx.sub QC hu;refine BV hD ?_;rw[agc];simp only[List.range,List.range.loop];refine qw qK hD (.slice (some ⟨bh,0,none⟩) N N) jw rfl ag (λz _=>aN) ?_;walk_nrm;refine qw qK hD (.int .i64 ((i:Nat):Int)) jw rfl ag (λz _=>aN) ?_;walk_nrm
  refine qw qK hD (.agg #[.int .i64 ((K:Nat):Int),.int .i64 ((N:Nat):Int),.int .i64 ((i:Nat):Int),.int .i64 ((C:Nat):Int),.slice bN m cN,.slice bZ m cZ,.slice (some ⟨dN i,0,none⟩) L L]) jw rfl ag (λz hz=>by
   have hrz:qf z v.heap.size [.int .i64 ((K:Nat):Int),.int .i64 ((N:Nat):Int),.int .i64 ((i:Nat):Int),.int .i64 ((C:Nat):Int),.slice bN m cN,.slice bZ m cZ,.slice (some ⟨dN i,0,none⟩) L L] 55:=by show z.heap[v.heap.size]?=_;rw[hz];exact xW
   have c0:=hrz.cell (i:=0) rfl;have c1:=hrz.cell (i:=1) rfl;have c2:=hrz.cell (i:=2) rfl;have c3:=hrz.cell (i:=3) rfl;have c4:=hrz.cell (i:=4) rfl;have c5:=hrz.cell (i:=5) rfl;have c6:=hrz.cell (i:=6) rfl;go_simp) ?_
  walk_nrm;refine qw qK hD (.slice (some ⟨gm,0,none⟩) (YO m g) cm) jw rfl ag (λz _=>aN) ?_;walk_nrm;refine xH hD jw rfl ax func31 ag (c:=Lt) ag (vs:=#[.agg #[.int .i64 ((K:Nat):Int),.int .i64 ((N:Nat):Int),.int .i64 ((i:Nat):Int),.int .i64 ((C:Nat):Int),.slice bN m cN,.slice bZ m cZ,.slice (some ⟨dN i,0,none⟩) L L],.slice (some ⟨gm,0,none⟩) (YO m g) cm]) (n:=51) fQ ag ?_
  have hml:(wS (qB m g) (qG m g) (qB m g).length).length<=300000:=by have:=Bh (qB m g) hNm (qB m g).length (ak _);have:=hFw.1;rw[J9];omega
  have aoE:Hid (YO m g=(wS (qB m g) (qG m g) (qB m g).length).length+8):=by show _=_;unfold YO;rw[sO]
  refine af7 hD K N i C ae ae ae ae ae (.slice bN m cN) (.slice bZ m cZ) (some ⟨dN i,0,none⟩) L L (AY K L l i) (yc _ _ _ _) hL gm cm (YO m g) _ rfl (by have:=aoE.out;omega) (by have:=aoE.out;omega) (O8.lies hV xq qE) (O5.IW NJ) (aK gml O5.1) (O5.tab tab) λy v3 hO3 hK3=>?_
  have akO:rG 0 v3 y (IU K N C (qB m g) (qG m g) i (AY K L l i)):=by unfold IU;rw[yc];rw[aoE.out,gz]at hO3;exact hO3.ars (fC _)
  have Px:=O8.kept hK3;rw[wU jw];show rD _ _ _ _ _ _ _ _ _ _ _ _;walk_nrm;have hA4:=Px.store qE akO;obtain⟨cur,x9,zD,_⟩:=Px.sh;have O9:(i:Nat)<N:=qE;refine qw qK hD (.pointer (some ⟨bh,i,none⟩)) jw rfl ag (λz _=>aN) ?_;walk_nrm;obtain⟨xo,co,rfl⟩:=af5 akO
  refine acU (a:=⟨bh,i,none⟩) (u:=.slice xo (IU K N C (qB m g) (qG m g) i (AY K L l i)).length co) qK hD jw rfl ag rfl (λz hz=>by
   have e1:z.heap[bh]?=some (.cells cur 34):=by rw[hz];exact x9
   obtain⟨old,hold⟩:∃old,cur[i]?=some old:=⟨cur[i]' ae,kV ae⟩;have c0:z.cell? ⟨bh,i,none⟩=some old:=cell_of_block e1 hold;have f0:z.frozen? ⟨bh,i,none⟩=false:=by simp[World.frozen?,e1]
   go_simp) ?_
  refine tZ hD (GN hD (rY qK hD ag sfA λR hR τ d=>?_));simp only[aoD,aqm];go_wp2;refine QK hD (ih (i+1) _ _ _ ae ?_ (hA4.tape τ d));rw[Int.natCast_add];exact aeZ rfl
end
section
variable {X:Nat->Prop}{Y:Nat->Option Obj}{D:Nat->World->Array Event->Prop}{Stop:Goroutine->World->Prop}{v:World}{cs:List Frame}{PZ:Frame}
theorem ap4(hD:vw X D){pc bh Cc N:Nat}{vn vs vm x:Value}{T:Array Value}{rest:List Nat}(hT:TA pc vn vs vm (.slice (some ⟨bh,0,none⟩) N N) x T)(hL:Left x rest)
  (qH:∀T,TL pc bh Cc N vn vs vm 0 T->rD prog X Y D Stop none [] 17 cs [.code z_,.inLoop z_,.inBlock 0,.code Jk] T v):
  ∀w,qL X Y w v->rV prog D Stop (G ((Jb T rest).finish (.slice (some ⟨Cc,0,none⟩) N N)) cs) w:=by
 rw[show Jb T rest=Dn none [] 17 T (.inRegion EF (6::rest)::[.code (.block 0 (.loop z_)),.code Jk])from rfl];rw[wU dE];show rD _ _ _ _ _ _ _ _ _ _ _ _;obtain⟨f,rfl⟩:=hT;walk_nrm;rcases hL with⟨rfl,rfl⟩|rfl|rfl
 .refine qw qK hD (.int .i64 ((N:Nat):Int)) dE rfl ag (λz _=>aN) ?_;walk_nrm;exact awW
 .refine qw qK hD (.int .i64 ((N:Nat):Int)) dE rfl ag (λz _=>aN) ?_;walk_nrm;refine qw qK hD (.int .i64 0) dE rfl ag (λz _=>aN) ?_;walk_nrm;exact awW
 .refine qw qK hD (.int .i64 0) dE rfl ag (λz _=>aN) ?_;walk_nrm;refine qw qK hD (.int .i64 ((N:Nat):Int)) dE rfl ag (λz _=>aN) ?_;walk_nrm;exact awW
theorem an2(hD:vw X D){T:Array Value}(hT:T28 T){vh:Value}
  (qH:∀w,qL X Y w v->rV prog D Stop (G (PZ.finish (.tuple #[vh,.int .i64 0])) cs) w):
  ∀w,qL X Y w v->rV prog D Stop (G ((EO T).finish (.tuple #[vh,.bool true])) (PZ::cs)) w:=by
 rw[show EO T=Dn none [] 8 T (.inRegion enO [2,3,4,5,6,7]::[.code enD])from rfl];rw[wU je];show rD _ _ _ _ _ _ _ _ _ _ _ _;obtain⟨f,rfl⟩:=hT;walk_nrm;refine qw qK hD (.tuple #[vh,.bool true]) je rfl ag (λz _=>aN) ?_;walk_nrm;refine qw qK hD vh je rfl ag (λz _=>aN) ?_;walk_nrm;refine qw qK hD (.bool true) je rfl ag (λz _=>aN) ?_;walk_nrm;refine qw qK hD vh je rfl ag (λz _=>aN) ?_;walk_nrm;refine qw qK hD (.bool true) je rfl ag (λz _=>aN) ?_;walk_nrm;refine tZ hD ?_;unfold enD enC xQ;simp only[qo,Tryz.f8,aB];refine qx hD (rY qK hD ag af_ λR hR τ d=>?_);go_wp2;change rD _ _ _ _ _ _ _ _ _ _ _ v;refine qx hD (rY qK hD ag af_ λR hR τ d=>?_);go_wp2;change rD _ _ _ _ _ _ _ _ _ _ _ v;refine Jd (a:=⟨_,[]⟩) hD rfl func8 (λτ d=>results_tmp2 (fn:=Tryz.f8) (t:=4) (u:=5) rfl _ _ _) ?_;exact qH
