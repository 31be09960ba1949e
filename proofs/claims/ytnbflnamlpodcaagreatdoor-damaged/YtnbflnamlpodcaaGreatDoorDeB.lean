import Derived.Test.YtnbflnamlpodcaaGreatDoorEnY
import Derived.Test.YtnbflnamlpodcaaGreatDoorDeA
set_option maxHeartbeats 8000000
set_option maxRecDepth 100000
namespace Go.Proofs.Y
open Go.Proofs.Tryz
open Go.RowKit Go.Deep Go.Lf Go.Conc Go.ConcN Go.Gh Go.Hp
open Go.ConcR (Payload WgAt wgBlock)
def vg(X:Nat->Prop)(l:Loc):Prop:=∃a:Addr,l=.cell a/\X a.block
theorem Bc(X:Nat->Prop):vw X (DM (vg X)):=YN λ_ h=>h
theorem PFc.tp{k n L:Nat}{l:List UInt8}{bk bd P F ba C:Nat}{w:World}(h:PFc k n L l bk bd P F ba C w)(τ:Nat->Question->Nat)(d:Nat):PFc k n L l bk bd P F ba C {w with tape:=τ,drawn:=d}:=⟨h.vk,h.vd,h.hP,h.hF,h.va,h.pay,h.new⟩
theorem PFc.alloc{k n L:Nat}{l:List UInt8}{bk bd P F ba C:Nat}{w:World}(h:PFc k n L l bk bd P F ba C w)(o:Obj):PFc k n L l bk bd P F ba C (w.alloc o):=by obtain⟨n1,n2,n3,n4,n5,n6⟩:=h.new;exact⟨uG o h.vk,uG o h.vd,λj hj=>uG o (h.hP j hj),λi hi=>uG o (h.hF i hi),uG o h.va,(bM _ _ _ ae).trans h.pay,⟨n1,n2,n3,n4,n5,az⟩⟩
theorem ah5{m:Nat}{g:Nat->qY}(h:∀i,i+1<m->Hp.lt (g i).k (g (i+1)).k=true):Srt m g:=λi hi=>by
 have h1:=h i hi;rcases Hp.GU (g i).k (g (i+1)).k with⟨_,h2,_⟩|⟨_,h2,_⟩|⟨_,h2,_⟩
 .exact h2
 .rw[h1]at h2;cases h2
 .rw[h1]at h2;cases h2
structure FkD(K N C m:Nat)(f:Nat->qY)(d:qY->List UInt8)(v0:World)(g:Nat->qY)(T18 V8 T:Array Value)(rest:List Nat)(x vn vs vj:Value)(pc gm cm bh bk bd Pp Ff ba Cc:Nat)(wc u w2 v3:World):Prop where
 t18:T28 T18
 ta:TA pc vn vs (.slice (some ⟨gm,0,none⟩) (YO m g) cm) (.slice (some ⟨bh,0,none⟩) N N) x V8
 lf:Left x rest
 tp:TPc bk bd ba T
 pf:PFc K N (tX K (rC (λj=>d (g j)) m).length) (rC (λj=>d (g j)) m) bk bd Pp Ff ba Cc v3
 low:∀b,b<w2.heap.size->b<Cc
 ge:w2.heap.size<=bk/\w2.heap.size<=bd/\w2.heap.size<=Pp/\w2.heap.size<=Ff
 fa:FA K N C m g (rC (λj=>d (g j)) m) pc gm bh vn vs vj wc u w2
 b3:sK w2.heap.size w2 v3
 vu:sK v0.heap.size v0 u
 re:qN m f g
 lt:∀i,i+1<m->Hp.lt (g i).k (g (i+1)).k=true
 nm:vV (qB m g)
 fw:Lm (qB m g) (qG m g)
 jl:(rC (λj=>d (g j)) m).length<=65536
def AtF(X:Nat->Prop)(Y:Nat->Option Obj)(K N C m:Nat)(f:Nat->qY)(d:qY->List UInt8)(fr:Frame)(cs:List Frame)(v0:World)(gr:Goroutine)(W:World):Prop:=
 ∃(g:Nat->qY)(T18 V8 T:Array Value)(rest:List Nat)(x vn vs vj:Value)(pc gm cm bh bk bd Pp Ff ba Cc:Nat)(wc u w2 v3:World),
  gr=G ((base 29).at ⟨T,[]⟩ [.code gc3]) (Jb V8 rest::EO T18::fr::cs)/\qL X Y W v3/\FkD K N C m f d v0 g T18 V8 T rest x vn vs vj pc gm cm bh bk bd Pp Ff ba Cc wc u w2 v3
theorem alz{X:Nat->Prop}{Y:Nat->Option Obj}{D:Nat->World->Array Event->Prop}(sW:vw X D){K N C m cap:Nat}{bo:Option Addr}{f:Nat->qY}{d:qY->List UInt8}{v:World}{fr:Frame}{cs:List Frame}(hA:YF v bo m cap f d)(hP:Ah (K:Int) (N:Int) (C:Int))(hNf:uM m f)(hFw:∀g,qN m f g->Srt m g->Lm (qB m g) (qG m g))(hT:CQ v):
  uh prog X Y D (AtF X Y K N C m f d fr cs v) 8 (fr::cs) [.code xQ] ⟨#[.slice bo m cap,.agg #[.int .i64 ((K:Nat):Int),.int .i64 ((N:Nat):Int),.int .i64 ((C:Nat):Int)]]++Array.replicate 26 undef,[]⟩ v:=by
 obtain⟨⟨q1,q2,q3⟩,q4,q5⟩:=id hP;refine alA sW hA hP hNf λT18 g bo2 La wc arM hR qE hBc hbc=>?_
 have hS:=ah5 qE;have hN:=(Xw hR hS).2 hNf;have hF:=hFw g hR hS
 have hD:∀i,i<m->yR wc (g i) (d (g i)):=λi hi=>by obtain⟨j,hj,e⟩:=hR.from hi;rw[e];exact(hA.dat j hj).AZ hbc (ak _)
 have Nz:(rC (λj=>d (g j)) m).length<=65536:=by rw[<-FY d g m (λi hi=>(hD i hi).1)];exact hF.2.1
 refine alB (d:=d) sW ae hA.hm hBc hD hN hF (hT.AZ hbc hT.1) λV8 rest x vn vs vj pc gm cm bh u w2 hTA hL hFA=>?_
 refine QN sW ae ae ae Nz hFA.dat λbk bd Pp Ff ba Cc T v3 hTP hPF uy VF vK=>?_
 intro W hW;refine .stop λdd=>⟨g,T18,V8,T,rest,x,vn,vs,vj,pc,gm,cm,bh,bk,bd,Pp,Ff,ba,Cc,wc,u,w2,v3,rfl,hW.at dd,⟨arM,hTA,hL,hTP,hPF,uy,VF,hFA,vK,hbc.trans hFA.wu hbc.sH,hR,qE,hN,hF,Nz⟩⟩
theorem Ur{D:Nat->World->Array Event->Prop}(hD0:∀n w,n<=w.heap.size->D n w #[]){cs:List Frame}{bk bd ba:Nat}{T:Array Value}(W:World)(hT:TPc bk bd ba T):
  ∃T',(∀E:FB,E.bk=bk->E.bd=bd->E.ba=ba->TB E W.heap.size T')/\∀Stop:Goroutine->World->Prop,(∀dd d',Stop (G ((base 29).at ⟨T',[]⟩ [.code zY]) cs) (((W.at dd).alloc (wgBlock link.tWg 0 0)).at d'))->rV prog D Stop (G ((base 29).at ⟨T,[]⟩ [.code gc3]) cs) W:=by
 obtain⟨f,rfl⟩:=hT;rw[anZ]
 have key:∀(Stop:Goroutine->World->Prop)(a:Act)(o:Oper)(u:Value),og3[0]?=some o->a.defers=[]->Region.wanted o (yielded og3 a.tmps)=true->(∀z:World,z.heap.size=W.heap.size->(execOp a.eval o).run prog z=.ok (.value u) (z.alloc (wgBlock link.tWg 0 0)))->(∀z,listed prog 29 a o z=#[])->
   (∀dd d',Stop (G ((base 29).at (a.put o.dst u) [.code zY]) cs) (((W.at dd).alloc (wgBlock link.tWg 0 0)).at d'))->rV prog D Stop (G ((base 29).at a [.code (.seq (.region 3 og3 false) zY)]) cs) W:=by
  intro Stop a o u ho ha hw hr hl uw;refine .next rfl λd1=>⟨_,_,_,aC,hD0 _ _ (ak _),.next rfl λd2=>⟨_,_,_,cO,hD0 _ _ (ak _),?_⟩⟩
  rw[ng3];simp only[List.range,List.range.loop];refine .next rfl λd3=>⟨_,_,_,stepG_value (b:=base _) ho hw ni (hr _ rfl),?_,.next rfl λd4=>⟨_,_,_,aH,hD0 _ _ (ak _),.stop λd5=>uw d3 d5⟩⟩
  rw[show(base 29).fn=29 from rfl,hl];exact hD0 _ _ (by simp[World.at])
 refine⟨(#[f 0,f 1,f 2,.pointer (some ⟨bk,0,none⟩),f 4,f 5,f 6,.pointer (some ⟨bd,0,none⟩),.pointer (some ⟨ba,0,none⟩),f 9,f 10,f 11,f 12,f 13,f 14,f 15,f 16,f 17,f 18,f 19,f 20,f 21,f 22,f 23,f 24,f 25]:Array Value).setIfInBounds 9 (.pointer (some ⟨W.heap.size,0,none⟩)),λE h1 h2 h3=>?_,λStop uw=>?_⟩
 .subst h1 h2 h3;exact⟨λi=>if i=9 then undef else f i,rfl⟩
 .refine key Stop _ _ (.pointer (some ⟨W.heap.size,0,none⟩)) (by simp only[og3,qg3];rfl) rfl rfl (λz hz=>by rw[<-hz];go_simp;rfl) (λz=>listed_nil aN) ?_;exact uw
theorem Xx(k L:Nat)(l:List UInt8)(bk bd P F ba:Nat)(h0:Nat->Option Obj)(t:Nat):tV ((Iw k L l bk bd P F ba h0).res k L t)=(r_ (AY k L l t)).toArray:=by rw[an0,an1];unfold tV ah6;rw[jo];rfl
structure KpX(X:Nat->Prop)(w w':World):Prop where
 os:w'.os=w.os
 output:w'.output=w.output
 size:w.heap.size<=w'.heap.size
 block:∀b,b<w.heap.size->¬X b->w'.heap[b]?=w.heap[b]?
theorem QO{Fin:Machine->Trace->Prop}(wZ:∀m m' ops t,stepT prog m=(.next m',ops)->Fin m' (t++ops)->Fin m t){X:Nat->Prop}{Y:Nat->Option Obj}{e:Nat}{gs:Array Goroutine}{W v0:World}{sl:Option (Nat×Nat)}{t:Trace}{q:Nat->Nat}{fr:Frame}{cs:List Frame}{K N C m cap:Nat}{bo:Option Addr}{f:Nat->qY}{d:qY->List UInt8}
  (h0:gs[0]?=some (G ((base 8).at ⟨#[.slice bo m cap,.agg #[.int .i64 ((K:Nat):Int),.int .i64 ((N:Nat):Int),.int .i64 ((C:Nat):Int)]]++Array.replicate 26 undef,[]⟩ [.code xQ]) (fr::cs))) (hB:IE prog (vg X) e gs W t q) (hs:qL X Y W v0)
  (hA:YF v0 bo m cap f d) (hP:Ah (K:Int) (N:Int) (C:Int)) (hNf:uM m f) (hFw:∀g,qN m f g->Srt m g->Lm (qB m g) (qG m g)) (hT:CQ v0) (he:e+N<2147483648)
  (qH:∀(g:Nat->qY)(bh Wg:Nat)(ov:Nat->Value)(Nl:Array Goroutine)(W':World)(sl':Option (Nat×Nat))(t':Trace)(q':Nat->Nat)(Y':Nat->Option Obj)(v':World),qN m f g->Srt m g->Nl[0]?=some (G (fr.finish (.tuple #[.slice (some ⟨bh,0,none⟩) N N,.int .i64 0])) cs)->
   IE prog (vg λb=>X b\/b=Wg) (e+N) Nl W' t' q'->qL (λb=>X b\/b=Wg) Y' W' v'->W.heap.size<=Wg->Sub v0 v'->KpX X W W'->(∀i,i<N->v'.cell? ⟨bh,i,none⟩=some (ov i))->
   (∀i,i<N->rG 0 v' (ov i) (IU K N C (qB m g) (qG m g) i (AY K (tX K (rC (λj=>d (g j)) m).length) (rC (λj=>d (g j)) m) i)))->Fin (crowd Nl W' sl') t'):
  Fin (crowd gs W sl) t:=by
 obtain⟨⟨q1,q2,q3⟩,q4,q5⟩:=id hP;have xn:=hs;obtain⟨τ0,dd0,NC⟩:=xn;have hX0:∀b,X b->b<v0.heap.size:=λb hb=>NC.bound b (.inl hb)
 refine late (Fin:=Fin) (Shun:=vg X) (e:=e) wZ (λ_ _ _ h=>h) (λgs1 a1 W1 sl1 t1 q1 h01 uw Iq=>?_) (alz (Bc X) (fr:=fr) (cs:=cs) (Y:=Y) hA hP hNf hFw hT W hs) W.drawn gs sl t q h0 hB;obtain⟨g,T18,V8,T,rest,x,vn,vs,vj,pc,gm,cm,bh,bk,bd,Pp,Ff,ba,Cc,wc,u,w2,v3,rfl,ZX,hk⟩:=uw W1.drawn;replace ZX:qL X Y W1 v3:=ZX;letI:qV:=⟨X⟩;obtain⟨n1,n2,n3,n4,n5,n6⟩:=hk.pf.new;have ahf:W1.heap.size=v3.heap.size:=by obtain⟨_,_,h⟩:=ZX;exact h.size
 have hvu:=hk.vu.sH;have huw:u.heap.size<=w2.heap.size:=hk.fa.AZ.sH;have Pm:∀b,X b->b<w2.heap.size:=λb hb=>by have:=hX0 b hb;omega
 have ah7:IE prog (GV W1.heap.size) e gs1 W1 t1 q1:=Iq.more (λl h=>.inr h) (λl h=>h.elim (λ⟨a,ea,ya⟩=>.inr ⟨a,ea,dX ya.symm⟩) .inl);obtain⟨T',hTW,hG⟩:=Ur (D:=DM (GV W1.heap.size)) (λn w h=>⟨h,ai⟩) (cs:=Jb V8 rest::EO T18::fr::cs) W1 hk.tp;refine late (Fin:=Fin) (Shun:=GV W1.heap.size) (e:=e) wZ (λ_ _ _ h=>h) (λgs2 a2 W2 sl2 t2 q2 h02 akH Ae=>?_) (hG (λgr w=>gr=G ((base 29).at ⟨T',[]⟩ [.code zY]) (Jb V8 rest::EO T18::fr::cs)/\∃dd d',w=((W1.at dd).alloc (wgBlock link.tWg 0 0)).at d') (λdd d'=>⟨rfl,dd,d',rfl⟩)) W1.drawn gs1 sl1 t1 q1 h01 ah7;obtain⟨rfl,dd,d',K_⟩:=akH W2.drawn;replace K_:W2=((W1.at dd).alloc (wgBlock link.tWg 0 0)).at d':=K_;generalize Xy:W1.heap.size=Wg at*
 have hS2:qL X Y W2 (v3.alloc (wgBlock link.tWg 0 0)):=by exact axf
 have wH:W2.heap.size=Wg+1:=au2
 have SV:W2.heap[Wg]?=some (wgBlock link.tWg 0 0):=by exact aw1
 have hl2:∀b,b<Wg->W2.heap[b]?=W1.heap[b]?:=λb hb=>by exact awS
 obtain⟨τ2,dd2,yJ⟩:=hS2;have hPF:=(hk.pf.alloc (wgBlock link.tWg 0 0)).tp τ2 dd2;have vK:sK w2.heap.size w2 {v3.alloc (wgBlock link.tWg 0 0)with tape:=τ2,drawn:=dd2}:=(hk.b3.trans (sK.of ((aA v3.heap.size v3).alloc (ak _) _)) hk.b3.sH).tp τ2 dd2;generalize({v3.alloc (wgBlock link.tWg 0 0)with tape:=τ2,drawn:=dd2}:World)=v4 at yJ hPF vK;letI:Payload:=⟨34⟩;letI:yw:=⟨W2.output,W2.os⟩
 have hLb:(tX K (rC (λj=>d (g j)) m).length)<=65536:=by have:=Du (k:=K) ae (rC (λj=>d (g j)) m).length;have:=hk.jl;omega
 have ah8:PS (Iw K (tX K (rC (λj=>d (g j)) m).length) (rC (λj=>d (g j)) m) bk bd Pp Ff ba (λb=>W2.heap[b]?)) K N (tX K (rC (λj=>d (g j)) m).length):=aeI ae ae ae;have hSF:=Xz (lw:=w2.heap.size) rfl Pm Pm hk.ge yJ hPF wH ae;have hSp:=XA (cs:=Jb V8 rest::EO T18::fr::cs) ah8 (hTW _ rfl rfl rfl) hSF;refine YP (Fin:=Fin) (ty:=link.tWg) wZ h02 Ae (λb hb=>?_) (dm _) ae ae ae SV hSF.pay hSp ⟨λ_ _ _ _ r h=>V7.rely h r,λ_ _ _ _ r h=>KC.rely h r⟩ he rfl rfl (λids gs3 a3 W3 lb sl3 t3 q3 h03 ho hos hwk hK hp BF Ny=>?_)
 .have:=Pm b hb;have:=hk.low b this;omega
 obtain⟨T1,s0,j,ops,rfl,hTS,NY,Bf⟩:=hK;have Uj:∀b,b<Wg->b≠Cc->W3.heap[b]?=W2.heap[b]?:=λb hb hc=>NY.low.Uj b ae ae hc
 have hXC:∀b,X b->b<Wg/\b≠Cc:=λb hb=>by have h1:=Pm b hb;have:=hk.low b h1;omega
 obtain⟨Y',v',xu,VH⟩:=Tf W3 (λb=>X b\/b=Wg) (λb hb=>by
  rcases hb with hb|rfl
  .exact aw8
  .obtain⟨st,sm,hw⟩:=hwk;exact⟨_,_,hw⟩)
 obtain⟨⟨dN,hd⟩,hcell,hba⟩:=aeJ yJ wH ae vK hk.low hPF VH Pm NY Bf BF
 have O7:∀{b:Nat}{c:Array Value}{ty:TypeId}{fz:Nat×Nat},w2.heap[b]?=some (.cells c ty fz)->v'.heap[b]?=some (.cells c ty fz):=λ{b c ty fz} h=>by
  have h1:b<w2.heap.size:=(bf.1 h).1;have h2:=hk.low b h1;have h3:v4.heap[b]?=some (.cells c ty fz):=(vK.blk h1).trans h;by_cases hx:X b
  .exact aw7
  .exact aw3
 have e1:v'.heap.size=W3.heap.size:=xu.size.symm;have e2:Wg+1<=W3.heap.size:=aJ NY.sb.2.1 NY.sb.2.2;have ap2:w2.heap.size<=v3.heap.size:=hk.b3.sH;have hus:=hk.fa.us;have hbh:bh<w2.heap.size:=(bf.1 hk.fa.sh).1
 have QC:Sub u v':=⟨ae,λb c ty fz hx=>by have hxl:=(bf.1 hx).1;exact O7 ((hk.fa.AZ.blk ae).trans hx)⟩
 have hVA:VA K N (tX K (rC (λj=>d (g j)) m).length) Cc bh dN (rC (λj=>d (g j)) m) v':=⟨λt ht=>(hd t ht).1,λt ht=>av_,by have:=hk.low bh hbh;omega⟩;obtain⟨bN,cN,rfl,hcN,_⟩:=hk.fa.nm;obtain⟨bZ,cZ,rfl,hcZ,_⟩:=hk.fa.sz;have hTA:=hk.ta;rw[v_,vG]at hTA;rw[ER,yh]at hTA;have hD':vw (λb=>X b\/b=Wg) (DM (GV Wg)):=YN λl h=>h.elim (λ⟨a,ea,ya⟩=>⟨a,ea,.inr ya⟩) (λ⟨a,ea,ya⟩=>⟨a,ea,.inl ya⟩)
 refine late (Fin:=Fin) (Shun:=GV Wg) (e:=e+N) (Stop:=λgr w=>∃v5 ov,gr=G (fr.finish (.tuple #[.slice (some ⟨bh,0,none⟩) N N,.int .i64 0])) cs/\qL (λb=>X b\/b=Wg) Y' w v5/\LA K N C m (tX K (rC (λj=>d (g j)) m).length) bh g (rC (λj=>d (g j)) m) v' N ov v5) wZ (λ_ _ _ h=>h) (λVU a4 W4 Yn t4 q4 ZR ah9 Ib=>?_) (am1 (X:=λb=>X b\/b=Wg) (Y:=Y') hD' hTS hba (λτ dd w1 BB=>?_) W3 xu.t) W3.drawn gs3 sl3 t3 q3 h03 Ny
 .obtain⟨v5,ov,rfl,FP,hLA⟩:=ah9 W4.drawn;replace FP:qL (λb=>X b\/b=Wg) Y' W4 v5:=FP;have aaA:=hLA.kx.sub QC ae;have ap3:Sub v0 u:=⟨hk.vu.sH,λb c ty fz hx=>(hk.vu.blk ((bf.1 hx).1)).trans hx⟩;obtain⟨cur,hc1,VD,hc3⟩:=hLA.sh;refine qH g bh Wg ov VU W4 Yn t4 q4 Y' v5 hk.re (ah5 hk.lt) ZR (Ib.more (λl h=>h.elim (λ⟨a,ea,ya⟩=>⟨a,ea,.inr ya⟩) (λ⟨a,ea,ya⟩=>⟨a,ea,.inl ya⟩)) (λl ⟨a,ea,ya⟩=>.inl (ya.elim (λy=>.inr ⟨a,ea,y⟩) (λy=>.inl ⟨a,ea,y⟩)))) FP ?_ ⟨aJ ap3.1 aaA.1,λb c ty fz hx=>aaA.2 b c ty fz (ap3.2 b c ty fz hx)⟩ ?_ (λi hi=>cell_of_block hc1 (hc3 i hi)) hLA.own
  .exact aw0
  .have x_:W.heap.size=v0.heap.size:=NC.size;obtain⟨τ5,d5,NZ⟩:=FP;obtain⟨τ1,d1,VI⟩:=ZX;have z5:W4.heap.size=v5.heap.size:=NZ.size;have zk:=hLA.kx.size;refine⟨?_,?_,ae,λb hb hx=>?_⟩
   .have o1:W4.os=v5.os:=NZ.os;have o2:=hLA.kx.os;have o3:W3.os=v'.os:=xu.os;have o4:W3.os=W2.os:=hos;have o5:W2.os=W1.os:=lK;have o6:W1.os=v3.os:=VI.os;have o7:v3.os=w2.os:=hk.b3.os;have o8:w2.os=u.os:=hk.fa.AZ.os;have o9:u.os=v0.os:=hk.vu.os;have o10:W.os=v0.os:=NC.os;rw[o1,o2,<-o3,o4,o5,o6,o7,o8,o9,o10]
   .have o1:W4.output=v5.output:=NZ.out;have o2:=hLA.kx.output;have o3:W3.output=v'.output:=xu.out;have o4:W3.output=W2.output:=ho;have o5:W2.output=W1.output:=lK;have o6:W1.output=v3.output:=VI.out;have o7:v3.output=w2.output:=hk.b3.output;have o8:w2.output=u.output:=hk.fa.AZ.output;have o9:u.output=v0.output:=hk.vu.output;have o10:W.output=v0.output:=NC.out;rw[o1,o2,<-o3,o4,o5,o6,o7,o8,o9,o10]
   .have hbC:=hk.low b ae;have a1:W4.heap[b]?=W3.heap[b]?:=xE.agree xu NZ (λhh=>hh.elim hx ae) (hLA.kx.block b ae ae);have a2:=Uj b ae ae;have a3:=hl2 b ae;have a4:W1.heap[b]?=W.heap[b]?:=xE.agree NC VI hx ((hk.b3.blk ae).trans ((hk.fa.AZ.blk ae).trans (hk.vu.blk ae)));rw[a1,a2,a3,a4]
 .refine ap4 (v:=v') hD' hTA hk.lf (λT5 hT5=>?_) w1 BB;refine ah_ (v0:=v') (u:=u) (dN:=dN) (l:=(rC (λj=>d (g j)) m)) (L:=(tX K (rC (λj=>d (g j)) m).length)) hD' ae ae hLb hk.nm hk.fw hk.fa.par hk.fa.NJ hk.fa.gml hk.fa.tab ae QC hVA ⟨_,O7 hk.fa.sh⟩ (λv2 ov hLA=>?_) N 0 T5 v' (λ_=>undef) ae hT5 ⟨KX.refl _ _,⟨_,O7 hk.fa.sh,gX _ _,λt ht=>absurd ht ae⟩,λt ht=>absurd ht ae⟩;exact an2 hD' hk.t18 (λw hw=>.stop λd6=>⟨v2,ov,rfl,hw.at d6,hLA⟩)
#print axioms QO
end Go.Proofs.Y
namespace Go.Proofs.Y
open Go.Proofs.Tryz
open Go.Conc Go.ConcN Go.RowKit Go.Gh Go.Conc.Lib Go.ConcR.Gen Go.ConcN.Gen
open Go.ConcR (Payload)
theorem n13:o13.size=3:=ag
section
variable [Payload][qV]{Wg C k B L:Nat}{E:Env}
def TW(E:Env)(Wg k:Nat)(T:Array Value):Prop:=∃f:Nat->Value,T=#[f 0,f 1,f 2,f 3,f 4,.slice (some ⟨E.bp,E.op,none⟩) k E.cp,f 6,.pointer (some ⟨E.bd,0,none⟩),f 8,f 9,.pointer (some ⟨E.bv,0,none⟩),.pointer (some ⟨E.ba,0,none⟩),.pointer (some ⟨Wg,0,none⟩),f 13,f 14,f 15,f 16,f 17,f 18,f 19,f 20,f 21,f 22,f 23,f 24,f 25,f 26,f 27,f 28,f 29,f 30,f 31,f 32,f 33,f 34,f 35,f 36,f 37,f 38,f 39,f 40,f 41,f 42,f 43,f 44,f 45,f 46,f 47,f 48,f 49,f 50,f 51,f 52,f 53,f 54,f 55,f 56,f 57,f 58,f 59,f 60,f 61,f 62,f 63,f 64,f 65,f 66,f 67,f 68]
theorem aia(hE:QJ E k L){cs:List Frame}{T:Array Value}{w:World}{s0:Nat}(hT:TW E Wg k T)(hF:SF Wg C k B L E s0 0 w):
  Sp prog link.tWg Wg C k B (E.Dx k) (V7 C L (E.res L)) (KR Wg C k B L E cs) (Um E 0 k) [] (G ((base 67).at ⟨T,[]⟩ [.code zf]) cs) w:=by
 obtain⟨m,hm⟩:=spj (Wg:=Wg) (C:=C) (k:=k) (B:=B) (L:=L) (E:=E) hE (cs:=cs) k 0 ae;rw[ahR];co_apply Exists.intro;obtain⟨f,rfl⟩:=hT;rw[ahQ]
 (co_apply ay rfl;intro _ qC;replace hF:=SF.rely hF qC;clear qC;rw[aC];simp only[aI];refine⟨aG p_ _,?_⟩)
 (co_apply ay rfl;intro _ qC;replace hF:=SF.rely hF qC;clear qC;rw[aC];simp only[aI];refine⟨aG p_ _,?_⟩)
 (co_apply ay rfl;intro _ qC;replace hF:=SF.rely hF qC;clear qC;rw[cO,n13];simp only[aI,List.range,List.range.loop];refine⟨aG p_ _,?_⟩;simp only[o13,q13])
 (co_apply ay rfl;intro _ qC;replace hF:=SF.rely hF qC;clear qC
  refine goes_oper_k rfl rfl au (λKq uA=>?_)
  (skip)
  go_simp
  try(unfold stored;go_simp)
  refine uA _ _ ⟨?_,?_⟩
  ·(co_quiet p_)
  clear uA Kq
  try walk_nrm)
 (co_apply ay rfl;intro _ qC;replace hF:=SF.rely hF qC;clear qC
  refine goes_oper_k rfl rfl au (λKq uA=>?_)
  (skip)
  go_simp
  try(unfold stored;go_simp)
  refine uA _ _ ⟨?_,?_⟩
  ·(co_quiet p_)
  clear uA Kq
  try walk_nrm)
 (co_apply ay rfl;intro _ qC;replace hF:=SF.rely hF qC;clear qC
  refine goes_oper_k rfl rfl au (λKq uA=>?_)
  (skip)
  go_simp
  try(unfold stored;go_simp)
  refine uA _ _ ⟨?_,?_⟩
  ·(co_quiet p_)
  clear uA Kq
  try walk_nrm)
 (co_apply ay rfl;intro _ qC;replace hF:=SF.rely hF qC;clear qC;rw[aH];simp only[aI];refine⟨aG p_ _,?_⟩)
 (co_apply ay rfl;intro _ qC;replace hF:=SF.rely hF qC;clear qC;rw[jZ];simp only[aI];refine⟨aG p_ _,?_⟩)
 (co_apply ay rfl;intro _ qC;replace hF:=SF.rely hF qC;clear qC;rw[stepG_loop];simp only[aI];refine⟨aG p_ _,?_⟩)
 exact hm _ _ [] s0 ⟨_,_,_,_,_,_,_,_,_,_,_,_,_,_,_,_,_,_,_,_,_,_,_,_,_,_,_,_,_,_,_,_,_,_,_,_,_,_,_,_,_,_,_,_,_,_,_,_,_,_,_,_,_,_,_,_,_,_,_,_,_,_,rfl⟩ hF (λx=>⟨λh=>jR,λh=>absurd h.2 ae⟩)
end
end Go.Proofs.Y
namespace Go.Proofs.Y
open Go.Proofs.Tryz
open Go.RowKit Go.Deep Go.Lf Go.Conc Go.ConcN Go.Gh
open Go.ConcR (Payload WgAt wgBlock)
structure DO(w:World)(n:Nat)(q:CL)(bd od:Nat->Nat)(yv:Nat->Nat->Nat):Prop where
 lt:∀i,i<n->bd i<w.heap.size
 here:∀i,i<n->0<q.L->q.db i=some ⟨bd i,od i,none⟩
 y:∀i m,i<n->m<q.L->w.cell? ⟨bd i,od i+m,none⟩=some (.int .u8 ((yv i m:Nat):Int))
 yl:∀i m,yv i m<256
noncomputable def q12:{x:Array Oper//x=amZ (amY ZW)}:=⟨_,by simp only[ZW,Ja,amY,QM,amZ,Tryz.f67,aB];rfl⟩
noncomputable def o12:Array Oper:=q12.1
theorem an3:ZW=.seq (.region 12 o12 false) zf:=ag
theorem n12:o12.size=1:=ag
section
variable {K L:Nat}
def Jc(q:CL)(bd od:Nat->Nat)(yv:Nat->Nat->Nat)(L i:Nat):Ub:=⟨q.db i,bd i,od i,q.dc i,(List.range L).map (yv i)⟩
def Dz(K L:Nat)(q:CL)(σ bd od:Nat->Nat)(yv:Nat->Nat->Nat)(bp Dy bD bv h2 ba:Nat)(b2:Nat->Nat)(B:Nat->Nat->F)(h0:Nat->Option Obj):Env:=
 {ba:=ba,bv:=bv,bW:=h2,oW:=0,cW:=K,bd:=Dy,bD:=bD,oD:=0,cD:=K,bp:=bp,op:=0,cp:=K,br:=b2,oR:=λ_=>0,cR:=λ_=>K,ws:=λt=>(List.range K).map λj=>(B t j).val,px:=λt=>q.ix (σ t),cs:=(List.range K).map λt=>Jc q bd od yv L (σ t),h0:=h0}
theorem aaB{D:Nat->World->Array Event->Prop}(hD0:∀n w,n<=w.heap.size->D n w #[]){cs:List Frame}{bp Dy bv ba:Nat}{T:Array Value}(W:World)(hT:alu bp K Dy bv ba T):
  ∃T',(∀E:Env,E.bp=bp->E.op=0->E.cp=K->E.bd=Dy->E.bv=bv->E.ba=ba->TW E W.heap.size K T')/\∀Stop:Goroutine->World->Prop,(∀dd d',Stop (G ((base 67).at ⟨T',[]⟩ [.code zf]) cs) (((W.at dd).alloc (wgBlock link.tWg 0 0)).at d'))->rV prog D Stop (G ((base 67).at ⟨T,[]⟩ [.code ZW]) cs) W:=by
 obtain⟨f,hT⟩:=hT;rw[an3]
 have key:∀(Stop:Goroutine->World->Prop)(a:Act)(o:Oper)(u:Value),o12[0]?=some o->a.defers=[]->Region.wanted o (yielded o12 a.tmps)=true->(∀z:World,z.heap.size=W.heap.size->(execOp a.eval o).run prog z=.ok (.value u) (z.alloc (wgBlock link.tWg 0 0)))->(∀z,listed prog 67 a o z=#[])->
   (∀dd d',Stop (G ((base 67).at (a.put o.dst u) [.code zf]) cs) (((W.at dd).alloc (wgBlock link.tWg 0 0)).at d'))->rV prog D Stop (G ((base 67).at a [.code (.seq (.region 12 o12 false) zf)]) cs) W:=by
  intro Stop a o u ho ha hw hr hl uw;refine .next rfl λd1=>⟨_,_,_,aC,hD0 _ _ (ak _),.next rfl λd2=>⟨_,_,_,cO,hD0 _ _ (ak _),?_⟩⟩
  rw[n12];simp only[List.range,List.range.loop];refine .next rfl λd3=>⟨_,_,_,stepG_value (b:=base _) ho hw ni (hr _ rfl),?_,.next rfl λd4=>⟨_,_,_,aH,hD0 _ _ (ak _),.stop λd5=>uw d3 d5⟩⟩
  rw[show(base 67).fn=67 from rfl,hl];exact hD0 _ _ (by simp[World.at])
 refine⟨T.setIfInBounds 12 (.pointer (some ⟨W.heap.size,0,none⟩)),λE h1 h2 h3 h4 h5 h6=>?_,λStop uw=>?_⟩
 rotate_left
 .subst hT;refine key Stop _ _ (.pointer (some ⟨W.heap.size,0,none⟩)) (by simp only[o12,q12];rfl) rfl rfl (λz hz=>by rw[<-hz];go_simp;rfl) (λz=>listed_nil aN) ?_;exact uw
 .subst hT h1 h3 h4 h5 h6;refine⟨λi=>if i=12 then undef else f i,?_⟩;rw[h2];rfl
theorem Un.tp{q:CL}{σ:Nat->Nat}{bp Dy bD bv h2 ba C:Nat}{b2:Nat->Nat}{B:Nat->Nat->F}{w:World}(h:Un K q σ bp Dy bD bv h2 ba C b2 B w)(τ:Nat->Question->Nat)(d:Nat):Un K q σ bp Dy bD bv h2 ba C b2 B {w with tape:=τ,drawn:=d}:=⟨h.p0,h.p1,h.vd,h.hD,h.vv,h.hW,h.hw,h.va,h.pay,h.new,h.gj,h.pl⟩
theorem Un.alloc{q:CL}{σ:Nat->Nat}{bp Dy bD bv h2 ba C:Nat}{b2:Nat->Nat}{B:Nat->Nat->F}{w:World}(h:Un K q σ bp Dy bD bv h2 ba C b2 B w)(o:Obj):Un K q σ bp Dy bD bv h2 ba C b2 B (w.alloc o):=by obtain⟨n1,n2,n3,n4,n5,n6,n7,n8⟩:=h.new;exact⟨λt ht=>uG o (h.p0 t ht),λt ht=>uG o (h.p1 t ht),uG o h.vd,λt ht=>uG o (h.hD t ht),uG o h.vv,λt ht=>uG o (h.hW t ht),λt j ht hj=>uG o (h.hw t j ht hj),uG o h.va,(bM _ _ _ ae).trans h.pay,⟨n1,n2,n3,n4,n5,n6,n7,az⟩,h.gj,h.pl⟩
theorem alC{q:CL}{σ bd od:Nat->Nat}{yv:Nat->Nat->Nat}{bp Dy bD bv h2 ba:Nat}{b2:Nat->Nat}{B:Nat->Nat->F}{h0:Nat->Option Obj}(hn:0<K/\K<=128)(hL:L<=140737488355328)(hx:∀t,t<K->q.ix (σ t)<128)(hy:∀i m,yv i m<256):QJ (Dz K L q σ bd od yv bp Dy bD bv h2 ba b2 B h0) K L:=by
 refine⟨ae,ae,ae,by simp[Dz],λt _=>⟨by simp[Dz,Dl],λx hx=>?_⟩,λc hc=>?_,λt ht=>?_⟩
 .simp only[Dz,fA]at hx;obtain⟨j,_,rfl⟩:=hx;exact(B t j).isLt
 .simp only[Dz,fA]at hc;obtain⟨j,_,rfl⟩:=hc;refine⟨by simp[Jc,Dl],λy hy'=>?_⟩;simp only[Jc,fA]at hy';obtain⟨m,_,rfl⟩:=hy';exact hy _ _
 .have:=hx t ht;show q.ix (σ t)<128;omega
theorem aib[Payload][qV](DW:Payload.ety=34){X:Nat->Prop}{Y:Nat->Option Obj}{w2 v3 W:World}{lw C:Nat}{q:CL}{σ bd od:Nat->Nat}{yv:Nat->Nat->Nat}{bp Dy bD bv h2 ba:Nat}{b2:Nat->Nat}{B:Nat->Nat->F}(hold:∀b,qV.old b->b<lw)(hX:∀b,X b->b<lw)(VF:lw<=bp/\lw<=Dy/\lw<=bD/\lw<=bv/\lw<=h2/\∀t,t<K->lw<=b2 t)(hs:xE X Y W v3)(hS:DO w2 K q bd od yv)(O4:∀i,i<K->¬qV.old (bd i))(hqL:q.L=L)(hb:sK w2.heap.size w2 v3)(uy:∀b,b<w2.heap.size->b<C)(hP:Un K q σ bp Dy bD bv h2 ba C b2 B v3){Wg:Nat}(Xy:W.heap.size=Wg+1)(hba:ba<Wg):
  SF Wg C K (Wg+1) L (Dz K L q σ bd od yv bp Dy bD bv h2 ba b2 B (λb=>W.heap[b]?)) (Wg+1) 0 (gw W []):=by
 obtain⟨n1,n2,n3,n4,n5,n6,n7,n8⟩:=hP.new;obtain⟨g1,g2,g3,g4,g5,g6⟩:=VF;have hsz:=hs.size;have st:∀{b o:Nat}{u:Value},v3.cell? ⟨b,o,none⟩=some u->(gw W []).cell? ⟨b,o,none⟩=some u:=λ{b o u} h=>(show W.cell? ⟨b,o,none⟩=some u from N7 hs h);have lo:∀{b:Nat},b<Wg->b≠C->lw<=b->Lo Wg C (Wg+1) b:=λ{b} h h' hl=>⟨ae,ae,h',λho=>by have:=hold b ho;omega⟩;have lr:∀t,t<K->Lo Wg C (Wg+1) (b2 t):=λt ht=>lo (by have:=n6 t ht;omega) (by have:=n6 t ht;omega) (g6 t ht)
 have hcs:∀{t:Nat}{c:Ub},((List.range K).map λt=>Jc q bd od yv L (σ t))[t]?=some c->t<K/\c=Jc q bd od yv L (σ t):=λ{t c} e=>by exact ax2
 have ahf:(gw W []).heap.size=Wg+1:=Xy;refine⟨⟨?_,ae,ae,λb hb=>?_⟩,⟨madeCells #[.slice none 0 0] K,?_,gX _ _⟩,⟨lo (b:=ba) ae ae ae,lo (b:=bv) ae ae ae,lo (b:=h2) ae ae ae,lo (b:=Dy) ae ae ae,lo (b:=bD) ae ae ae,lo (b:=bp) ae ae ae,lr,st hP.va,st hP.vv,st hP.vd,λt ht=>?_,λt ht j x e=>?_,λj c e=>?_,λt ht=>?_,λt c e=>?_,λc hc=>?_,λb _ _ _=>rfl⟩,⟨ae,ae,ae⟩,λt c ht=>absurd ht ae⟩
 .unfold gw;rw[xA];exact ak _
 .unfold gw at hb;rw[vH]at hb;cases hb
 .exact axH
 .simp only[Dz,aT];exact st (hP.hW t ht)
 .simp only[Dz,aT,bV]at e⊢;obtain⟨j',Pq,rfl⟩:=bT.1 e;obtain⟨h1,rfl⟩:=F_ Pq;exact st (hP.hw t _ ht h1)
 .obtain⟨h1,rfl⟩:=hcs e;simp only[Dz,Jc,aT];have:=st (hP.hD j h1);rw[CL.d,hqL]at this;exact this
 .simp only[Dz,aT];exact st (hP.p0 t ht)
 .obtain⟨h1,rfl⟩:=hcs e;simp only[Dz,Jc,aT];have:=st (hP.p1 t h1);rw[CL.d,hqL]at this;exact this
 .simp only[Dz,fA,fK]at hc;obtain⟨t,ht,rfl⟩:=hc;have hσ:=hP.pl.lt t ht;have d1:=hS.lt (σ t) hσ;have d2:=hS.here (σ t) hσ;have d3:=hS.y (σ t);rw[hqL]at d2 d3;have:=uy _ d1;refine⟨⟨by show bd (σ t)<_;omega,by show bd (σ t)≠_;omega,by show bd (σ t)≠C;omega,O4 _ hσ⟩,d2,λi y e=>?_⟩;simp only[Jc,bV]at e⊢;obtain⟨j',Pq,rfl⟩:=bT.1 e;obtain⟨h1,rfl⟩:=F_ Pq;exact st ((Below.cell (p:=⟨bd (σ t),_,none⟩) hb d1).trans (d3 _ hσ h1))
def yF(yv:Nat->Nat->Nat)(σ:Nat->Nat)(m j:Nat):F:=Fin.ofNat 256 (yv (σ j) m)
theorem aic{yv:Nat->Nat->Nat}(h:∀i m,yv i m<256)(σ:Nat->Nat)(m j:Nat):(yF yv σ m j).val=yv (σ j) m:=aZ (h _ _)
def xF(K:Nat)(B:Nat->Nat->F)(yv:Nat->Nat->Nat)(σ:Nat->Nat)(t m:Nat):F:=F.dot K (B t) (yF yv σ m)
section
variable {q:CL}{σ bd od:Nat->Nat}{yv:Nat->Nat->Nat}{bp Dy bD bv h2 ba C:Nat}{b2:Nat->Nat}{B:Nat->Nat->F}{h0:Nat->Option Obj}
theorem alD(hy:∀i m,yv i m<256)(t m:Nat)(hm:m<L):((Dz K L q σ bd od yv bp Dy bD bv h2 ba b2 B h0).res L t).getD m 0=(xF K B yv σ t m).val:=by
 have e:EH ((Dz K L q σ bd od yv bp Dy bD bv h2 ba b2 B h0).ws t) (Dz K L q σ bd od yv bp Dy bD bv h2 ba b2 B h0).cs=(List.range K).map λj=>((B t j).val,(List.range L).map (yv (σ j))):=by simp only[EH,Dz,jo];exact List.zip_map'
 unfold Env.res;rw[e,Us (λj=>(B t j).val) (λj=>(List.range L).map (yv (σ j))) L m hm (λj=>ai) K]
 have e2:(λ(j r:Nat)=>r^^^mul (((List.range L).map (yv (σ j))).getD m 0) (B t j).val)=λj r=>r^^^mul (yF yv σ m j).val (B t j).val:=by
  funext j r
  rw[aic hy];simp[hm]
 rw[e2,aeK K (B t) (yF yv σ m) K];rfl
theorem alE(t:Nat):((Dz K L q σ bd od yv bp Dy bD bv h2 ba b2 B h0).res L t).length=L:=by unfold Env.res;rw[BZ];simp
theorem aid(hK:K<=128)(hx:∀i,i<K->q.ix i<128)(vP:MH K q.ix σ)(hg:∃A,F.Gj K (mF K λs=>q.ix (σ s)) K A B){t:Nat}(ht:t<K)(e:q.ix (σ t)=t)(m:Nat):xF K B yv σ t m=yF yv σ m t:=by obtain⟨A,hg⟩:=hg;have h1:=F.an4 hg (yF yv σ m) t ht;rw[F.y9 ht ((am0 hK vP hx).unit t ht (by rw[show(Fin.ofNat 256 (q.ix (σ t))).val=q.ix (σ t)from aZ (by have:=hx _ (vP.lt t ht);omega),e];exact ht)).2]at h1;exact h1
theorem an5[Payload][qV]{X:Nat->Prop}{Y:Nat->Option Obj}{w2 v3 W W' v':World}{s0:Nat}{l ids:List Nat}(hs:xE X Y W v3){Wg:Nat}(Xy:W.heap.size=Wg+1)(arN:ba<Wg)(hn:0<K/\K<=128)(hx:∀i,i<K->q.ix i<128)(hS:DO w2 K q bd od yv)(uy:∀b,b<w2.heap.size->b<C)(hP:Un K q σ bp Dy bD bv h2 ba C b2 B v3)
  (hk:∀b c t fr,¬(X b\/b=Wg)->W'.heap[b]?=some (.cells c t fr)->v'.heap[b]?=some (.cells c t fr)) (hX:∀b,X b->b<w2.heap.size)
  (hF:SF Wg C K (Wg+1) L (Dz K L q σ bd od yv bp Dy bD bv h2 ba b2 B (λb=>W.heap[b]?)) s0 K (gw W' l)) (Bf:∀x,x∈ids↔(Dz K L q σ bd od yv bp Dy bD bv h2 ba b2 B (λb=>W.heap[b]?)).Dx K x)
  (BF:∀x∈ids,∃v l',Has C x v W'/\V7 C L ((Dz K L q σ bd od yv bp Dy bD bv h2 ba b2 B (λb=>W.heap[b]?)).res L) x v (gw W' l')/\∀b∈l',Wg+1<=b):
  (∃dN:Nat->Nat,∀t,t<K->v'.cell? ⟨C,t,none⟩=some (.slice (some ⟨dN t,0,none⟩) L L)/\∀m,m<L->v'.cell? ⟨dN t,m,none⟩=some (.int .u8 (((xF K B yv σ t m).val:Nat):Int)))/\v'.cell? ⟨ba,0,none⟩=some (.slice (some ⟨C,0,none⟩) K K):=by
 obtain⟨n1,n2,n3,n4,n5,n6,n7,n8⟩:=hP.new;have hsz:=hs.size;have up:∀{b o:Nat}{u:Value},¬X b->b≠Wg->W'.cell? ⟨b,o,none⟩=some u->v'.cell? ⟨b,o,none⟩=some u:=λhx hb h=>aeL (X:=λb=>X b\/b=Wg) hk (λe=>e.elim hx hb) h
 have lw:∀{b o:Nat}{u:Value},b<Wg->b≠C->v3.cell? ⟨b,o,none⟩=some u->v'.cell? ⟨b,o,none⟩=some u:=λ{b o u} h h' hc=>by exact ax7
 have hXC:∀b,X b->b<C:=λb hb=>uy b (hX b hb)
 have akI:∀t,t<K->∃N',v'.cell? ⟨C,t,none⟩=some (.slice (some ⟨N',0,none⟩) L L)/\∀m,m<L->v'.cell? ⟨N',m,none⟩=some (.int .u8 (((xF K B yv σ t m).val:Nat):Int)):=by
  intro t ht
  have fin:∀(N':Nat)(xs:List Nat),Wg+1<=N'->W'.heap[N']?=some (.cells (tV xs) 5)->xs.length=L->(∀m,m<L->xs.getD m 0=(xF K B yv σ t m).val)->∀m,m<L->v'.cell? ⟨N',m,none⟩=some (.int .u8 (((xF K B yv σ t m).val:Nat):Int)):=by intro N' xs h0 h1 h2 h3 m hm;refine up (λhx=>by have:=hXC N' hx;omega) ae ?_;simp only[World.cell?,h1];rw[yt,a_ ae,dJ,<-h3 m hm,aO,a_ ae];rfl
  have upC:∀{o:Nat}{u:Value},W'.cell? ⟨C,o,none⟩=some u->v'.cell? ⟨C,o,none⟩=some u:=λh=>up (λhx=>by have:=hXC C hx;omega) ae h
  by_cases e:q.ix (σ t)=t
  .have hc:(Dz K L q σ bd od yv bp Dy bD bv h2 ba b2 B (λb=>W.heap[b]?)).cs[t]?=some (Jc q bd od yv L (σ t)):=by
    show((List.range K).map _)[t]?=_;rw[bV,mD ht];rfl
   obtain⟨N',_,_,hmn,h1,h2⟩:=hF.dn t _ ht (λhm=>hm.2 e) hc;refine⟨N',upC h1,fin N' _ hmn.2 h2 (by simp[Jc]) λm hm=>?_⟩;rw[aid hn.2 hx hP.pl hP.gj ht e,aic hS.yl];simp[Jc,hm]
  .obtain⟨v,l',h1,⟨N',rfl,hmn,_,h2⟩,Fg⟩:=BF t ((Bf t).2 ⟨ht,e⟩);exact⟨N',upC h1,fin N' _ (Fg N' ((yK W' l' N').1 hmn)) h2 (alE t) λm hm=>alD hS.yl t m hm⟩
 refine⟨⟨λt=>if h:t<K then(akI t h).choose else 0,λt ht=>?_⟩,lw ae ae hP.va⟩;simp only[j_ ht];exact(akI t ht).choose_spec
end
end
theorem aeM(E:Env):∀d j,Um E j d<=d
 |0,_=>ak _
 |d+1,j=>by unfold Um;have:=aeM E d (j+1);split<;>omega
section
variable {X:Nat->Prop}{Y:Nat->Option Obj}{D:Nat->World->Array Event->Prop}{Stop:Goroutine->World->Prop}{v:World}{K C Wg j:Nat}{E:Env}{cs:List Frame}{f:Frame}
theorem an6(hD:vw X D){T:Array Value}{ops:Array Oper}(hT:TS E Wg K j T)(hba:v.cell? ⟨E.ba,0,none⟩=some (.slice (some ⟨C,0,none⟩) K K))
  (VJ:∀τ d,∀w,qL X Y w {v with tape:=τ,drawn:=d}->rV prog D Stop (G (f.finish (.slice (some ⟨C,0,none⟩) K K)) cs) w):
  uh prog X Y D Stop 67 (f::cs) (.inRegion ops []::[.code aeF]) ⟨T,[]⟩ v:=by
 obtain⟨v0,v1,v2,v3,v4,v5,v6,v8,v9,VE,Xb,SL,SN,SQ,Pn,Po,v20,v21,v22,Tv,v24,Tz,v26,ZU,v28,v29,v30,v31,v32,v33,v34,v35,v36,v37,v38,v39,v40,v41,v42,v43,v44,v45,v46,v50,v51,v52,v53,v54,v55,v56,v57,v58,v59,v60,v61,v62,v63,v64,v65,v66,v67,v68,rfl⟩:=hT;refine aaC hD ?_;unfold aeF;simp only[o22,q22];refine qQ qK hD ag rfl aax λR hR τ d'=>?_
 have t_:({v with tape:=τ,drawn:=d'}:World).cell? ⟨E.ba,0,none⟩=some (.slice (some ⟨C,0,none⟩) K K):=hba;have hv1:=VJ τ d';generalize{v with tape:=τ,drawn:=d'}=v1 at t_ hv1⊢;go_wp2;refine Jd (y:=.slice (some ⟨C,0,none⟩) K K) hD rfl func67 (λτ d=>?_) hv1;exact lV (fn:=Tryz.f67) (t:=4) rfl _ _ _
