import Derived.Test.YtnbflnamlpodcaaGreatDoorEnY
import Derived.Test.YtnbflnamlpodcaaGreatDoorDeA
set_option maxHeartbeats 8000000
set_option maxRecDepth 100000
namespace Go.Proofs.Y
open Go.RowKit Go.Deep Go.Lf Go.Conc Go.ConcN Go.Gh Go.Hp
open Go.ConcR (Payload WgAt wgBlock)
def uj(X:Nat->Prop)(l:Loc):Prop:=∃a:Addr,l=.cell a/\X a.block
theorem yO(X:Nat->Prop):uo X (DM (uj X)):=UO λ_ h=>h
theorem PFc.tp{k n L:Nat}{l:List UInt8}{bk bd P F ba C:Nat}{w:World}(h:PFc k n L l bk bd P F ba C w)(τ:Nat->Question->Nat)(d:Nat):PFc k n L l bk bd P F ba C {w with tape:=τ,drawn:=d}:=⟨h.vk,h.vd,h.hP,h.hF,h.va,h.pay,h.new⟩
theorem PFc.alloc{k n L:Nat}{l:List UInt8}{bk bd P F ba C:Nat}{w:World}(h:PFc k n L l bk bd P F ba C w)(o:Obj):PFc k n L l bk bd P F ba C (w.alloc o):=by obtain⟨n1,n2,n3,n4,n5,n6⟩:=h.new;exact⟨tJ o h.vk,tJ o h.vd,λj hj=>tJ o (h.hP j hj),λi hi=>tJ o (h.hF i hi),tJ o h.va,(bK _ _ _ ae).trans h.pay,⟨n1,n2,n3,n4,n5,az⟩⟩
theorem aeg{m:Nat}{g:Nat->qQ}(h:∀i,i+1<m->Hp.lt (g i).k (g (i+1)).k=true):Srt m g:=λi hi=>by
 have h1:=h i hi;rcases Hp.Ee (g i).k (g (i+1)).k with⟨_,h2,_⟩|⟨_,h2,_⟩|⟨_,h2,_⟩
 .exact h2
 .rw[h1]at h2;cases h2
 .rw[h1]at h2;cases h2
structure FkD(K N C m:Nat)(f:Nat->qQ)(d:qQ->List UInt8)(v0:World)(g:Nat->qQ)(T18 Q_ T:Array Value)(rest:List Nat)(x vn vs vj:Value)(pc gm cm bh bk bd Pp Ff ba Cc:Nat)(wc u w2 v3:World):Prop where
 t18:T28 T18
 ta:TA pc vn vs (.slice (some ⟨gm,0,none⟩) (UQ m g) cm) (.slice (some ⟨bh,0,none⟩) N N) x Q_
 lf:Left x rest
 tp:TPc bk bd ba T
 pf:PFc K N (sF K (qW (λj=>d (g j)) m).length) (qW (λj=>d (g j)) m) bk bd Pp Ff ba Cc v3
 low:∀b,b<w2.heap.size->b<Cc
 ge:w2.heap.size<=bk/\w2.heap.size<=bd/\w2.heap.size<=Pp/\w2.heap.size<=Ff
 fa:FA K N C m g (qW (λj=>d (g j)) m) pc gm bh vn vs vj wc u w2
 b3:rJ w2.heap.size w2 v3
 vu:rJ v0.heap.size v0 u
 re:qK m f g
 lt:∀i,i+1<m->Hp.lt (g i).k (g (i+1)).k=true
 nm:uG (qA m g)
 fw:Ik (qA m g) (qC m g)
 jl:(qW (λj=>d (g j)) m).length<=65536
def AtF(X:Nat->Prop)(Y:Nat->Option Obj)(K N C m:Nat)(f:Nat->qQ)(d:qQ->List UInt8)(fr:Frame)(cs:List Frame)(v0:World)(gr:Goroutine)(W:World):Prop:=
 ∃(g:Nat->qQ)(T18 Q_ T:Array Value)(rest:List Nat)(x vn vs vj:Value)(pc gm cm bh bk bd Pp Ff ba Cc:Nat)(wc u w2 v3:World),
  gr=G ((base 29).at ⟨T,[]⟩ [.code gc3]) (FY Q_ rest::Cf T18::fr::cs)/\qH X Y W v3/\FkD K N C m f d v0 g T18 Q_ T rest x vn vs vj pc gm cm bh bk bd Pp Ff ba Cc wc u w2 v3
theorem ahd{X:Nat->Prop}{Y:Nat->Option Obj}{D:Nat->World->Array Event->Prop}(rM:uo X D){K N C m cap:Nat}{bo:Option Addr}{f:Nat->qQ}{d:qQ->List UInt8}{v:World}{fr:Frame}{cs:List Frame}(hA:UG v bo m cap f d)(hP:yP (K:Int) (N:Int) (C:Int))(hNf:tX m f)(hFw:∀g,qK m f g->Srt m g->Ik (qA m g) (qC m g))(hT:Tab v):
  sK Tryz.prog X Y D (AtF X Y K N C m f d fr cs v) 8 (fr::cs) [.code wG] ⟨#[.slice bo m cap,.agg #[.int .i64 ((K:Nat):Int),.int .i64 ((N:Nat):Int),.int .i64 ((C:Nat):Int)]]++Array.replicate 26 undef,[]⟩ v:=by
 obtain⟨⟨q1,q2,q3⟩,q4,q5⟩:=id hP;refine ahe rM hA hP hNf λT18 g bo2 cap2 wc amc hR hlt hBc hbc=>?_
 have hS:=aeg hlt;have hN:=(S_ hR hS).2 hNf;have hF:=hFw g hR hS
 have hD:∀i,i<m->xE wc (g i) (d (g i)):=λi hi=>by obtain⟨j,hj,e⟩:=hR.from hi;rw[e];exact(hA.dat j hj).bel hbc (ak _)
 have hjl:(qW (λj=>d (g j)) m).length<=65536:=by rw[<-Dz d g m (λi hi=>(hD i hi).1)];exact hF.2.1
 refine ahf (d:=d) rM ae hA.hm hBc hD hN hF (hT.bel hbc hT.1) λQ_ rest x vn vs vj pc gm cm bh u w2 hTA hL hFA=>?_
 refine Nq rM ae ae ae hjl hFA.dat λbk bd Pp Ff ba Cc T v3 hTP hPF hlow hge hb3=>?_
 intro W hW;refine .stop λdd=>⟨g,T18,Q_,T,rest,x,vn,vs,vj,pc,gm,cm,bh,bk,bd,Pp,Ff,ba,Cc,wc,u,w2,v3,rfl,hW.at dd,⟨amc,hTA,hL,hTP,hPF,hlow,hge,hFA,hb3,hbc.trans hFA.wu hbc.size',hR,hlt,hN,hF,hjl⟩⟩
theorem PL{D:Nat->World->Array Event->Prop}(hD0:∀n w,n<=w.heap.size->D n w #[]){cs:List Frame}{bk bd ba:Nat}{T:Array Value}(W:World)(hT:TPc bk bd ba T):
  ∃T',(∀E:Dc,E.bk=bk->E.bd=bd->E.ba=ba->TB E W.heap.size T')/\∀Stop:Goroutine->World->Prop,(∀dd d',Stop (G ((base 29).at ⟨T',[]⟩ [.code yJ]) cs) (((W.at dd).alloc (wgBlock link.tWg 0 0)).at d'))->ru Tryz.prog D Stop (G ((base 29).at ⟨T,[]⟩ [.code gc3]) cs) W:=by
 obtain⟨f,rfl⟩:=hT;rw[ajd]
 have key:∀(Stop:Goroutine->World->Prop)(a:Act)(o:Oper)(u:Value),og3[0]?=some o->a.defers=[]->Region.wanted o (yielded og3 a.tmps)=true->(∀z:World,z.heap.size=W.heap.size->(execOp a.eval o).run Tryz.prog z=.ok (.value u) (z.alloc (wgBlock link.tWg 0 0)))->(∀z,listed Tryz.prog 29 a o z=#[])->
   (∀dd d',Stop (G ((base 29).at (a.put o.dst u) [.code yJ]) cs) (((W.at dd).alloc (wgBlock link.tWg 0 0)).at d'))->ru Tryz.prog D Stop (G ((base 29).at a [.code (.seq (.region 3 og3 false) yJ)]) cs) W:=by
  intro Stop a o u ho ha hw hr hl hst;refine .next rfl λd1=>⟨_,_,_,aC,hD0 _ _ (ak _),.next rfl λd2=>⟨_,_,_,cO,hD0 _ _ (ak _),?_⟩⟩
  rw[ng3];simp only[List.range,List.range.loop];refine .next rfl λd3=>⟨_,_,_,stepG_value (b:=base _) ho hw mX (hr _ rfl),?_,.next rfl λd4=>⟨_,_,_,aH,hD0 _ _ (ak _),.stop λd5=>hst d3 d5⟩⟩
  rw[show(base 29).fn=29 from rfl,hl];exact hD0 _ _ (by simp[World.at])
 refine⟨(#[f 0,f 1,f 2,.pointer (some ⟨bk,0,none⟩),f 4,f 5,f 6,.pointer (some ⟨bd,0,none⟩),.pointer (some ⟨ba,0,none⟩),f 9,f 10,f 11,f 12,f 13,f 14,f 15,f 16,f 17,f 18,f 19,f 20,f 21,f 22,f 23,f 24,f 25]:Array Value).setIfInBounds 9 (.pointer (some ⟨W.heap.size,0,none⟩)),λE h1 h2 h3=>?_,λStop hst=>?_⟩
 .subst h1 h2 h3;exact⟨λi=>if i=9 then undef else f i,rfl⟩
 .refine key Stop _ _ (.pointer (some ⟨W.heap.size,0,none⟩)) (by simp only[og3,qg3];rfl) rfl rfl (λz hz=>by rw[<-hz];go_simp;rfl) (λz=>listed_nil aI) ?_;exact hst
theorem Tc(k L:Nat)(l:List UInt8)(bk bd P F ba:Nat)(h0:Nat->Option Obj)(t:Nat):sD ((Fj k L l bk bd P F ba h0).res k L t)=(rF (zn k L l t)).toArray:=by rw[aje,ajf];unfold sD aeh;rw[je];rfl
structure KpX(X:Nat->Prop)(w w':World):Prop where
 os:w'.os=w.os
 output:w'.output=w.output
 size:w.heap.size<=w'.heap.size
 block:∀b,b<w.heap.size->¬X b->w'.heap[b]?=w.heap[b]?
theorem Nr{Fin:Machine->Trace->Prop}(hpre:∀m m' ops t,stepT Tryz.prog m=(.next m',ops)->Fin m' (t++ops)->Fin m t){X:Nat->Prop}{Y:Nat->Option Obj}{e:Nat}{gs:Array Goroutine}{W v0:World}{sl:Option (Nat×Nat)}{t:Trace}{q:Nat->Nat}{fr:Frame}{cs:List Frame}{K N C m cap:Nat}{bo:Option Addr}{f:Nat->qQ}{d:qQ->List UInt8}
  (h0:gs[0]?=some (G ((base 8).at ⟨#[.slice bo m cap,.agg #[.int .i64 ((K:Nat):Int),.int .i64 ((N:Nat):Int),.int .i64 ((C:Nat):Int)]]++Array.replicate 26 undef,[]⟩ [.code wG]) (fr::cs))) (hB:Fz Tryz.prog (uj X) e gs W t q) (hs:qH X Y W v0)
  (hA:UG v0 bo m cap f d) (hP:yP (K:Int) (N:Int) (C:Int)) (hNf:tX m f) (hFw:∀g,qK m f g->Srt m g->Ik (qA m g) (qC m g)) (hT:Tab v0) (he:e+N<2147483648)
  (hnext:∀(g:Nat->qQ)(bh Wg:Nat)(ov:Nat->Value)(gs':Array Goroutine)(W':World)(sl':Option (Nat×Nat))(t':Trace)(q':Nat->Nat)(Y':Nat->Option Obj)(v':World),qK m f g->Srt m g->gs'[0]?=some (G (fr.finish (.tuple #[.slice (some ⟨bh,0,none⟩) N N,.int .i64 0])) cs)->
   Fz Tryz.prog (uj λb=>X b\/b=Wg) (e+N) gs' W' t' q'->qH (λb=>X b\/b=Wg) Y' W' v'->W.heap.size<=Wg->Sub v0 v'->KpX X W W'->(∀i,i<N->v'.cell? ⟨bh,i,none⟩=some (ov i))->
   (∀i,i<N->OwnB 0 v' (ov i) (FN K N C (qA m g) (qC m g) i (zn K (sF K (qW (λj=>d (g j)) m).length) (qW (λj=>d (g j)) m) i)))->Fin (crowd gs' W' sl') t'):
  Fin (crowd gs W sl) t:=by
 obtain⟨⟨q1,q2,q3⟩,q4,q5⟩:=id hP;have hs':=hs;obtain⟨τ0,dd0,hs0⟩:=hs';have hX0:∀b,X b->b<v0.heap.size:=λb hb=>hs0.bound b (.inl hb)
 refine late (Fin:=Fin) (Shun:=uj X) (e:=e) hpre (λ_ _ _ h=>h) (λgs1 a1 W1 sl1 t1 q1 h01 hst hB1=>?_) (ahd (yO X) (fr:=fr) (cs:=cs) (Y:=Y) hA hP hNf hFw hT W hs) W.drawn gs sl t q h0 hB;obtain⟨g,T18,Q_,T,rest,x,vn,vs,vj,pc,gm,cm,bh,bk,bd,Pp,Ff,ba,Cc,wc,u,w2,v3,rfl,hW1,hk⟩:=hst W1.drawn;replace hW1:qH X Y W1 v3:=hW1;letI:qN:=⟨X⟩;obtain⟨n1,n2,n3,n4,n5,n6⟩:=hk.pf.new;have hsz1:W1.heap.size=v3.heap.size:=by obtain⟨_,_,h⟩:=hW1;exact h.size
 have hvu:=hk.vu.size';have huw:u.heap.size<=w2.heap.size:=hk.fa.bel.size';have hX2:∀b,X b->b<w2.heap.size:=λb hb=>by have:=hX0 b hb;omega
 have aei:Fz Tryz.prog (Ef W1.heap.size) e gs1 W1 t1 q1:=hB1.more (λl h=>.inr h) (λl h=>h.elim (λ⟨a,ea,ya⟩=>.inr ⟨a,ea,dS ya.symm⟩) .inl);obtain⟨T',hTW,hG⟩:=PL (D:=DM (Ef W1.heap.size)) (λn w h=>⟨h,ai⟩) (cs:=FY Q_ rest::Cf T18::fr::cs) W1 hk.tp;refine late (Fin:=Fin) (Shun:=Ef W1.heap.size) (e:=e) hpre (λ_ _ _ h=>h) (λgs2 a2 W2 sl2 t2 q2 h02 hst2 hB2=>?_) (hG (λgr w=>gr=G ((base 29).at ⟨T',[]⟩ [.code yJ]) (FY Q_ rest::Cf T18::fr::cs)/\∃dd d',w=((W1.at dd).alloc (wgBlock link.tWg 0 0)).at d') (λdd d'=>⟨rfl,dd,d',rfl⟩)) W1.drawn gs1 sl1 t1 q1 h01 aei;obtain⟨rfl,dd,d',hW2⟩:=hst2 W2.drawn;replace hW2:W2=((W1.at dd).alloc (wgBlock link.tWg 0 0)).at d':=hW2;generalize Tf:W1.heap.size=Wg at*
 have hS2:qH X Y W2 (v3.alloc (wgBlock link.tWg 0 0)):=by exact aqx
 have hz2:W2.heap.size=Wg+1:=aoD
 have hg2:W2.heap[Wg]?=some (wgBlock link.tWg 0 0):=by exact aqN
 have hl2:∀b,b<Wg->W2.heap[b]?=W1.heap[b]?:=λb hb=>by exact aqO
 obtain⟨τ2,dd2,xk⟩:=hS2;have hPF:=(hk.pf.alloc (wgBlock link.tWg 0 0)).tp τ2 dd2;have hb3:rJ w2.heap.size w2 {v3.alloc (wgBlock link.tWg 0 0)with tape:=τ2,drawn:=dd2}:=(hk.b3.trans (rJ.of ((aA v3.heap.size v3).alloc (ak _) _)) hk.b3.size').tp τ2 dd2;generalize({v3.alloc (wgBlock link.tWg 0 0)with tape:=τ2,drawn:=dd2}:World)=v4 at xk hPF hb3;letI:Payload:=⟨34⟩;letI:wU:=⟨W2.output,W2.os⟩
 have hLb:(sF K (qW (λj=>d (g j)) m).length)<=65536:=by have:=B_ (k:=K) ae (qW (λj=>d (g j)) m).length;have:=hk.jl;omega
 have aej:LH (Fj K (sF K (qW (λj=>d (g j)) m).length) (qW (λj=>d (g j)) m) bk bd Pp Ff ba (λb=>W2.heap[b]?)) K N (sF K (qW (λj=>d (g j)) m).length):=aaU ae ae ae;have hSF:=Ti (lw:=w2.heap.size) rfl hX2 hX2 hk.ge xk hPF hz2 ae;have hSp:=Tj (cs:=FY Q_ rest::Cf T18::fr::cs) aej (hTW _ rfl rfl rfl) hSF;refine UR (Fin:=Fin) (ty:=link.tWg) hpre h02 hB2 (λb hb=>?_) (di _) ae ae ae hg2 hSF.pay hSp ⟨λ_ _ _ _ r h=>Q9.rely h r,λ_ _ _ _ r h=>KC.rely h r⟩ he rfl rfl (λids gs3 a3 W3 lb sl3 t3 q3 h03 ho hos hwk hK hp hres hB3=>?_)
 .have:=hX2 b hb;have:=hk.low b this;omega
 obtain⟨T1,s0,j,ops,rfl,hTS,JG,zy⟩:=hK;have Py:∀b,b<Wg->b≠Cc->W3.heap[b]?=W2.heap[b]?:=λb hb hc=>JG.low.Py b ae ae hc
 have hXC:∀b,X b->b<Wg/\b≠Cc:=λb hb=>by have h1:=hX2 b hb;have:=hk.low b h1;omega
 obtain⟨Y',v',hs3,hk'⟩:=OJ W3 (λb=>X b\/b=Wg) (λb hb=>by
  rcases hb with hb|rfl
  .exact aqC
  .obtain⟨st,sm,hw⟩:=hwk;exact⟨_,_,hw⟩)
 obtain⟨⟨dN,hd⟩,hcell,hba⟩:=aaV xk hz2 ae hb3 hk.low hPF hk' hX2 JG zy hres
 have hblk:∀{b:Nat}{c:Array Value}{ty:TypeId}{fz:Nat×Nat},w2.heap[b]?=some (.cells c ty fz)->v'.heap[b]?=some (.cells c ty fz):=λ{b c ty fz} h=>by
  have h1:b<w2.heap.size:=(a_.1 h).1;have h2:=hk.low b h1;have h3:v4.heap[b]?=some (.cells c ty fz):=(hb3.blk h1).trans h;by_cases hx:X b
  .exact aqS
  .exact aqK
 have e1:v'.heap.size=W3.heap.size:=hs3.size.symm;have e2:Wg+1<=W3.heap.size:=aK JG.sb.2.1 JG.sb.2.2;have akQ:w2.heap.size<=v3.heap.size:=hk.b3.size';have hus:=hk.fa.us;have hbh:bh<w2.heap.size:=(a_.1 hk.fa.sh).1
 have hsub:Sub u v':=⟨ae,λb c ty fz hx=>by have hxl:=(a_.1 hx).1;exact hblk ((hk.fa.bel.blk ae).trans hx)⟩
 have hVA:VA K N (sF K (qW (λj=>d (g j)) m).length) Cc bh dN (qW (λj=>d (g j)) m) v':=⟨λt ht=>(hd t ht).1,λt ht=>apR,by have:=hk.low bh hbh;omega⟩;obtain⟨bN,cN,rfl,hcN,_⟩:=hk.fa.nm;obtain⟨bZ,cZ,rfl,hcZ,_⟩:=hk.fa.sz;have hTA:=hk.ta;rw[uK,uu]at hTA;rw[Ci,wP]at hTA;have hD':uo (λb=>X b\/b=Wg) (DM (Ef Wg)):=UO λl h=>h.elim (λ⟨a,ea,ya⟩=>⟨a,ea,.inr ya⟩) (λ⟨a,ea,ya⟩=>⟨a,ea,.inl ya⟩)
 refine late (Fin:=Fin) (Shun:=Ef Wg) (e:=e+N) (Stop:=λgr w=>∃v5 ov,gr=G (fr.finish (.tuple #[.slice (some ⟨bh,0,none⟩) N N,.int .i64 0])) cs/\qH (λb=>X b\/b=Wg) Y' w v5/\LA K N C m (sF K (qW (λj=>d (g j)) m).length) bh g (qW (λj=>d (g j)) m) v' N ov v5) hpre (λ_ _ _ h=>h) (λgs4 a4 W4 sl4 t4 q4 h04 aek hB4=>?_) (aiu (X:=λb=>X b\/b=Wg) (Y:=Y') hD' hTS hba (λτ dd w1 hw1=>?_) W3 hs3.t) W3.drawn gs3 sl3 t3 q3 h03 hB3
 .obtain⟨v5,ov,rfl,hs5,hLA⟩:=aek W4.drawn;replace hs5:qH (λb=>X b\/b=Wg) Y' W4 v5:=hs5;have WA:=hLA.kx.sub hsub ae;have akR:Sub v0 u:=⟨hk.vu.size',λb c ty fz hx=>(hk.vu.blk ((a_.1 hx).1)).trans hx⟩;obtain⟨cur,hc1,hc2,hc3⟩:=hLA.sh;refine hnext g bh Wg ov gs4 W4 sl4 t4 q4 Y' v5 hk.re (aeg hk.lt) h04 (hB4.more (λl h=>h.elim (λ⟨a,ea,ya⟩=>⟨a,ea,.inr ya⟩) (λ⟨a,ea,ya⟩=>⟨a,ea,.inl ya⟩)) (λl ⟨a,ea,ya⟩=>.inl (ya.elim (λy=>.inr ⟨a,ea,y⟩) (λy=>.inl ⟨a,ea,y⟩)))) hs5 ?_ ⟨aK akR.1 WA.1,λb c ty fz hx=>WA.2 b c ty fz (akR.2 b c ty fz hx)⟩ ?_ (λi hi=>cell_of_block hc1 (hc3 i hi)) hLA.own
  .exact aqy
  .have hz0:W.heap.size=v0.heap.size:=hs0.size;obtain⟨τ5,d5,JH⟩:=hs5;obtain⟨τ1,d1,hs1'⟩:=hW1;have z5:W4.heap.size=v5.heap.size:=JH.size;have zk:=hLA.kx.size;refine⟨?_,?_,ae,λb hb hx=>?_⟩
   .have o1:W4.os=v5.os:=JH.os;have o2:=hLA.kx.os;have o3:W3.os=v'.os:=hs3.os;have o4:W3.os=W2.os:=hos;have o5:W2.os=W1.os:=kZ;have o6:W1.os=v3.os:=hs1'.os;have o7:v3.os=w2.os:=hk.b3.os;have o8:w2.os=u.os:=hk.fa.bel.os;have o9:u.os=v0.os:=hk.vu.os;have o10:W.os=v0.os:=hs0.os;rw[o1,o2,<-o3,o4,o5,o6,o7,o8,o9,o10]
   .have o1:W4.output=v5.output:=JH.out;have o2:=hLA.kx.output;have o3:W3.output=v'.output:=hs3.out;have o4:W3.output=W2.output:=ho;have o5:W2.output=W1.output:=kZ;have o6:W1.output=v3.output:=hs1'.out;have o7:v3.output=w2.output:=hk.b3.output;have o8:w2.output=u.output:=hk.fa.bel.output;have o9:u.output=v0.output:=hk.vu.output;have o10:W.output=v0.output:=hs0.out;rw[o1,o2,<-o3,o4,o5,o6,o7,o8,o9,o10]
   .have hbC:=hk.low b ae;have a1:W4.heap[b]?=W3.heap[b]?:=vY.agree hs3 JH (λhh=>hh.elim hx ae) (hLA.kx.block b ae ae);have a2:=Py b ae ae;have a3:=hl2 b ae;have a4:W1.heap[b]?=W.heap[b]?:=vY.agree hs0 hs1' hx ((hk.b3.blk ae).trans ((hk.fa.bel.blk ae).trans (hk.vu.blk ae)));rw[a1,a2,a3,a4]
 .refine akS (v:=v') hD' hTA hk.lf (λT5 hT5=>?_) w1 hw1;refine ael (v0:=v') (u:=u) (dN:=dN) (l:=(qW (λj=>d (g j)) m)) (L:=(sF K (qW (λj=>d (g j)) m).length)) hD' ae ae hLb hk.nm hk.fw hk.fa.par hk.fa.Lj hk.fa.gml hk.fa.tab ae hsub hVA ⟨_,hblk hk.fa.sh⟩ (λv2 ov hLA=>?_) N 0 T5 v' (λ_=>undef) ae hT5 ⟨KX.refl _ _,⟨_,hblk hk.fa.sh,gK _ _,λt ht=>absurd ht ae⟩,λt ht=>absurd ht ae⟩;exact ajg hD' hk.t18 (λw hw=>.stop λd6=>⟨v2,ov,rfl,hw.at d6,hLA⟩)
#print axioms Nr
end Go.Proofs.Y
namespace Go.Proofs.Y
open Go.Conc Go.ConcN Go.RowKit Go.Gh Go.Conc.Lib Go.ConcR.Gen Go.ConcN.Gen
open Go.ConcR (Payload)
theorem n13:o13.size=3:=ag
section
variable [Payload][qN]{Wg C k B L:Nat}{E:Env}
def TW(E:Env)(Wg k:Nat)(T:Array Value):Prop:=∃f:Nat->Value,T=#[f 0,f 1,f 2,f 3,f 4,.slice (some ⟨E.bp,E.op,none⟩) k E.cp,f 6,.pointer (some ⟨E.bd,0,none⟩),f 8,f 9,.pointer (some ⟨E.bv,0,none⟩),.pointer (some ⟨E.ba,0,none⟩),.pointer (some ⟨Wg,0,none⟩),f 13,f 14,f 15,f 16,f 17,f 18,f 19,f 20,f 21,f 22,f 23,f 24,f 25,f 26,f 27,f 28,f 29,f 30,f 31,f 32,f 33,f 34,f 35,f 36,f 37,f 38,f 39,f 40,f 41,f 42,f 43,f 44,f 45,f 46,f 47,f 48,f 49,f 50,f 51,f 52,f 53,f 54,f 55,f 56,f 57,f 58,f 59,f 60,f 61,f 62,f 63,f 64,f 65,f 66,f 67,f 68]
theorem aem(hE:Nj E k L){cs:List Frame}{T:Array Value}{w:World}{s0:Nat}(hT:TW E Wg k T)(hF:SF Wg C k B L E s0 0 w):
  Sp Tryz.prog link.tWg Wg C k B (E.AX k) (Q9 C L (E.res L)) (KR Wg C k B L E cs) (PG E 0 k) [] (G ((base 67).at ⟨T,[]⟩ [.code xQ]) cs) w:=by
 obtain⟨m,hm⟩:=spj (Wg:=Wg) (C:=C) (k:=k) (B:=B) (L:=L) (E:=E) hE (cs:=cs) k 0 ae;rw[ad3];co_apply Exists.intro;obtain⟨f,rfl⟩:=hT;rw[ad1]
 (co_apply ay rfl;intro _ qB;replace hF:=SF.rely hF qB;clear qB;rw[aC];simp only[aJ];refine⟨aG p_ _,?_⟩)
 (co_apply ay rfl;intro _ qB;replace hF:=SF.rely hF qB;clear qB;rw[aC];simp only[aJ];refine⟨aG p_ _,?_⟩)
 (co_apply ay rfl;intro _ qB;replace hF:=SF.rely hF qB;clear qB;rw[cO,n13];simp only[aJ,List.range,List.range.loop];refine⟨aG p_ _,?_⟩;simp only[o13,q13])
 (co_apply ay rfl;intro _ qB;replace hF:=SF.rely hF qB;clear qB
  refine goes_oper_k rfl rfl au (λKq hKq=>?_)
  (skip)
  go_simp
  try(unfold stored;go_simp)
  refine hKq _ _ ⟨?_,?_⟩
  ·(co_quiet p_)
  clear hKq Kq
  try walk_nrm)
 (co_apply ay rfl;intro _ qB;replace hF:=SF.rely hF qB;clear qB
  refine goes_oper_k rfl rfl au (λKq hKq=>?_)
  (skip)
  go_simp
  try(unfold stored;go_simp)
  refine hKq _ _ ⟨?_,?_⟩
  ·(co_quiet p_)
  clear hKq Kq
  try walk_nrm)
 (co_apply ay rfl;intro _ qB;replace hF:=SF.rely hF qB;clear qB
  refine goes_oper_k rfl rfl au (λKq hKq=>?_)
  (skip)
  go_simp
  try(unfold stored;go_simp)
  refine hKq _ _ ⟨?_,?_⟩
  ·(co_quiet p_)
  clear hKq Kq
  try walk_nrm)
 (co_apply ay rfl;intro _ qB;replace hF:=SF.rely hF qB;clear qB;rw[aH];simp only[aJ];refine⟨aG p_ _,?_⟩)
 (co_apply ay rfl;intro _ qB;replace hF:=SF.rely hF qB;clear qB;rw[jU];simp only[aJ];refine⟨aG p_ _,?_⟩)
 (co_apply ay rfl;intro _ qB;replace hF:=SF.rely hF qB;clear qB;rw[stepG_loop];simp only[aJ];refine⟨aG p_ _,?_⟩)
 exact hm _ _ [] s0 ⟨_,_,_,_,_,_,_,_,_,_,_,_,_,_,_,_,_,_,_,_,_,_,_,_,_,_,_,_,_,_,_,_,_,_,_,_,_,_,_,_,_,_,_,_,_,_,_,_,_,_,_,_,_,_,_,_,_,_,_,_,_,_,rfl⟩ hF (λx=>⟨λh=>jJ,λh=>absurd h.2 ae⟩)
end
end Go.Proofs.Y
namespace Go.Proofs.Y
open Go.RowKit Go.Deep Go.Lf Go.Conc Go.ConcN Go.Gh
open Go.ConcR (Payload WgAt wgBlock)
structure DO(w:World)(n:Nat)(q:CL)(bd od:Nat->Nat)(yv:Nat->Nat->Nat):Prop where
 lt:∀i,i<n->bd i<w.heap.size
 here:∀i,i<n->0<q.L->q.db i=some ⟨bd i,od i,none⟩
 y:∀i m,i<n->m<q.L->w.cell? ⟨bd i,od i+m,none⟩=some (.int .u8 ((yv i m:Nat):Int))
 yl:∀i m,yv i m<256
noncomputable def q12:{x:Array Oper//x=ais (air c12)}:=⟨_,by simp only[c12,FX,air,Np,ais,Tryz.f67,aB];rfl⟩
noncomputable def o12:Array Oper:=q12.1
theorem ajh:c12=.seq (.region 12 o12 false) xQ:=ag
theorem n12:o12.size=1:=ag
section
variable {K L:Nat}
def FZ(q:CL)(bd od:Nat->Nat)(yv:Nat->Nat->Nat)(L i:Nat):Ph:=⟨q.db i,bd i,od i,q.dc i,(List.range L).map (yv i)⟩
def AZ(K L:Nat)(q:CL)(σ bd od:Nat->Nat)(yv:Nat->Nat->Nat)(bp AY bD bv h2 ba:Nat)(b2:Nat->Nat)(B:Nat->Nat->F)(h0:Nat->Option Obj):Env:=
 {ba:=ba,bv:=bv,bW:=h2,oW:=0,cW:=K,bd:=AY,bD:=bD,oD:=0,cD:=K,bp:=bp,op:=0,cp:=K,br:=b2,oR:=λ_=>0,cR:=λ_=>K,ws:=λt=>(List.range K).map λj=>(B t j).val,px:=λt=>q.ix (σ t),cs:=(List.range K).map λt=>FZ q bd od yv L (σ t),h0:=h0}
theorem WB{D:Nat->World->Array Event->Prop}(hD0:∀n w,n<=w.heap.size->D n w #[]){cs:List Frame}{bp AY bv ba:Nat}{T:Array Value}(W:World)(hT:ag_ bp K AY bv ba T):
  ∃T',(∀E:Env,E.bp=bp->E.op=0->E.cp=K->E.bd=AY->E.bv=bv->E.ba=ba->TW E W.heap.size K T')/\∀Stop:Goroutine->World->Prop,(∀dd d',Stop (G ((base 67).at ⟨T',[]⟩ [.code xQ]) cs) (((W.at dd).alloc (wgBlock link.tWg 0 0)).at d'))->ru Tryz.prog D Stop (G ((base 67).at ⟨T,[]⟩ [.code c12]) cs) W:=by
 obtain⟨f,hT⟩:=hT;rw[ajh]
 have key:∀(Stop:Goroutine->World->Prop)(a:Act)(o:Oper)(u:Value),o12[0]?=some o->a.defers=[]->Region.wanted o (yielded o12 a.tmps)=true->(∀z:World,z.heap.size=W.heap.size->(execOp a.eval o).run Tryz.prog z=.ok (.value u) (z.alloc (wgBlock link.tWg 0 0)))->(∀z,listed Tryz.prog 67 a o z=#[])->
   (∀dd d',Stop (G ((base 67).at (a.put o.dst u) [.code xQ]) cs) (((W.at dd).alloc (wgBlock link.tWg 0 0)).at d'))->ru Tryz.prog D Stop (G ((base 67).at a [.code (.seq (.region 12 o12 false) xQ)]) cs) W:=by
  intro Stop a o u ho ha hw hr hl hst;refine .next rfl λd1=>⟨_,_,_,aC,hD0 _ _ (ak _),.next rfl λd2=>⟨_,_,_,cO,hD0 _ _ (ak _),?_⟩⟩
  rw[n12];simp only[List.range,List.range.loop];refine .next rfl λd3=>⟨_,_,_,stepG_value (b:=base _) ho hw mX (hr _ rfl),?_,.next rfl λd4=>⟨_,_,_,aH,hD0 _ _ (ak _),.stop λd5=>hst d3 d5⟩⟩
  rw[show(base 67).fn=67 from rfl,hl];exact hD0 _ _ (by simp[World.at])
 refine⟨T.setIfInBounds 12 (.pointer (some ⟨W.heap.size,0,none⟩)),λE h1 h2 h3 h4 h5 h6=>?_,λStop hst=>?_⟩
 rotate_left
 .subst hT;refine key Stop _ _ (.pointer (some ⟨W.heap.size,0,none⟩)) (by simp only[o12,q12];rfl) rfl rfl (λz hz=>by rw[<-hz];go_simp;rfl) (λz=>listed_nil aI) ?_;exact hst
 .subst hT h1 h3 h4 h5 h6;refine⟨λi=>if i=12 then undef else f i,?_⟩;rw[h2];rfl
theorem PH.tp{q:CL}{σ:Nat->Nat}{bp AY bD bv h2 ba C:Nat}{b2:Nat->Nat}{B:Nat->Nat->F}{w:World}(h:PH K q σ bp AY bD bv h2 ba C b2 B w)(τ:Nat->Question->Nat)(d:Nat):PH K q σ bp AY bD bv h2 ba C b2 B {w with tape:=τ,drawn:=d}:=⟨h.p0,h.p1,h.vd,h.hD,h.vv,h.hW,h.hw,h.va,h.pay,h.new,h.gj,h.pl⟩
theorem PH.alloc{q:CL}{σ:Nat->Nat}{bp AY bD bv h2 ba C:Nat}{b2:Nat->Nat}{B:Nat->Nat->F}{w:World}(h:PH K q σ bp AY bD bv h2 ba C b2 B w)(o:Obj):PH K q σ bp AY bD bv h2 ba C b2 B (w.alloc o):=by obtain⟨n1,n2,n3,n4,n5,n6,n7,n8⟩:=h.new;exact⟨λt ht=>tJ o (h.p0 t ht),λt ht=>tJ o (h.p1 t ht),tJ o h.vd,λt ht=>tJ o (h.hD t ht),tJ o h.vv,λt ht=>tJ o (h.hW t ht),λt j ht hj=>tJ o (h.hw t j ht hj),tJ o h.va,(bK _ _ _ ae).trans h.pay,⟨n1,n2,n3,n4,n5,n6,n7,az⟩,h.gj,h.pl⟩
theorem ahg{q:CL}{σ bd od:Nat->Nat}{yv:Nat->Nat->Nat}{bp AY bD bv h2 ba:Nat}{b2:Nat->Nat}{B:Nat->Nat->F}{h0:Nat->Option Obj}(hn:0<K/\K<=128)(hL:L<=140737488355328)(hx:∀t,t<K->q.ix (σ t)<128)(hy:∀i m,yv i m<256):Nj (AZ K L q σ bd od yv bp AY bD bv h2 ba b2 B h0) K L:=by
 refine⟨ae,ae,ae,by simp[AZ],λt _=>⟨by simp[AZ,AL],λx hx=>?_⟩,λc hc=>?_,λt ht=>?_⟩
 .simp only[AZ,eX]at hx;obtain⟨j,_,rfl⟩:=hx;exact(B t j).isLt
 .simp only[AZ,eX]at hc;obtain⟨j,_,rfl⟩:=hc;refine⟨by simp[FZ,AL],λy hy'=>?_⟩;simp only[FZ,eX]at hy';obtain⟨m,_,rfl⟩:=hy';exact hy _ _
 .have:=hx t ht;show q.ix (σ t)<128;omega
theorem aen[Payload][qN](hpe:Payload.ety=34){X:Nat->Prop}{Y:Nat->Option Obj}{w2 v3 W:World}{lw C:Nat}{q:CL}{σ bd od:Nat->Nat}{yv:Nat->Nat->Nat}{bp AY bD bv h2 ba:Nat}{b2:Nat->Nat}{B:Nat->Nat->F}(hold:∀b,qN.old b->b<lw)(hX:∀b,X b->b<lw)(hge:lw<=bp/\lw<=AY/\lw<=bD/\lw<=bv/\lw<=h2/\∀t,t<K->lw<=b2 t)(hs:vY X Y W v3)(hS:DO w2 K q bd od yv)(hno:∀i,i<K->¬qN.old (bd i))(hqL:q.L=L)(hb:rJ w2.heap.size w2 v3)(hlow:∀b,b<w2.heap.size->b<C)(hP:PH K q σ bp AY bD bv h2 ba C b2 B v3){Wg:Nat}(Tf:W.heap.size=Wg+1)(hba:ba<Wg):
  SF Wg C K (Wg+1) L (AZ K L q σ bd od yv bp AY bD bv h2 ba b2 B (λb=>W.heap[b]?)) (Wg+1) 0 (gw W []):=by
 obtain⟨n1,n2,n3,n4,n5,n6,n7,n8⟩:=hP.new;obtain⟨g1,g2,g3,g4,g5,g6⟩:=hge;have hsz:=hs.size;have st:∀{b o:Nat}{u:Value},v3.cell? ⟨b,o,none⟩=some u->(gw W []).cell? ⟨b,o,none⟩=some u:=λ{b o u} h=>(show W.cell? ⟨b,o,none⟩=some u from JI hs h);have lo:∀{b:Nat},b<Wg->b≠C->lw<=b->Lo Wg C (Wg+1) b:=λ{b} h h' hl=>⟨ae,ae,h',λho=>by have:=hold b ho;omega⟩;have lr:∀t,t<K->Lo Wg C (Wg+1) (b2 t):=λt ht=>lo (by have:=n6 t ht;omega) (by have:=n6 t ht;omega) (g6 t ht)
 have hcs:∀{t:Nat}{c:Ph},((List.range K).map λt=>FZ q bd od yv L (σ t))[t]?=some c->t<K/\c=FZ q bd od yv L (σ t):=λ{t c} e=>by exact arL
 have hsz1:(gw W []).heap.size=Wg+1:=Tf;refine⟨⟨?_,ae,ae,λb hb=>?_⟩,⟨madeCells #[.slice none 0 0] K,?_,gK _ _⟩,⟨lo (b:=ba) ae ae ae,lo (b:=bv) ae ae ae,lo (b:=h2) ae ae ae,lo (b:=AY) ae ae ae,lo (b:=bD) ae ae ae,lo (b:=bp) ae ae ae,lr,st hP.va,st hP.vv,st hP.vd,λt ht=>?_,λt ht j x e=>?_,λj c e=>?_,λt ht=>?_,λt c e=>?_,λc hc=>?_,λb _ _ _=>rfl⟩,⟨ae,ae,ae⟩,λt c ht=>absurd ht ae⟩
 .unfold gw;rw[vV];exact ak _
 .unfold gw at hb;rw[uw]at hb;cases hb
 .exact arl
 .simp only[AZ,aS];exact st (hP.hW t ht)
 .simp only[AZ,aS,bQ]at e⊢;obtain⟨j',hj',rfl⟩:=bU.1 e;obtain⟨h1,rfl⟩:=DN hj';exact st (hP.hw t _ ht h1)
 .obtain⟨h1,rfl⟩:=hcs e;simp only[AZ,FZ,aS];have:=st (hP.hD j h1);rw[CL.d,hqL]at this;exact this
 .simp only[AZ,aS];exact st (hP.p0 t ht)
 .obtain⟨h1,rfl⟩:=hcs e;simp only[AZ,FZ,aS];have:=st (hP.p1 t h1);rw[CL.d,hqL]at this;exact this
 .simp only[AZ,eX,gp]at hc;obtain⟨t,ht,rfl⟩:=hc;have hσ:=hP.pl.lt t ht;have d1:=hS.lt (σ t) hσ;have d2:=hS.here (σ t) hσ;have d3:=hS.y (σ t);rw[hqL]at d2 d3;have:=hlow _ d1;refine⟨⟨by show bd (σ t)<_;omega,by show bd (σ t)≠_;omega,by show bd (σ t)≠C;omega,hno _ hσ⟩,d2,λi y e=>?_⟩;simp only[FZ,bQ]at e⊢;obtain⟨j',hj',rfl⟩:=bU.1 e;obtain⟨h1,rfl⟩:=DN hj';exact st ((Below.cell (p:=⟨bd (σ t),_,none⟩) hb d1).trans (d3 _ hσ h1))
def yF(yv:Nat->Nat->Nat)(σ:Nat->Nat)(m j:Nat):F:=Fin.ofNat 256 (yv (σ j) m)
theorem aeo{yv:Nat->Nat->Nat}(h:∀i m,yv i m<256)(σ:Nat->Nat)(m j:Nat):(yF yv σ m j).val=yv (σ j) m:=bu (h _ _)
def xF(K:Nat)(B:Nat->Nat->F)(yv:Nat->Nat->Nat)(σ:Nat->Nat)(t m:Nat):F:=F.dot K (B t) (yF yv σ m)
section
variable {q:CL}{σ bd od:Nat->Nat}{yv:Nat->Nat->Nat}{bp AY bD bv h2 ba C:Nat}{b2:Nat->Nat}{B:Nat->Nat->F}{h0:Nat->Option Obj}
theorem ahh(hy:∀i m,yv i m<256)(t m:Nat)(hm:m<L):((AZ K L q σ bd od yv bp AY bD bv h2 ba b2 B h0).res L t).getD m 0=(xF K B yv σ t m).val:=by
 have e:BZ ((AZ K L q σ bd od yv bp AY bD bv h2 ba b2 B h0).ws t) (AZ K L q σ bd od yv bp AY bD bv h2 ba b2 B h0).cs=(List.range K).map λj=>((B t j).val,(List.range L).map (yv (σ j))):=by simp only[BZ,AZ,je];exact List.zip_map'
 unfold Env.res;rw[e,PN (λj=>(B t j).val) (λj=>(List.range L).map (yv (σ j))) L m hm (λj=>ai) K]
 have e2:(λ(j r:Nat)=>r^^^mul (((List.range L).map (yv (σ j))).getD m 0) (B t j).val)=λj r=>r^^^mul (yF yv σ m j).val (B t j).val:=by
  funext j r
  rw[aeo hy];simp[hm]
 rw[e2,aaW K (B t) (yF yv σ m) K];rfl
theorem ahi(t:Nat):((AZ K L q σ bd od yv bp AY bD bv h2 ba b2 B h0).res L t).length=L:=by unfold Env.res;rw[z_];simp
theorem aep(hK:K<=128)(hx:∀i,i<K->q.ix i<128)(hpl:IZ K q.ix σ)(hg:∃A,F.Gj K (mF K λs=>q.ix (σ s)) K A B){t:Nat}(ht:t<K)(e:q.ix (σ t)=t)(m:Nat):xF K B yv σ t m=yF yv σ m t:=by obtain⟨A,hg⟩:=hg;have h1:=F.aji hg (yF yv σ m) t ht;rw[F.xO ht ((ait hK hpl hx).unit t ht (by rw[show(Fin.ofNat 256 (q.ix (σ t))).val=q.ix (σ t)from bu (by have:=hx _ (hpl.lt t ht);omega),e];exact ht)).2]at h1;exact h1
theorem ajj[Payload][qN]{X:Nat->Prop}{Y:Nat->Option Obj}{w2 v3 W W' v':World}{s0:Nat}{l ids:List Nat}(hs:vY X Y W v3){Wg:Nat}(Tf:W.heap.size=Wg+1)(amd:ba<Wg)(hn:0<K/\K<=128)(hx:∀i,i<K->q.ix i<128)(hS:DO w2 K q bd od yv)(hlow:∀b,b<w2.heap.size->b<C)(hP:PH K q σ bp AY bD bv h2 ba C b2 B v3)
  (hk:∀b c t fr,¬(X b\/b=Wg)->W'.heap[b]?=some (.cells c t fr)->v'.heap[b]?=some (.cells c t fr)) (hX:∀b,X b->b<w2.heap.size)
  (hF:SF Wg C K (Wg+1) L (AZ K L q σ bd od yv bp AY bD bv h2 ba b2 B (λb=>W.heap[b]?)) s0 K (gw W' l)) (zy:∀x,x∈ids↔(AZ K L q σ bd od yv bp AY bD bv h2 ba b2 B (λb=>W.heap[b]?)).AX K x)
  (hres:∀x∈ids,∃v l',Has C x v W'/\Q9 C L ((AZ K L q σ bd od yv bp AY bD bv h2 ba b2 B (λb=>W.heap[b]?)).res L) x v (gw W' l')/\∀b∈l',Wg+1<=b):
  (∃dN:Nat->Nat,∀t,t<K->v'.cell? ⟨C,t,none⟩=some (.slice (some ⟨dN t,0,none⟩) L L)/\∀m,m<L->v'.cell? ⟨dN t,m,none⟩=some (.int .u8 (((xF K B yv σ t m).val:Nat):Int)))/\v'.cell? ⟨ba,0,none⟩=some (.slice (some ⟨C,0,none⟩) K K):=by
 obtain⟨n1,n2,n3,n4,n5,n6,n7,n8⟩:=hP.new;have hsz:=hs.size;have up:∀{b o:Nat}{u:Value},¬X b->b≠Wg->W'.cell? ⟨b,o,none⟩=some u->v'.cell? ⟨b,o,none⟩=some u:=λhx hb h=>aaX (X:=λb=>X b\/b=Wg) hk (λe=>e.elim hx hb) h
 have lw:∀{b o:Nat}{u:Value},b<Wg->b≠C->v3.cell? ⟨b,o,none⟩=some u->v'.cell? ⟨b,o,none⟩=some u:=λ{b o u} h h' hc=>by exact aq5
 have hXC:∀b,X b->b<C:=λb hb=>hlow b (hX b hb)
 have hmem:∀t,t<K->∃N',v'.cell? ⟨C,t,none⟩=some (.slice (some ⟨N',0,none⟩) L L)/\∀m,m<L->v'.cell? ⟨N',m,none⟩=some (.int .u8 (((xF K B yv σ t m).val:Nat):Int)):=by
  intro t ht
  have fin:∀(N':Nat)(xs:List Nat),Wg+1<=N'->W'.heap[N']?=some (.cells (sD xs) 5)->xs.length=L->(∀m,m<L->xs.getD m 0=(xF K B yv σ t m).val)->∀m,m<L->v'.cell? ⟨N',m,none⟩=some (.int .u8 (((xF K B yv σ t m).val:Nat):Int)):=by intro N' xs h0 h1 h2 h3 m hm;refine up (λhx=>by have:=hXC N' hx;omega) ae ?_;simp only[World.cell?,h1];rw[wR,aY ae,dK,<-h3 m hm,aO,aY ae];rfl
  have upC:∀{o:Nat}{u:Value},W'.cell? ⟨C,o,none⟩=some u->v'.cell? ⟨C,o,none⟩=some u:=λh=>up (λhx=>by have:=hXC C hx;omega) ae h
  by_cases e:q.ix (σ t)=t
  .have hc:(AZ K L q σ bd od yv bp AY bD bv h2 ba b2 B (λb=>W.heap[b]?)).cs[t]?=some (FZ q bd od yv L (σ t)):=by
    show((List.range K).map _)[t]?=_;rw[bQ,l7 ht];rfl
   obtain⟨N',_,_,hmn,h1,h2⟩:=hF.dn t _ ht (λhm=>hm.2 e) hc;refine⟨N',upC h1,fin N' _ hmn.2 h2 (by simp[FZ]) λm hm=>?_⟩;rw[aep hn.2 hx hP.pl hP.gj ht e,aeo hS.yl];simp[FZ,hm]
  .obtain⟨v,l',h1,⟨N',rfl,hmn,_,h2⟩,hl'⟩:=hres t ((zy t).2 ⟨ht,e⟩);exact⟨N',upC h1,fin N' _ (hl' N' ((xm W' l' N').1 hmn)) h2 (ahi t) λm hm=>ahh hS.yl t m hm⟩
 refine⟨⟨λt=>if h:t<K then(hmem t h).choose else 0,λt ht=>?_⟩,lw ae ae hP.va⟩;simp only[jV ht];exact(hmem t ht).choose_spec
end
end
theorem aaY(E:Env):∀d j,PG E j d<=d
 |0,_=>ak _
 |d+1,j=>by unfold PG;have:=aaY E d (j+1);split<;>omega
section
variable {X:Nat->Prop}{Y:Nat->Option Obj}{D:Nat->World->Array Event->Prop}{Stop:Goroutine->World->Prop}{v:World}{K C Wg j:Nat}{E:Env}{cs:List Frame}{f:Frame}
theorem ajk(hD:uo X D){T:Array Value}{ops:Array Oper}(hT:TS E Wg K j T)(hba:v.cell? ⟨E.ba,0,none⟩=some (.slice (some ⟨C,0,none⟩) K K))
  (hend:∀τ d,∀w,qH X Y w {v with tape:=τ,drawn:=d}->ru Tryz.prog D Stop (G (f.finish (.slice (some ⟨C,0,none⟩) K K)) cs) w):
  sK Tryz.prog X Y D Stop 67 (f::cs) (.inRegion ops []::[.code aaR]) ⟨T,[]⟩ v:=by
 obtain⟨v0,v1,v2,v3,v4,v5,v6,v8,v9,v13,v14,v15,v16,v17,v18,v19,v20,v21,v22,v23,v24,v25,v26,v27,v28,v29,v30,v31,v32,v33,v34,v35,v36,v37,v38,v39,v40,v41,v42,v43,v44,v45,v46,v50,v51,v52,v53,v54,v55,v56,v57,v58,v59,v60,v61,v62,v63,v64,v65,v66,v67,v68,rfl⟩:=hT;refine WC hD ?_;unfold aaR;simp only[o22,q22];refine qL qI hD ag rfl Wv λR hR τ d'=>?_
 have hb1:({v with tape:=τ,drawn:=d'}:World).cell? ⟨E.ba,0,none⟩=some (.slice (some ⟨C,0,none⟩) K K):=hba;have hv1:=hend τ d';generalize{v with tape:=τ,drawn:=d'}=v1 at hb1 hv1⊢;go_wp2;refine F5 (y:=.slice (some ⟨C,0,none⟩) K K) hD rfl Tryz.func67 (λτ d=>?_) hv1;exact lK (fn:=Tryz.f67) (t:=4) rfl _ _ _
