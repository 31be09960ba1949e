import Derived.Test.YtlghjjennhpjeaaGreatDoorDfM
set_option maxHeartbeats 8000000
set_option maxRecDepth 100000
namespace Go.Proofs.Y
open Go.Proofs.Tryz
open Go.RowKit Go.Deep Go.Lf Go.Conc Go.ConcN Go.Gh Go.Hp
open Go.ConcR (Payload WgAt wgBlock)
theorem Dl{X:Nat->Prop}{Y:Nat->aZ}{W W' v v':ah}(hs:rG X Y W v)(xk:rG X Y W' v')(hb:tX v.heap.size v v'):KpX X W W':=by obtain⟨τ,d,h⟩:=hs;obtain⟨τ',d',h'⟩:=xk;have e1:W.heap.size=v.heap.size:=h.size;have e2:W'.heap.size=v'.heap.size:=h'.size;have:=hb.uo;exact⟨h'.os.trans (nM (show v'.os=v.os from hb.os) h.os.symm),h'.out.trans (nM (show v'.output=v.output from hb.output) h.out.symm),ag,λb qB hx=>yg.agree h h' hx (hb.blk ag)⟩
theorem KpX.trans{X X':Nat->Prop}{a b c:ah}(h:KpX X a b)(h':KpX X' b c)(hX:∀x,X' x->X x\/a.heap.size<=x):KpX X a c:=
 ⟨h'.os.trans h.os,h'.output.trans h.output,bF h.size h'.size,λx hx hn=>(h'.block x (bH hx h.size) λy=>(hX x y).elim hn ag).trans (h.block x hx hn)⟩
theorem ahd{X:Nat->Prop}{Y:Nat->aZ}{W v:ah}(h:rG X Y W v){b o:Nat}{u:ai}(hc:v.cell? ⟨b,o,none⟩=some u):¬X b:=λhx=>by obtain⟨τ,d,hs⟩:=h;obtain⟨c,t,fr,_,h2⟩:=hs.doc b hx;replace h2:v.heap[b]?=some (.cells #[] t fr):=h2;simp[World.cell?,h2]at hc
theorem Yj{w w':ah}(hs:Sub w w'):∀{d:Nat}{v:ai}{e p:Nat},sF w d v e p->sF w' d v e p
 |0,_,_,_,⟨b,h1,h2⟩=>⟨b,h1,hs.row h2⟩
 |_+1,_,_,_,⟨b,s,c,h1,h2,h3⟩=>⟨b,s,c,h1,hs.row h2,Yj hs h3⟩
theorem Tq.sub{w w':ah}{bo:aW}{n:Nat}{sh:Nat->vZ}{vN vS vC:Nat->ai}(h:Tq w bo n sh vN vS vC)(hs:Sub w w'):Tq w' bo n sh vN vS vC:=
 ⟨λhn=>by
  obtain⟨b,o,e,hl,hc⟩:=h.cells hn;exact⟨b,o,e,bH hl hs.1,λi hi j v hv=>hs.cell (hc i hi j v hv)⟩,
  λi hi=>⟨hs.lies (h.nm i hi).1,(h.nm i hi).2⟩,λi hi=>⟨hs.lies (h.sz i hi).1,(h.sz i hi).2⟩,λi hi=>hs.lies (h.cl i hi),h.kn⟩
theorem aa6{K L m:Nat}(l:aj)(i:Nat)(hm:m<L):sV (He K L l i) m=A7 (sN K i) (λj=>Ox l L j m) K:=by unfold sV He;rw[bG,dV,o8 hm];simp only[fM,bf,jy];exact dB (OM (λ_=>Am) K)
theorem amN{w:ah}{C K L:Nat}{dN:Nat->Nat}{x:Nat->Nat->Nat}(hx:∀t m,x t m<256)(h:∀t,t<K->w.cell? ⟨C,t,none⟩=some (.slice (some ⟨dN t,0,none⟩) L L)/\∀m,m<L->w.cell? ⟨dN t,m,none⟩=some (.int .u8 ((x t m:Nat):Int))):aot w C K L dN (zU K L x):=by refine⟨by simp[zU],ac4,λt ht=>(h t ht).1,λt l hl m u hu=>?_⟩;simp only[zU,dV]at hl;obtain⟨t',ht',rfl⟩:=dU.1 hl;obtain⟨h1,h2⟩:=fB.1 ht';simp at h1 h2;subst h2;simp only[dV]at hu;obtain⟨m',Tf,rfl⟩:=dU.1 hu;obtain⟨h3,h4⟩:=fB.1 Tf;simp at h3 h4;subst h4;rw[(h t h1).2 m h3,jy,dB (hx t m)]
theorem aeb{w:ah}{b:Nat}{l:aj}{ty:aG}(h:w.heap[b]?=some (.cells (rP l).toArray ty)):qP w (.slice (some ⟨b,0,none⟩) l.length l.length) (rP l):=
 ⟨some ⟨b,0,none⟩,l.length,fV,fV,λj u hj=>⟨b,0,rfl,by rw[bJ];exact cell_of_block h iC⟩⟩
def slB:ai->aW| .slice b _ _=>b|_=>none
def slC:ai->Nat| .slice _ _ c=>c|_=>0
def qOf(L:Nat)(sh:Nat->vZ)(vC:Nat->ai):CL:=⟨L,λi=>(sh i).i,λi=>slB (vC i),λi=>slC (vC i)⟩
def amO(bc:Nat)(v:ai):Nat:=match slB v with|some a=>a.block|none=>bc
def apg(v:ai):Nat:=match slB v with|some a=>a.off|none=>0
def Xl(K L M:Nat)(sh:Nat->vZ)(l:aj):Prop:=∀t,t<M->(sh t).qC=He K L l (sh t).i
def asn(K L M tt:Nat)(sh:Nat->vZ)(l:aj)(vd y:ai)(w:ah):Prop:=
 (y=.tuple #[vd,.nilIface]/\Xl K L M sh l/\∀l',l'.length=tt->Xl K L M sh l'->l'=l)\/∃ev p,y=.tuple #[.slice none 0 0,ev]/\sF w 0 ev 13 p/\¬∃l',l'.length=tt/\Xl K L M sh l'
section
variable {X:Nat->Prop}{Y:Nat->aZ}{K N L tt M bc:Nat}{bo:aW}{sh:Nat->vZ}{vN vS vC:Nat->ai}{w:ah}
theorem aq3(hH:DsH K N L tt M sh)(hC:CR bc M M sh vC w)(hbc:bc<w.heap.size)(LP:∀i,i<M->qP w (vC i) (rP (sh i).qC)):CO w bc 0 K (qOf L sh vC):=by
 have r:w.rowIs bc _ _ _:=hC;have:=hH.kM;refine⟨hbc,λi hi=>?_,λi hi=>?_⟩
 .have:=r.cell (i:=i*2) ag;simp only[show i*2/2=i by omega,show i<M by omega,aY,crF,show i*2%2=0 by omega]at this;rw[bJ];exact this
 .have h2:=r.cell (i:=i*2+1) ag;simp only[show(i*2+1)/2=i by omega,show i<M by omega,aY,crF,show¬(i*2+1)%2=0 by omega,bU]at h2;rw[bJ,h2];obtain⟨ba,cap,e,_⟩:=LP i ag;have hl:=hH.len i ag;simp only[qOf,e,slB,slC];simp[rP,hl]
theorem ano(hkM:K<=M)(hlen:∀i,i<M->(sh i).qC.length=L)(hbc:bc<w.heap.size)(LP:∀i,i<M->qP w (vC i) (rP (sh i).qC)):DO w K (qOf L sh vC) (λi=>if 0<L then amO bc (vC i)else bc) (λi=>apg (vC i)) (λi m=>sV (sh i).qC m):=by
 have key:∀i,i<K->0<L->∃b off cap,vC i=.slice (some ⟨b,off,none⟩) L cap/\∀m,m<L->w.cell? ⟨b,off+m,none⟩=some (.int .u8 (sV (sh i).qC m:Int)):=λi hi hL=>by
  have hl:=hlen i ag;obtain⟨ba,cap,e,_,hc⟩:=LP i ag;have el:(rP (sh i).qC).length=L:=by simp[rP,hl]
  obtain⟨b,off,rfl,_⟩:=hc 0 _ (wF ag);rw[el]at e;refine⟨b,off,cap,e,λm hm=>?_⟩;obtain⟨b',akN,e',h⟩:=hc m _ (wF ag);cases e';exact h
 refine⟨λi hi=>?_,λi hi hL=>?_,λi m hi hm=>?_,λi m=>mY _⟩
 .by_cases hL:0<L
  .obtain⟨b,off,cap,e,h⟩:=key i hi hL;simp only[hL,aY,amO,e,slB];exact rY (h 0 hL)
  .simp only[hL,bU];exact hbc
 .have hL':0<L:=hL;obtain⟨b,off,cap,e,h⟩:=key i hi hL';simp only[hL',aY,amO,apg,qOf,e,slB]
 .have Tf:m<L:=hm;have hL':0<L:=ag;obtain⟨b,off,cap,e,h⟩:=key i hi hL';simp only[hL',aY,amO,apg,e,slB];exact h m Tf
end
theorem afF{Fin:Machine->Trace->Prop}(yP:∀m m' ops t,stepT prog m=(.next m',ops)->Fin m' (t++ops)->Fin m t){X:Nat->Prop}{Y:Nat->aZ}{e:Nat}{gs:dD}{W v0:ah}{sl:Option (Nat×Nat)}{t:Trace}{qq:Nat->Nat}{fr:aS}{cs:aT}{K N L tt M cap:Nat}{bo:aW}{sh:Nat->vZ}{vN vS vC:Nat->ai}
  (h0:gs[0]?=some (G ((base 25).at ⟨#[.slice bo M cap]++Array.replicate 75 undef,[]⟩ [.code xQ]) (fr::cs))) (hB:LU prog (wX X) e gs W t qq) (hs:rG X Y W v0)
  (hH:DsH K N L tt M sh) (hS:Tq v0 bo M sh vN vS vC) (he:e+K+N<2147483648)
  (qZ:∀(e':Nat)(l:aj)(vd y:ai)(X':Nat->Prop)(QG:dD)(W':ah)(sl':Option (Nat×Nat))(t':Trace)(q':Nat->Nat)(Y':Nat->aZ)(v':ah),e'<=e+K+N->l.length=tt->QG[0]?=some (G (fr.finish y) cs)->
   LU prog (wX X') e' QG W' t' q'->rG X' Y' W' v'->(∀b,X b->X' b)->(∀b,X' b->X b\/W.heap.size<=b)->Sub v0 v'->KpX X W W'->qP v' vd (rP l)->Qe vd tt->asn K L M tt sh l vd y v'->Fin (crowd QG W' sl') t'):
  Fin (crowd gs W sl) t:=by
 obtain⟨k1,kn,n1,kM,hM,sk,sn,st,t1,hl,len,VX,inj⟩:=id hH;have hLt:=G_ (k:=K) k1 tt;have hKL:=Y7 (k:=K) k1 tt;have xY:W.heap.size=v0.heap.size:=hs.size
 let St:aI->ah->Prop:=λgr W=>∃T bc v1,TD1 (.slice bo M cap) K N tt M bc T/\CR bc M M sh vC v1/\tX v0.heap.size v0 v1/\v0.heap.size<=bc/\gr=G ((base 52).at ⟨#[.int .i64 (K:Int),.slice (some ⟨bc,0,none⟩) M M]++Array.replicate 67 undef,[]⟩ [.code Jt]) (frD T::fr::cs)/\rG X Y W v1
 have key:∀(T:aH)(bc:Nat)(v1:ah),TD1 (.slice bo M cap) K N tt M bc T->CR bc M M sh vC v1->tX v0.heap.size v0 v1->v0.heap.size<=bc->
   uN prog X Y (DM (wX X)) St 25 (fr::cs) [.code do8] ⟨T,[]⟩ v1:=λT bc v1 hT hC hb hbc=>alK (BV X) hT λT' hT' y hy=>.stop λd=>⟨T',bc,v1,hT',hC,hb,hbc,rfl,hy.at d⟩
 have alb:=aor (cap:=cap) (BV X) hH hS key;refine late (Fin:=Fin) (Shun:=wX X) (e:=e) yP (λ_ _ _ h=>h) (λgs1 a1 W1 sl1 t1 q1 h01 uw yQ=>?_) (alb W hs) W.drawn gs sl t qq h0 hB;obtain⟨T,bc,v1,hT,hC,tV,hbc,rfl,Ai⟩:=uw W1.drawn;replace Ai:rG X Y W1 v1:=Ai;have NU:=Dl hs Ai tV;have T_:=xn tV;have aq4:bc<v1.heap.size:=World.rowIs.lt hC;have aq5:∀i,i<M->qP v1 (vC i) (rP (sh i).qC):=λi hi=>T_.lies (hS.cl i hi)
 have hDO:=ano (bc:=bc) hH.kM hH.len aq4 aq5
 have hXb:¬X bc:=λhx=>by obtain⟨τ,d,hh⟩:=hs;have:=hh.bound bc (.inl hx);have:bc<v0.heap.size:=this;omega
 refine YX yP (q:=qOf L sh vC) h01 yQ Ai ⟨ag,ag⟩ kM (ay _) (λi hi=>by have:=VX i ag;show(sh i).i<128;omega) (aq3 hH hC aq4 aq5) (λi j hi hj hne=>inj i j ag ag hne) hDO (λi hi=>?_) (by show L<=65536;omega) ag ?_
 .by_cases hL:0<L
  .have h1:=hDO.y i 0 hi hL;exact ahd Ai h1
  .simp only[hL,bU];exact hXb
 intro e2 σ B C Wg dN gs2 W2 sl2 t2 q2 Y2 v2 he2 uD hgj h02 zJ Gn hWg acA SY hcell;have hP:=amN (L:=L) (x:=λt m=>(xF K B (λi m=>sV (sh i).qC m) σ t m).val) (λt m=>(xF K B (λi m=>sV (sh i).qC m) σ t m).isLt) hcell;have hfl:=Nw L (λt m=>(xF K B (λi m=>sV (sh i).qC m) σ t m).val) K
 have aka:∀l':aj,l'.length=tt->Xl K L M sh l'->(zU K L (λt m=>(xF K B (λi m=>sV (sh i).qC m) σ t m).val)).flatten.take tt=l':=λl' h1 h2=>by
  rw[<-h1];refine UH (by rw[h1,hl];exact hKL) λt m ht hm=>aeT (ix:=λi=>(sh i).i) uD hgj (λi hi=>?_) ht
  show sV (sh i).qC m=_;rw[h2 i ag,aa6 l' _ hm]
 generalize(zU K L (λt m=>(xF K B (λi m=>sV (sh i).qC m) σ t m).val))=ls at hP hfl aka;have TQ:tt<=ls.flatten.length:=by rw[hfl,hl];exact hKL
 have hdl:(ls.flatten.take tt).length=tt:=by rw[jf];omega
 let St2:aI->ah->Prop:=λgr W=>∃T2 vd v3,TD2 (.slice bo M cap) K N tt M bc vd T2/\qP v3 vd (rP (ls.flatten.take tt))/\Qe vd tt/\tX v2.heap.size v2 v3/\gr=G ((base 53).at ⟨#[.int .i64 ((K:Nat):Int),.int .i64 ((N:Nat):Int),vd]++Array.replicate 23 undef,[]⟩ [.code Bf]) (frF T2::fr::cs)/\rG (λb=>X b\/b=Wg) Y2 W v3
 have aso:=aos (Stop:=St2) (cs:=fr::cs) (Y:=Y2) (L:=L) (BV (λb=>X b\/b=Wg)) hT hP ⟨ag,ag⟩ ag TQ (λT' vd w' a1 a2 a3 a4 y hy=>.stop λd=>⟨T',vd,w',a1,a2,a3,a4,rfl,hy.at d⟩);refine late (Fin:=Fin) (Shun:=wX (λb=>X b\/b=Wg)) (e:=e2) yP (λ_ _ _ h=>h) (λgs3 a3 W3 sl3 t3 q3 h03 atb F8=>?_) (aso W2 Gn) W2.drawn gs2 sl2 t2 q2 h02 zJ;obtain⟨T2,vd,v3,VY,hLd,hDd,uQ,rfl,zM⟩:=atb W3.drawn;replace zM:rG (λb=>X b\/b=Wg) Y2 W3 v3:=zM;have hk3:=Dl Gn zM uQ;have aaf:=xn uQ;have E8:=NU.size;have xI:=SY.size;have PY:=hk3.size;refine Y1 yP h03 F8 zM k1 kn n1 (by rw[hdl];exact hH.t1) hLd ag ?_;intro C2 Wg2 dN2 Yv W4 sl4 t4 q4 Y4 v4 h04 xX Yw asq hC2 XG hk4 aec;rw[hdl,<-hl]at aec;have Xh:Sub v0 v4:=T_.trans (acA.trans (aaf.trans XG));have aph:Sub v1 v4:=acA.trans (aaf.trans XG)
 have hC4:CR bc M M sh vC v4:=by obtain⟨c,h1,h2,h3⟩:=id hC;exact⟨c,aph.2 _ _ _ _ h1,h2,h3⟩
 have hag:∀i,i<N->v4.cell? ⟨C2,i,none⟩=some (.slice (some ⟨dN2 i,0,none⟩) L L)/\qP v4 (.slice (some ⟨dN2 i,0,none⟩) L L) (rP (He K L (ls.flatten.take tt) i)):=λi hi=>by refine⟨(aec i hi).1,?_⟩;have:=aeb (aec i hi).2;rw[abh]at this;exact this
 let St3:aI->ah->Prop:=λgr W=>∃y v5,DoR M sh (He K L (ls.flatten.take tt)) vd v4 y v5/\gr=G (fr.finish y) cs/\rG (λb=>(X b\/b=Wg)\/b=Wg2) Y4 W v5
 have YL:=aou (Stop:=St3) (cs:=fr::cs) (Y:=Y4) (w:=v4) (va:=.slice (some ⟨C2,0,none⟩) N N) (BV (λb=>(X b\/b=Wg)\/b=Wg2)) VY (λT3 hT3=>FN.2 (alL (Stop:=St3) (BV (λb=>(X b\/b=Wg)\/b=Wg2)) hT3 hM hC4 (λi hi=>Xh.lies (hS.cl i hi)) VX hag λy v5 hy w' sH=>.stop λd=>⟨y,v5,hy,rfl,sH.at d⟩));refine late (Fin:=Fin) (Shun:=wX (λb=>(X b\/b=Wg)\/b=Wg2)) (e:=e2+N) yP (λ_ _ _ h=>h) (λgs5 a5 W5 sl5 t5 q5 h05 atc Y_=>?_) (YL W4 Yw) W4.drawn Yv sl4 t4 q4 h04 xX;obtain⟨y,v5,⟨Xg,hy⟩,rfl,L6⟩:=atc W5.drawn;replace L6:rG (λb=>(X b\/b=Wg)\/b=Wg2) Y4 W5 v5:=L6;have hk5:=Dl Yw L6 Xg;have anC:=xn Xg;refine qZ (e2+N) (ls.flatten.take tt) vd y _ gs5 W5 sl5 t5 q5 Y4 v5 ag hdl h05 Y_ L6 (λb h=>.inl (.inl h)) (λb h=>?_) (Xh.trans anC) ?_ ((XG.trans anC).lies hLd) hDd ?_
 .rcases h with(h|rfl)|rfl
  .exact .inl h
  .exact .inr ag
  .exact .inr ag
 .refine((NU.trans SY λx hx=>.inl hx).trans hk3 λx hx=>hx.imp id λh=>ag).trans (hk4.trans hk5 λx hx=>?_) λx hx=>?_
  .rcases hx with h|rfl
   .exact .inl h
   .exact .inr asq
  .rcases hx with h|rfl
   .exact .inl h
   .exact .inr ag
 .rcases hy with⟨h1,h2⟩|⟨ev,p,h1,h2,h3⟩
  .exact .inl ⟨h1,h2,λl' h4 h5=>(aka l' h4 h5).symm⟩
  .refine .inr ⟨ev,p,h1,h2,λ⟨l',h4,h5⟩=>h3 λt ht=>?_⟩;rw[aka l' h4 h5];exact h5 t ht
end Go.Proofs.Y
namespace Go.Proofs.Y
open Go.Proofs.Tryz
open Go.RowKit Go.Deep Go.Lf Go.Conc Go.Hp
section
variable {P:aP}{X:Nat->Prop}{Y:Nat->aZ}{D:Nat->ah->aN->Prop}{Stop:aI->ah->Prop}{f:aU}{k:dh}{cs:aT}{v:ah}
theorem ahe(hD:zN X D){fn:Func}(hf:P.funcs[f]?=some fn){T:aH}{c:aS}{y:ai}(F9:∀τ d,(results fn T).run P {v with tape:=τ,drawn:=d}=.ok y {v with tape:=τ,drawn:=d})
  (h:∀w,rG X Y w v->sU P D Stop (G (c.finish y) cs) w):uN P X Y D Stop f (c::cs) (.code .ret::k) ⟨T,[]⟩ v:=
 λw hs=>.next rfl λd=>⟨G {Dn none [] f T (.code .ret::k)with mode:=.returning} (c::cs),w.at d,#[],rfl,hD.nil (ay _),adX hD hf F9 h _ (hs.at d)⟩
end
section
variable {X:Nat->Prop}{Y:Nat->aZ}{D:Nat->ah->aN->Prop}{Stop:aI->ah->Prop}{w:ah}{K N C m cap:Nat}{bo:aW}{f:Nat->rU}{d:rU->aj}{fr:aS}{cs:aT}
end
noncomputable def xP:Code:=Tryz.f10.body.getD .skip
noncomputable def YK:Code:=rX (rX xP)
noncomputable def ad5:Code:=rX YK
noncomputable def ad6:Code:=rX ad5
theorem ahf:xP=.seq (sZ xP) (.seq (sZ (rX xP)) YK):=ak
def aq6:Code->Code| .cond _ x _=>x|c=>c
theorem api:YK=.seq (.seq (sZ (sZ YK)) (.seq (sZ (rX (sZ YK))) (.cond (.tmp 13) (.seq (sZ (aq6 (rX (rX (sZ YK))))) .ret) .skip))) ad5:=ak
theorem amP:YK=.seq (sZ YK) ad5:=ak
noncomputable def qa5:{y:Array Oper//y=zt (sZ ad5)}:=⟨_,by(simp only[ad5,YK,xP,sZ,rX,zt,Tryz.f10,bf];rfl)⟩
noncomputable def aO5:Array Oper:=qa5.1
theorem apj:ad5=.seq (.region 5 aO5 false) ad6:=ak
theorem akb:aO5.size=7:=ak
theorem ahg:∃fn,prog.funcs[10]?=some fn:=⟨_,func10⟩
def Ta(f:Nat->ai)(a4 a5 a6 a7:ai):aH:=#[f 0,f 1,f 2,f 3,a4,a5,a6,a7,f 8,f 9,f 10,f 11,f 12,f 13,f 14,f 15,f 16,f 17,f 18,f 19,f 20,f 21,f 22,f 23,f 24,f 25,f 26,f 27,f 28,f 29,f 30,f 31,f 32,f 33,f 34]
abbrev aq7(T:aH):aH:=Ta (λi=>T.getD i undef) (T.getD 4 undef) (T.getD 5 undef) (T.getD 6 undef) (T.getD 7 undef)
theorem aed{T:aH}(h:T=aq7 T):T=aq7 T:=h
def TA1(vs:ai)(T:aH):Prop:=∃f:Nat->ai,T=Ta f vs (f 5) (f 6) (f 7)
def TA2(vs vd ve:ai)(T:aH):Prop:=∃f:Nat->ai,T=Ta f vs (f 5) vd ve
noncomputable def ahI(T:aH):aS:=(base 10).at ⟨T,[]⟩ (.inRegion aO5 [1,2,3,4,5,6]::[.code ad6])
structure Prm(n:Nat)(g:Nat->Nat):Prop where
 lt:∀i,i<n->g i<n
 inj:∀i j,i<n->j<n->i≠j->g i≠g j
 onto:∀j,j<n->∃i,i<n/\g i=j
def shS(M:Nat)(sh:Nat->vZ)(vN vS vC:Nat->ai)(i:Nat):aK:=if i<M then Me (sh i) (vN i) (vS i) (vC i)else List.replicate 7 (.int .i64 0)
theorem akc{w:ah}{bo:aW}{M:Nat}{sh:Nat->vZ}{vN vS vC:Nat->ai}(h:Tq w bo M sh vN vS vC):SB (shS M sh vN vS vC):=by
 refine⟨λi=>?_,λi u hu=>?_⟩
 .unfold shS;split
  .rfl
  .simp
 .unfold shS at hu;split at hu
  .rename_i hi;have e1:=(h.nm i hi).1.one;have e2:=(h.sz i hi).1.one;have e3:=(h.cl i hi).one;simp only[Me,dK,nG,mX]at hu;rcases hu with rfl|rfl|rfl|rfl|rfl|rfl|rfl
   .rfl
   .rfl
   .rfl
   .rfl
   .exact e1
   .exact e2
   .exact e3
  .obtain rfl:=List.eq_of_mem_replicate hu;rfl
theorem aee{w w':ah}{bo:aW}{M:Nat}{sh:Nat->vZ}{vN vS vC:Nat->ai}{r:Ending}(h:Tq w bo M sh vN vS vC)(hx:∀i,i<M->(sh i).i<256)(hI:ByI (shS M sh vN vS vC) (λi=>(sh i).i) M w r w'):
  Below w.heap.size w w'/\∃(g:Nat->Nat)(bs:aW)(cp:Nat),r=.returned (.slice bs M cp)/\Prm M g/\(∀i,i+1<M->(sh (g i)).i<=(sh (g (i+1))).i)/\Tq w' bs M (λi=>sh (g i)) (λi=>vN (g i)) (λi=>vS (g i)) (λi=>vC (g i)):=by
 obtain⟨hb,out,v,rfl,⟨σ,τ,uw,ho⟩,QP,vO⟩:=hI;refine⟨hb,?_⟩;have hl:∀i,i<M->(out i).l=σ i:=λi hi=>by rw[ho i hi];rfl
 have hk:∀i,i<M->zY (out i)=(sh (σ i)).i:=λi hi=>by rw[ho i hi];exact abD (hx _ (uw i hi).1)
 have hsg:∀i,i<M->∃b,(out i).k=[b]:=λi hi=>by rw[ho i hi];exact⟨_,rfl⟩
 have hv:∃bs cp,v=.slice bs M cp/\(0<M->∃g,bs=some ⟨g,0,none⟩):=by
  rcases vO.2 with⟨h1,h0⟩|⟨g,c,_,h1,_⟩
  .exact⟨none,0,by rw[h1,h0],λh=>ag⟩
  .exact⟨_,c,h1,λ_=>⟨g,rfl⟩⟩
 obtain⟨bs,cp,rfl,BR⟩:=hv;refine⟨σ,bs,cp,rfl,⟨λi hi=>(uw i hi).1,λi j hi hj hne e=>hne ?_,λj hj=>⟨τ j,(uw j hj).2.1,(uw j hj).2.2.2⟩⟩,λi hi=>?_,?_,λi hi=>?_,λi hi=>?_,λi hi=>?_,λi hi=>h.kn _ (uw i hi).1⟩
 .have a1:=(uw i hi).2.2.1;have a2:=(uw j hj).2.2.1;rw[e,a2]at a1;exact a1.symm
 .have:=QP i hi;unfold Hp.le at this;rw[adE (hsg _ ag) (hsg _ ag),hk _ ag,hk _ ag]at this;have:=gQ this;omega
 .intro hn;obtain⟨g,rfl⟩:=BR hn;have hS:=akc h;refine⟨g,0,rfl,?_,λi hi=>?_⟩
  .have:=xK (c:=λe=>shS M sh vN vS vC e.l) (λe=>hS.len e.l) vO hn 0 ((shS M sh vN vS vC (out 0).l)[0]'(by rw[hS.len];omega)) (bQ _);exact rY this
  .have:=xK (c:=λe=>shS M sh vN vS vC e.l) (λe=>hS.len e.l) vO hi;rw[hl i hi,shS,ax (uw i hi).1]at this;rw[bJ];exact this
 .exact⟨(h.nm _ (uw i hi).1).1.aa0 hb (ay _),(h.nm _ (uw i hi).1).2⟩
 .exact⟨(h.sz _ (uw i hi).1).1.aa0 hb (ay _),(h.sz _ (uw i hi).1).2⟩
 .exact(h.cl _ (uw i hi).1).aa0 hb (ay _)
theorem OO{w:ah}(τ:Nat->Question->Nat)(d:Nat){k:Nat}{v:ai}{e p:Nat}(h:sF w k v e p):sF {w with tape:=τ,drawn:=d} k v e p:=Yj (w:=w) (w':={w with tape:=τ,drawn:=d}) ⟨ay w.heap.size,λ_ _ _ _ h=>h⟩ h
theorem G5.one{n:Nat}{sh:Nat->vZ}{e e':Nat}(h:G5 n sh e)(h':G5 n sh e'):e'=e:=by rcases h with⟨rfl,a⟩|⟨rfl,a,b⟩|⟨rfl,a,b,c⟩|⟨rfl,a,b,c,d⟩<;>rcases h' with⟨rfl,a'⟩|⟨rfl,a',b'⟩|⟨rfl,a',b',c'⟩|⟨rfl,a',b',c',d'⟩<;>first|rfl|contradiction|omega
theorem G5.some(n:Nat)(sh:Nat->vZ):∃e,G5 n sh e:=by
 by_cases h1:NG n sh
 .by_cases h2:Dup n sh
  .exact⟨11,.inr (.inl ⟨rfl,h1,h2⟩)⟩
  .by_cases h3:n=0\/n<(sh 0).k
   .exact⟨12,.inr (.inr (.inl ⟨rfl,h1,h2,h3⟩))⟩
   .exact⟨0,.inr (.inr (.inr ⟨rfl,h1,h2,ag,ag⟩))⟩
 .exact⟨10,.inl ⟨rfl,h1⟩⟩
theorem akd(ns:List (aj))(sz:aC)(l:aj)(vN vS vd:ai)(w:ah)(hN:qP w vN (uU ns))(hS:qP w vS (uH sz))(hD:qP w vd (rP l))(hV:Qe vd l.length)(Je:ns.length<=sz.length)(hsum:sz.sum=l.length)(hn:ns.length<=1048576)(hl:l.length<=1048576):
  Calls prog 26 #[vN,vS,vd] w λr w'=>Below w.heap.size w w'/\∃vd,r=.returned (.slice (some ⟨w.heap.size,0,none⟩) ns.length ns.length)/\CB ns sz l w.heap.size ns.length vd w':=by
 rcases hV with⟨rfl,h0⟩|⟨b,off,cap,rfl,hc⟩
 .obtain rfl:l=[]:=jQ h0;refine agU ns sz vN vS w hN hS Je (λi hi=>?_) hn;have h1:=Eh hi;have h2:=Y8 sz (i+1);simp only[d_]at hsum;omega
 .exact agT ns sz l vN vS b off cap w hN hS hD hc Je ag hn hl
section
variable {X:Nat->Prop}{Y:Nat->aZ}{D:Nat->ah->aN->Prop}{Stop:aI->ah->Prop}{w:ah}{cs:aT}{fr:aS}{M cap:Nat}{bo:aW}{sh:Nat->vZ}{vN vS vC:Nat->ai}{T:aH}
theorem anQ(uk:zN X D)(hS:Tq w bo M sh vN vS vC)(hM:M<=1048576)(hx:∀i,i<M->(sh i).i<256)
  (qZ:∀(T:aH)(g:Nat->Nat)(bs:aW)(cp:Nat)(w':ah),TA1 (.slice bs M cp) T->Prm M g->(∀i,i+1<M->(sh (g i)).i<=(sh (g (i+1))).i)->Tq w' bs M (λi=>sh (g i)) (λi=>vN (g i)) (λi=>vS (g i)) (λi=>vC (g i))->tX w.heap.size w w'->
   uN prog X Y D Stop 10 cs [.code YK] ⟨T,[]⟩ w'):
  uN prog X Y D Stop 10 cs [.code xP] ⟨#[.slice bo M cap]++Array.replicate 34 undef,[]⟩ w:=by
 rw[ahf];simp only[eU,eQ,eH,eP,dw,df];refine rV rC uk ak rfl ahg λR hR τ d'=>?_
 have bl:tX w.heap.size w {w with tape:=τ,drawn:=d'}:=(tX.refl _ w).tp τ d';generalize({w with tape:=τ,drawn:=d'}:ah)=wA at bl⊢;simp only[sZ,xP,Tryz.f10,bf];go_wp2;refine rV rC uk ak rfl ahg λR hR τ d'=>?_
 replace bl:=bl.tp τ d';generalize({wA with tape:=τ,drawn:=d'}:ah)=wB at bl⊢;simp only[sZ,rX,xP,Tryz.f10,bf];have Hr:=hS.xG bl
 have hSC:SC wB bo M (shS M sh vN vS vC):=λhn=>by obtain⟨b,o,e,hl,hc⟩:=Hr.cells hn;exact⟨b,o,e,hl,λi hi=>by rw[shS,ax hi];exact hc i hi⟩
 have k1:=abG (akc hS) (λi=>(sh i).i) M cap bo wB hM hSC (λi hi=>⟨hx i hi,by rw[shS,ax hi];rfl⟩)
 go_wp2_with(first|(go_at_call 22;(with_reducible refine k1.mono ?_);rintro r w1 hI;obtain⟨tV,g,bs,cp,rfl,hP,QP,AZ⟩:=aee Hr hx hI))
 exact qZ _ g bs cp w1 ⟨_,aed rfl⟩ hP QP AZ (bl.trans (tX.of tV) bl.uo)
theorem apW(uk:zN X D)(hT:TA1 (.slice bo M cap) T)(hS:Tq w bo M sh vN vS vC)(hM:M<=1048576){e:Nat}(hE:G5 M sh e)(he:e≠0)
  (qZ:∀ev p w',sF w' 1 ev e p->tX w.heap.size w w'->∀z,rG X Y z w'->sU prog D Stop (G (fr.finish (.tuple #[.slice none 0 0,ev])) cs) z):
  uN prog X Y D Stop 10 (fr::cs) [.code YK] ⟨T,[]⟩ w:=by
 obtain⟨f,rfl⟩:=hT;unfold Ta;rw[api];refine FN.1 (yB uk (yB uk (TE rC uk ak ahg λR hR τ d=>?_)));have bl:tX w.heap.size w {w with tape:=τ,drawn:=d}:=(tX.refl _ w).tp τ d;generalize({w with tape:=τ,drawn:=d}:ah)=wA at bl⊢;have k1:=Pn M cap bo sh vN vS vC wA hM (hS.xG bl);simp only[YK,sZ,rX,xP,Tryz.f10,bf]
 go_wp2_with(first|(go_at_call 23;(with_reducible refine k1.mono ?_);rintro r w1 ⟨tV,e',v,hE',rfl,h1,h2⟩))
 obtain rfl:e'=e:=hE.one hE';obtain⟨p,Yx⟩:=h2 he;clear h1 h2;replace bl:=bl.trans (tX.of tV) bl.uo;refine yB uk (TE rC uk ak ahg λR hR τ d=>?_);replace bl:=bl.tp τ d;replace Yx:=OO τ d Yx;generalize({w1 with tape:=τ,drawn:=d}:ah)=w2 at bl Yx⊢;obtain⟨ty,x,rfl⟩:=Yx.iface;simp only[YK,sZ,rX,xP,Tryz.f10,bf];go_wp2;refine ag4 uk (b:=true) aF ?_;simp only[aY];refine yB uk (TE rC uk ak ahg λR hR τ d=>?_);replace bl:=bl.tp τ d;replace Yx:=OO τ d Yx;generalize({w2 with tape:=τ,drawn:=d}:ah)=w3 at bl Yx⊢;simp only[YK,sZ,rX,aq6,xP,Tryz.f10,bf]
 go_wp2_with(first|(go_at_call 24;refine(yI _ 0 _ e' p _ Yx).mono ?_;rintro q w4 ⟨v4,rfl,h5,h6⟩))
 refine(FN.2 (ahe uk func10 (y:=.tuple #[.slice none 0 0,v4]) (λτ d=>results_tmp2 (fn:=Tryz.f10) (t:=2) (u:=3) rfl _ _ _) (qZ v4 p w4 h5 (bl.trans (tX.of h6) bl.uo))))
theorem apU(uk:zN X D)(hT:TA1 (.slice bo M cap) T)(hS:Tq w bo M sh vN vS vC)(hM:M<=1048576)(hE:G5 M sh 0)
  (qZ:∀T' w',TA1 (.slice bo M cap) T'->tX w.heap.size w w'->uN prog X Y D Stop 25 (ahI T'::cs) [.code xQ] ⟨#[.slice bo M cap]++Array.replicate 75 undef,[]⟩ w'):
  uN prog X Y D Stop 10 cs [.code YK] ⟨T,[]⟩ w:=by
 obtain⟨f,rfl⟩:=hT;unfold Ta;rw[amP];refine rV rC uk ak rfl ahg λR hR τ d=>?_
 have bl:tX w.heap.size w {w with tape:=τ,drawn:=d}:=(tX.refl _ w).tp τ d;generalize({w with tape:=τ,drawn:=d}:ah)=wA at bl⊢;have k1:=Pn M cap bo sh vN vS vC wA hM (hS.xG bl);simp only[YK,sZ,rX,xP,Tryz.f10,bf]
 go_wp2_with(first|(go_at_call 23;(with_reducible refine k1.mono ?_);rintro r w1 ⟨tV,e',v,hE',rfl,h1,h2⟩;obtain rfl:e'=0:=hE.one hE';obtain rfl:=h1 rfl))
 clear h2 k1;replace bl:=bl.trans (tX.of tV) bl.uo;rw[apj];refine Az uk rfl (Fj uk ?_);rw[akb];simp only[List.range,List.range.loop];refine rf rC uk (.slice bo M cap) jT rfl ak (λz _=>bV) ?_;walk_nrm;refine DT uk jT rfl aF func25 ak (c:=xQ) ak (vs:=#[.slice bo M cap]) (n:=75) jF ak ?_;unfold ahI at qZ;exact qZ _ _ ⟨_,aed rfl⟩ bl
theorem aeF(uk:zN X D)(hT:TA1 (.slice bo M cap) T){vd ve:ai}
  (qZ:∀T',TA2 (.slice bo M cap) vd ve T'->yu prog X Y D Stop none [] 10 cs [.code ad6] T' w):
  ∀z,rG X Y z w->sU prog D Stop (G ((ahI T).finish (.tuple #[vd,ve])) cs) z:=by
 rw[show ahI T=Dn none [] 10 T (.inRegion aO5 [1,2,3,4,5,6]::[.code ad6])from rfl];rw[DU jT];show yu _ _ _ _ _ _ _ _ _ _ _ _;obtain⟨g,rfl⟩:=hT;unfold Ta;walk_nrm;refine rf rC uk (.tuple #[vd,ve]) jT rfl ak (λz _=>bV) ?_;walk_nrm;refine rf rC uk vd jT rfl ak (λz _=>bV) ?_;walk_nrm;refine rf rC uk ve jT rfl ak (λz _=>bV) ?_;walk_nrm;refine rf rC uk vd jT rfl ak (λz _=>bV) ?_;walk_nrm;refine rf rC uk ve jT rfl ak (λz _=>bV) ?_;walk_nrm;exact xh uk (qZ _ ⟨_,aed rfl⟩)
theorem anT(uk:zN X D){vd ve:ai}{e p:Nat}(hT:TA2 (.slice bo M cap) vd ve T)(Yx:sF w 0 ve e p)
  (qZ:∀ev w',sF w' 1 ev e p->tX w.heap.size w w'->∀z,rG X Y z w'->sU prog D Stop (G (fr.finish (.tuple #[.slice none 0 0,ev])) cs) z):
  uN prog X Y D Stop 10 (fr::cs) [.code ad6] ⟨T,[]⟩ w:=by
 refine Gv rC uk ak func10 (R:=λy w'=>∃ev,y=.tuple #[.slice none 0 0,ev]/\sF w' 1 ev e p/\tX w.heap.size w w') (λτ d=>?_) (λy v' ⟨ev,h1,h2,h3⟩=>h1▸qZ ev v' h2 h3);have bl:tX w.heap.size w {w with tape:=τ,drawn:=d}:=(tX.refl _ w).tp τ d;replace Yx:=OO τ d Yx;generalize({w with tape:=τ,drawn:=d}:ah)=wA at bl Yx⊢;obtain⟨f,rfl⟩:=hT;unfold Ta
 conv in ad6=>simp only[ad6,ad5,YK,xP,rX,Tryz.f10,bf]
 obtain⟨ty,x,rfl⟩:=Yx.iface
 go_wp2_with(first|(go_at_call 24;refine(yI _ 0 _ e p _ Yx).mono ?_;rintro q w4 ⟨v4,rfl,h5,h6⟩))
 go_ret2;exact⟨_,rfl,v4,rfl,h5,bl.trans (tX.of h6) bl.uo⟩
theorem anS(uk:zN X D){vd:ai}{l:aj}(hT:TA2 (.slice bo M cap) vd .nilIface T)(hS:Tq w bo M sh vN vS vC)(hM:0<M)(hD:qP w vd (rP l))(hV:Qe vd l.length)(Je:(sh 0).names.length=(sh 0).sizes.length)(hsum:(sh 0).sizes.sum=l.length)(hl:l.length<=1048576)
  (qZ:∀g vb w',CB (sh 0).names (sh 0).sizes l g (sh 0).names.length vb w'->tX w.heap.size w w'->w.heap.size<=g->∀z,rG X Y z w'->sU prog D Stop (G (fr.finish (.tuple #[.slice (some ⟨g,0,none⟩) (sh 0).names.length (sh 0).names.length,.nilIface])) cs) z):
  uN prog X Y D Stop 10 (fr::cs) [.code ad6] ⟨T,[]⟩ w:=by
 refine Gv rC uk ak func10 (R:=λy w'=>∃g vb,y=.tuple #[.slice (some ⟨g,0,none⟩) (sh 0).names.length (sh 0).names.length,.nilIface]/\CB (sh 0).names (sh 0).sizes l g (sh 0).names.length vb w'/\tX w.heap.size w w'/\w.heap.size<=g) (λτ d=>?_) (λy v' ⟨g,vb,h1,h2,h3,h4⟩=>h1▸qZ g vb v' h2 h3 h4);have bl:tX w.heap.size w {w with tape:=τ,drawn:=d}:=(tX.refl _ w).tp τ d;generalize({w with tape:=τ,drawn:=d}:ah)=wA at bl⊢;obtain⟨f,rfl⟩:=hT;unfold Ta;have Hr:=hS.xG bl;have h0n:(0:Int)<(M:Int):=ag;obtain⟨b,o,rfl,Jf,hcell⟩:=Hr.cells hM;have r0:=hcell 0 hM;unfold Me at r0;obtain⟨q0,q1,q2,q3,q4,q5,q6⟩:=Eg r0;simp only[fO,fF]at q4 q5;have k1:=akd (sh 0).names (sh 0).sizes l (vN 0) (vS 0) vd wA.drew (qP.drewN (Hr.nm 0 hM).1 1) (qP.drewN (Hr.sz 0 hM).1 1) (qP.drewN (OJ bl hD) 1) hV ag hsum (Hr.nm 0 hM).2 hl
 conv in ad6=>simp only[ad6,ad5,YK,xP,rX,Tryz.f10,bf]
 clear q0 q1 q2 q3 q6 r0 hcell Je hsum
 go_wp2_with fail
 have bl2:tX w.heap.size w wA.drew:=bl.trans (tX.of (aO _ _).drew) bl.uo
 go_region_with (first|(go_at_call 26;(with_reducible refine k1.mono ?_);rintro r w2 ⟨rq,vb,rfl,hCB⟩))
 all_goals
  go_wp2;go_ret2;exact⟨_,rfl,_,vb,rfl,hCB,bl2.trans (tX.of rq) bl2.uo,bl2.uo⟩
end
end Go.Proofs.Y
namespace Go.Proofs.Y
open Go.Proofs.Tryz
theorem ahG{x y:aj}{i:Nat}(h:i<x.length):sV (x++y) i=sV x i:=by simp only[sV,bG];rw[ig h]
theorem afz{x y:aj}{i:Nat}(h:x.length<=i):sV (x++y) i=sV y (i-x.length):=by simp only[sV,bG];rw[ji h]
def ahF(p:aj×Nat):aj:=FI 2 p.1.length++(p.1++FI 4 p.2)
def YH(ps:List (aj×Nat)):aj:=ps.flatMap ahF
def Asc:List (aj)->List (aj)->Prop
 |_,[]=>True
 |ns,p::r=>(1<=p.length/\p.length<=255)/\(0<ns.length->uh p (ns.getD (ns.length-1) [])=false)/\Asc (ns++[p]) r
theorem ahH:∀(r x:List (aj)),Dk x->Asc x r->Dk (x++r)
 |[],x,h,_=>by rwa[dX]
 |p::r,x,h,ha=>by
  obtain⟨h1,h2,h3⟩:=ha;have:=ahH r (x++[p]) (λi hi=>?_) h3
  .rwa[kX]at this
  .have IC:i<x.length+1:=lg;rcases bK i x.length with q|q
   .have e1:∀j,j<x.length->(x++[p]).getD j []=x.getD j []:=λj hj=>by
     simp only[bG];rw[ig hj]
    rw[e1 i q,e1 (i-1) ag];exact h i q
   .obtain rfl:i=x.length:=ag;have e1:(x++[p]).getD x.length []=p:=by simp
    rw[e1];refine⟨h1,λh0=>?_⟩
    have e2:(x++[p]).getD (x.length-1) []=x.getD (x.length-1) []:=by simp only[bG];rw[ig ag]
    rw[e2];exact h2 h0
theorem afB{ns:List (aj)}{zs:dM}(h:ns.length=zs.length):Gp ns zs ns.length=FI 4 ns.length++YH (ns.zip (zs.map Int.toNat)):=by
 unfold Gp YH
 congr 1
 rw[List.flatMap_def,List.flatMap_def]
 congr 1
 apply pF
 .simp;omega
 .intro i h1 h2;have hi:i<ns.length:=iD;have hz:i<zs.length:=ag;simp[ahF,bQ hi,bQ hz]
def frL(c:Nat):Nat->aj->List (aj)
 |0,_=>[]
 |f+1,r=>if r=[]then[]else Oi (r.take c)::frL c f (r.drop c)
theorem ab8(c:Nat)(r:aj)(k:Nat):UY c r (k+1)=UY c (r.drop c) k:=by unfold UY part;rw[pI,lY,show c+k*c=(k+1)*c by rw[iM,auK,nC],show r.length-(k+1)*c=r.length-c-k*c by rw[iM,auK];omega]
theorem aae{c:Nat}(hc:1<=c):∀(f:Nat)(r:aj),r.length<=f->(frL c f r).flatten=D6 c r (nFr c r.length)
 |0,r,h=>by have:r=[]:=kW.1 ag;subst this;have:nFr c 0=0:=awc;simp[frL,D6,this]
 |f+1,r,h=>by
  by_cases hr:r=[]
  .subst hr;have:nFr c 0=0:=awc;simp[frL,D6,this]
  .have hp:0<r.length:=avZ.2 hr
   have hn:nFr c r.length=nFr c (r.drop c).length+1:=by
    unfold nFr;rw[lY];rcases bK r.length c with q|q
    .rw[show r.length-c=0 by omega,oQ (show 0+c-1<c by omega),lV]<;>omega
    .rw[show r.length+c-1=(r.length-c+c-1)+c by omega,Nat.add_div_right _ ag]
   unfold frL;rw[au hr,o_,aae hc f (r.drop c) (by rw[lY];omega),hn];unfold D6;rw[List.range_succ_eq_map,List.flatMap_cons]
   congr 1
   .unfold UY part;rw[fO,ik,auI]
    congr 1
    rcases bK r.length c with q|q
    .rw[Nat.min_eq_right ag,gZ ag,gZ ag]
    .rw[ni q]
   .rw[List.flatMap_map];refine bI (λg=>(List.range (nFr c (r.drop c).length)).flatMap g) (funext λk=>?_);exact(ab8 c r k).symm
