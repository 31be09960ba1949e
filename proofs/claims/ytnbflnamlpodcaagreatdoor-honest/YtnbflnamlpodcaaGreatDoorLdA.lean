import Derived.Test.YtnbflnamlpodcaaGreatDoorHoB
import Derived.Test.YtnbflnamlpodcaaGreatDoorRows
import Derived.LaidMore
import Derived.LaidSub
import Derived.Stop.LaidErr
set_option maxHeartbeats 2000000
set_option maxRecDepth 100000
namespace Go.Proofs.Y
open YtnbflnamlpodcaaGreatDoor
open Go.Proofs.Tryz
open Go.RowKit Go.Deep Go.Hp
section
variable {K N C m mx x pb gb:Nat}{f f':Nat->qX}{d d':qX->ak}{l:ak}{vd:Nat->ai}{w:ah}
theorem apU{sz:aA}{j:Nat}(hl:l.length=sz.sum)(hj:j<sz.length):(Nz sz l j).length=sz.getD j 0:=by
 have h1:=EF hj
 have h2:pre sz (j+1)<=sz.sum:=by unfold pre;have:=iU (l₁:=sz.take (j+1)) (l₂:=sz.drop (j+1));rw[nM]at this;omega
 unfold Nz;rw[gZ,iG];omega
theorem akp(hC:CB (qE m f) ((qx m f).map Int.toNat) l gb m vd w)(EX:ql w pb [.int .i64 ((K:Nat):Int),.int .i64 ((N:Nat):Int),.int .i64 ((C:Nat):Int)] 24)(Tm:∀j,j<m->(f j).k=wU j)(Me:∀j,j<m->(f j).l<14)(hl:l.length=((qx m f).map Int.toNat).sum)(hm:m<=5):
  ∃f3:Nat->qX,WL K N C m f3 (Nz ((qx m f).map Int.toNat) l) pb (.slice (some ⟨gb,0,none⟩) m m) w/\qE m f3=qE m f/\qx m f3=qx m f/\rE (λj=>Ld (Nz ((qx m f).map Int.toNat) l) (f3 j)) m=l:=by
 have hsl:((qx m f).map Int.toNat).length=m:=by rw[ji,xm]
 have hsz:∀j,j<m->((qx m f).map Int.toNat).getD j 0=(f j).l:=λj hj=>by simp[qx,hj]
 have vY:∀j,j<m->(Nz ((qx m f).map Int.toNat) l j).length=(f j).l:=λj hj=>by rw[apU hl ag,hsz j hj]
 have hex:∀j,∃e:qX,j<m->e.k=wU j/\e.d=vd j:=λj=>by
  by_cases hj:j<m
  .obtain⟨e,h1,h2⟩:=ah6 (hC.dat j hj) (wU j);exact⟨e,λ_=>⟨h1,h2⟩⟩
  .exact⟨⟨[],none,0,0⟩,λh=>absurd h hj⟩
 obtain⟨f3,hf3⟩:=Classical.axiomOfChoice hex
 have asF:∀j,j<m->(f3 j).l=(f j).l:=λj hj=>by obtain⟨ba,ca,e⟩:=uF (hC.dat j hj);have e2:=(hf3 j hj).2;rw[e]at e2;unfold qX.d at e2;simp only[avN]at e2;rw[e2.2.1,vY j hj]
 have hn3:qE m f3=qE m f:=by
  unfold qE;refine jW λj hj=>?_
  have:=fH.1 hj;rw[(hf3 j this).1,Tm j this]
 have xI:qx m f3=qx m f:=by
  unfold qx;refine jW λj hj=>?_
  rw[asF j (fH.1 hj)]
 refine⟨f3,⟨EX,⟨0,?_⟩,λj hj=>(hf3 j hj).1,λj hj=>?_,λj hj=>⟨gb+1,?_⟩,hm⟩,hn3,xI,?_⟩
 .obtain⟨c,h1,h2,h3⟩:=hC.row;rw[uC]at h2 h3;refine⟨by rw[AZ],.inr ⟨gb,m,c,rfl,gY _,h1,az _,dB,h2,?_⟩⟩;apply jk;intro p;by_cases hp:p<m*2
  .have hb:=GX m f3 (p/2) (p%2) ag ag;rw[show p/2*2+p%2=p by omega]at hb;rw[jX,ay hp,pV,h3 p hp,hb];dsimp only;rw[ay (show p/2<m by omega)];have hj:p/2<m:=ag;have h2':p%2=0\/p%2=1:=ag;have en:(qE m f).getD (p/2) []=wU (p/2):=by rw[<-Tm _ hj];simp[qE,hj]
   rcases h2' with q|q
   .rw[ay q,q,en,FM,(hf3 _ hj).1];rfl
   .rw[au ag,q,FM,(hf3 _ hj).2];rfl
  .rw[jX,au hp,g_ awR]
 .rw[vY j hj];exact Me j hj
 .rw[(hf3 j hj).2];exact hC.dat j hj
 .have e1:∀n,n<=m->rE (λj=>Ld (Nz ((qx m f).map Int.toNat) l) (f3 j)) n=rE (Nz ((qx m f).map Int.toNat) l) n:=by
   intro n
   induction n with
   |zero=>intro _;rfl
   |succ n ih=>
    intro hn;show rE _ n++_=rE _ n++_;rw[ih ag];dsimp only;rw[NC _ ag (hf3 n ag).1]
  rw[e1 m (az _)];have:=aj6 hl;rw[hsl]at this;exact this
theorem ad7{f3:Nat->qX}{d3:qX->ak}{i:Nat}(hTw:Twin m f f' d d')(hn:qE m f3=qE m f)(hs:qx m f3=qx m f)(hj:rE (λj=>d3 (f3 j)) m=l)(hl:l.length=((qx m f).map Int.toNat).sum)
  (hc:(E5 K N C m mx f f' d d' i).qH=zW K (ug K ((qx m f).map Int.toNat).sum) l i):BQ mx (λi=>Jm (uy K N C m f d i)) (λi=>Jm (uy K N C m f' d' i)) i=Jm (uy K N C m f3 d3 i):=by
 have e3:uy K N C m f3 d3 i=⟨K,N,i,C,qE m f,qx m f,zW K (ug K ((qx m f).map Int.toNat).sum) l i⟩:=by rw[uy,hn,hs,hj,hl]
 rw[e3,<-hc];unfold E5 BQ;split
 .show Jm (uy K N C m f' d' i)=_
  rw[show uy K N C m f' d' i=⟨K,N,i,C,qE m f,qx m f,(FB K N C m f' d' i).qH⟩by
   show(⟨K,N,i,C,qE m f',qx m f',_⟩:Sh)=_;rw[hTw.nm,hTw.sz];rfl]
 .rfl
end
end Go.Proofs.Y
namespace Go.Proofs.Y
open YtnbflnamlpodcaaGreatDoor
open Go.Proofs.Tryz
open Go.RowKit Go.Deep Go.Lf Go.Conc Go.ConcN Go.Gh Go.Hp
theorem BlS.sub{w w':ah}{bo:aY}{m:Nat}{ns Da:Nat->ak}{va:Nat->ai}(h:BlS w bo m ns Da va)(hs:Sub w w'):BlS w' bo m ns Da va:=
 ⟨λh0=>by obtain⟨b,o,e,hc⟩:=h.cells h0;exact⟨b,o,e,λi hi=>⟨hs.cell (hc i hi).1,hs.cell (hc i hi).2⟩⟩,λi hi=>hs.lies (h.dat i hi)⟩
theorem ag5{w:ah}{vr:ai}{k n c z4 z5:Int}{zr:di}{a:Addr}(hr:Uc w vr zr)(hlr:zr.length<9223372036854775807)(hk:Jg k)(hn:Jg n)(hc:Jg c)(h4:Jg z4)(h5:Jg z5)(hG:Gl a w):
  Ok prog (λv w'=>v=.bool true/\Kz w.heap.size w w') (solo (G (Frame.enter prog 5 #[vr,.int .i64 k,.int .i64 n,.int .i64 c,.int .i64 z4,.int .i64 z5] .normal) []) w) #[]:=by
 have hP:=ahi k n c;have hN:=aab n;obtain⟨⟨q1,q2,q3⟩,q4,q5⟩:=id hP;obtain⟨Y,v,yY,Md⟩:=Uj w (λ_=>False) (λb h=>h.elim);have Wy:Sub w v:=⟨by rw[yY.size];exact az _,λb cc t fr h=>Md b cc t fr (λx=>x) h⟩;have hsz:w.heap.size=v.heap.size:=yY.size
 have e:Frame.enter prog 5 #[vr,.int .i64 k,.int .i64 n,.int .i64 c,.int .i64 z4,.int .i64 z5] .normal=(base 5).at ⟨#[vr,.int .i64 k,.int .i64 n,.int .i64 c,.int .i64 z4,.int .i64 z5]++Array.replicate 244 undef,[]⟩ [.code uj]:=by rw[enter_at _ func5 (c:=uj) aj,show Tryz.f5.ntmps-(#[vr,.int .i64 k,.int .i64 n,.int .i64 c,.int .i64 z4,.int .i64 z5]:aB).size=244 from by rw[ntmps5];rfl]
 rw[e]
 have Jj:Ji prog (uV λ_=>False) 0 #[G ((base 5).at ⟨#[vr,.int .i64 k,.int .i64 n,.int .i64 c,.int .i64 z4,.int .i64 z5]++Array.replicate 244 undef,[]⟩ [.code uj]) []] w #[] (λ_=>0):=
  akq (λop h=>kX) (λop h=>kX) (λop h=>kX) rfl
 let St:aG->ah->Prop:=λgr W=>∃(T:aB)(m:Nat)(f:Nat->qX)(Dt:Nat->ak)(f':Nat->qX)(Dt':Nat->ak)(pb:Nat)(bo:aY)(cap:Nat)(vo:ai)(v1:ah),TH0 pb (.int .i64 z4) (.int .i64 z5) (.slice bo m cap) vo T/\WL (LY k n) (zy n) (Pm c) m f Dt pb (.slice bo m cap) v1/\WL (LY k n) (zy n) (Pm c) m f' Dt' pb vo v1/\(∀j,j<m->(Dt' j).length=(Dt j).length)/\sH v.heap.size v v1/\
  gr=G ((base 8).at ⟨#[.slice bo m cap,.agg #[.int .i64 ((LY k n:Nat):Int),.int .i64 ((zy n:Nat):Int),.int .i64 ((Pm c:Nat):Int)]]++Array.replicate 26 undef,[]⟩ [.code vg]) [am_ T]/\qQ (λ_=>False) Y W v1
 have key:=aj1 (Stop:=St) (Y:=Y) (x4:=.int .i64 z4) (x5:=.int .i64 z5) (xX (λ_=>False)) (hr.sub Wy) hlr hk hn hc (λT m f Dt pb vb v0 XX hS0 xB=>by obtain⟨bo,cap,rfl,hA⟩:=hS0.args;exact apG (xX _) XX hS0 hA (λT1 f' Dt' vo v1 a1 a2 a3 a4=>ane (xX _) a1 a2.par λT' a1' y hy=>.stop λd=>⟨T',m,f,Dt,f',Dt',pb,bo,cap,vo,v1,a1',hS0.AO a4 (az _),a2,a3,xB.trans a4 xB.sN,rfl,hy.at d⟩))
 refine late (Fin:=Ok prog _) (Shun:=uV λ_=>False) (e:=0) Ir (λ_ _ _ h=>h) (λgs1 a1 W1 sl1 t1 q1 h01 uw I8=>?_) (key w yY.t) w.drawn _ none #[] _ rfl Jj;obtain⟨T,m,f,Dt,f',Dt',pb,bo,cap,vo,v1,hT1,Qp,akr,hll,uu,rfl,yE⟩:=uw W1.drawn;replace yE:qQ (λ_=>False) Y W1 v1:=yE;clear key uw;have xA:=QY yY.t yE uu (λb h=>h.elim);rw[<-hsz]at xA;obtain⟨bo0,ava,e0,Qb⟩:=Qp.args;cases e0;obtain⟨bo',Wn,rfl,arN⟩:=akr.args;have hG1:Gl a v1:=(hG.sub Wy).sub (tq uu);have hdl:∀j,j<m->(Ld Dt (f j)).length=(f j).l:=λj hj=>(Qb.dat j hj).1
 have apV:∀j,j<m->(Ld Dt' (f' j)).length=(f' j).l:=λj hj=>(arN.dat j hj).1
 have hm5:=Qp.hm
 have hTw:Twin m f f' (Ld Dt) (Ld Dt'):=by
  refine⟨?_,?_,hdl,apV⟩
  .unfold qE;refine jW λj hj=>?_
   have Jh:=fH.1 hj;rw[Qp.nm j Jh,akr.nm j Jh]
  .unfold qx;refine jW λj hj=>?_
   have Jh:=fH.1 hj;rw[<-hdl j Jh,<-apV j Jh,NC Dt ag (Qp.nm j Jh),NC Dt' ag (akr.nm j Jh),hll j Jh]
 have good:∀{g:Nat->qX}{E:Nat->ak}{vv:ai}{u:ah},WL (LY k n) (zy n) (Pm c) m g E pb vv u->(∀j,j<m->(Ld E (g j)).length=(g j).l)->(∀i,i<zy n->(uy (LY k n) (zy n) (Pm c) m g (Ld E) i).L8/\(uy (LY k n) (zy n) (Pm c) m g (Ld E) i).Few/\(uy (LY k n) (zy n) (Pm c) m g (Ld E) i).OC)/\
   (∀i,i<zy n->qY (Jm (uy (LY k n) (zy n) (Pm c) m g (Ld E) i))=.ok (FB (LY k n) (zy n) (Pm c) m g (Ld E) i))/\(∀i,i<zy n->0<(Jm (uy (LY k n) (zy n) (Pm c) m g (Ld E) i)).length/\(Jm (uy (LY k n) (zy n) (Pm c) m g (Ld E) i)).length<=10000000000):=λhS hd=>by
  have hg:=λi hi=>ah_ (i:=i) hP ((Yg (qR.refl m _) (Zm hS.hm hS.nm)).2 hS.fits) (Zl hS.hm hS.alS (qR.refl m _)) hd hi
  refine⟨λi hi=>⟨(hg i hi).1,(hg i hi).2.2.1,(hg i hi).2.2.2.1⟩,λi hi=>?_,λi hi=>?_⟩
  .obtain⟨s1,s2,s3,s4,s5⟩:=hg i hi;have hp:=aks s1 s2 s3 s4 s5 [];rw[d_,ay rfl]at hp;exact hp
  .obtain⟨s1,s2,s3,s4,s5⟩:=hg i hi;have:=aot s1 s3 s4;omega
 obtain⟨gA,pA,lA⟩:=good Qp hdl;obtain⟨gB,pB,lB⟩:=good akr apV;refine FT Ir h01 I8 yE Qb hP Qp.fits (λg hR _=>Zl Qp.hm Qp.alS hR) hG1.tab ag ?_;intro g1 bh1 Wg1 ov1 gs2 W2 sl2 t2 q2 Y2 v2 Tt atr h02 Ap zU att akt atu ard zh;have wH:=xA.trans (atu.kz (h0:=w.heap.size) (λb h=>h.elim) xA.size)
 have hX1:∀b,(False\/b=Wg1)->w.heap.size<=b:=λb h=>by
  rcases h with h|rfl
  .exact h.elim
  .exact bu xA.size att
 have hgg:∀i,i<m->g1 i=f i:=Jo Qp.fits (qR.refl m f) Tt (Zm Qp.hm Qp.nm) atr;rw[NK hgg,NL hgg,Lt m hgg]at zh
 have asG:∀i,i<zy n->rO 0 v2 (ov1 i) (Jm (uy (LY k n) (zy n) (Pm c) m f (Ld Dt) i)):=λi hi=>by rw[<-Qu (d:=Ld Dt) ag ag ag];exact zh i hi
 clear zh;have hS2:=Qp.sub akt;have ahj:=akr.sub akt
 let St3:aG->ah->Prop:=λgr W=>∃(T3:aB),TH1 pb (.int .i64 z4) (.int .i64 z5) (.slice bo m cap) (.slice bo' m Wn) (.slice (some ⟨bh1,0,none⟩) (zy n) (zy n)) T3/\gr=G ((base 8).at ⟨#[.slice bo' m Wn,.agg #[.int .i64 ((LY k n:Nat):Int),.int .i64 ((zy n:Nat):Int),.int .i64 ((Pm c:Nat):Int)]]++Array.replicate 26 undef,[]⟩ [.code vg]) [ana T3]/\qQ (λb=>False\/b=Wg1) Y2 W v2
 have amJ:=aj7 (Stop:=St3) (Y:=Y2) (w:=v2) (ve:=.slice (some ⟨bh1,0,none⟩) (zy n) (zy n)) (xX (λb=>False\/b=Wg1)) hT1 (λT2 WV=>anf (Stop:=St3) (xX _) WV hS2.par λT' XT y hy=>.stop λd=>⟨T',XT,rfl,hy.at d⟩);refine late (Fin:=Ok prog _) (Shun:=uV (λb=>False\/b=Wg1)) (e:=0+zy n) Ir (λ_ _ _ h=>h) (λgs3 a3 W3 sl3 t3 q3 h03 uw Ov=>?_) (amJ W2 zU) W2.drawn gs2 sl2 t2 q2 h02 Ap;obtain⟨T3,hT3,rfl,xI⟩:=uw W3.drawn;replace xI:qQ (λb=>False\/b=Wg1) Y2 W3 v2:=xI;clear amJ uw;have hz3:=wH.trans (QY zU xI (h0:=w.heap.size) (sH.refl _ v2) hX1);refine FT Ir h03 Ov xI (akt.args arN) hP ahj.fits (λg hR _=>Zl ahj.hm ahj.alS hR) (hG1.sub akt).tab ag ?_;intro g2 bh2 Wg2 ov2 Wp W4 XQ t4 q4 Y4 v4 Fz atv h04 IM hs4 apu ank atw atx ac0;have hz4:=hz3.trans (atw.kz (h0:=w.heap.size) hX1 hz3.size)
 have Np:∀b,((False\/b=Wg1)\/b=Wg2)->w.heap.size<=b:=λb h=>by
  rcases h with h|rfl
  .exact hX1 b h
  .exact bu hz3.size apu
 have apW:∀i,i<m->g2 i=f' i:=Jo ahj.fits (qR.refl m f') Fz (Zm ahj.hm ahj.nm) atv;rw[NK apW,NL apW,Lt m apW]at ac0
 have arO:∀i,i<zy n->rO 0 v4 (ov2 i) (Jm (uy (LY k n) (zy n) (Pm c) m f' (Ld Dt') i)):=λi hi=>by rw[<-Qu (d:=Ld Dt') ag ag ag];exact ac0 i hi
 clear ac0;have hS4:=hS2.sub ank;have Yu:=akt.trans ank
 let St5:aG->ah->Prop:=λgr W=>∃(T5:aB)(mx x b cp:Nat)(sv:Nat->ai)(sb:Nat->ak)(v5:ah),TH3 pb (.slice bo m cap) (.int .i64 (mx:Int)) (.slice (some ⟨b,0,none⟩) (zy n) cp) (.int .i64 (x:Int)) T5/\mx<2^zy n/\sH v4.heap.size v4 v5/\SlB v5 (some ⟨b,0,none⟩) (zy n) sb sv/\(∀i,i<zy n->Spo x i (BQ mx (λi=>Jm (uy (LY k n) (zy n) (Pm c) m f (Ld Dt) i)) (λi=>Jm (uy (LY k n) (zy n) (Pm c) m f' (Ld Dt') i)) i) (sb i))/\
  gr=G ((base 11).at ⟨#[.slice (some ⟨b,0,none⟩) (zy n) cp]++Array.replicate 55 undef,[]⟩ [.code yG]) [anb T5]/\qQ (λb=>(False\/b=Wg1)\/b=Wg2) Y4 W v5
 have arP:=aj8 (Stop:=St5) (Y:=Y4) (w:=v4) (ve:=.slice (some ⟨bh2,0,none⟩) (zy n) (zy n)) (xX (λb=>(False\/b=Wg1)\/b=Wg2)) hT3 (λT4 hT4=>apJ (Stop:=St5) (xX _) hT4 hS4.par h4 h5 ag ag (λi hi=>ank.cell (ard i hi)) (λi hi=>OB (asG i hi) ank) atx arO (λmx i hi=>by unfold BQ;split;exact lB i hi;exact lA i hi) (λT5 mx x b cp sv sb v5 a1 a2 a3 a4 a5=>apL (xX _) a1 λT' a1' y hy=>.stop λd=>⟨T',mx,x,b,cp,sv,sb,v5,a1',a2,a3,a4,a5,rfl,hy.at d⟩));refine late (Fin:=Ok prog _) (Shun:=uV (λb=>(False\/b=Wg1)\/b=Wg2)) (e:=0+zy n+zy n) Ir (λ_ _ _ h=>h) (λgs5 a5 W5 sl5 t5 q5 h05 uw hB5=>?_) (arP W4 hs4) W4.drawn Wp XQ t4 q4 h04 IM;obtain⟨T5,mx,x,b,cp,sv,sb,v5,hT5,hmx,P_,hSl,hSp,rfl,DY⟩:=uw W5.drawn;replace DY:qQ (λb=>(False\/b=Wg1)\/b=Wg2) Y4 W5 v5:=DY;clear arP uw;have hz5:=hz4.trans (QY hs4 DY (h0:=w.heap.size) (P_.mono (by have:=uu.sN;have:=Yu.1;omega)) Np);have MO:=Yu.trans (tq P_);have hG5:=hG1.sub MO;refine aaK Ir h05 hB5 DY hSl ag hG5 ag ?_;intro e6 g6 vb6 er6 gv6 X6 gs6 W6 sl6 t6 q6 Y6 v6 he6 hP6 auY h06 hB6 hs6 hXa hXb ab5 aty arQ hR6;obtain⟨hes,aqE,w_⟩:=am5 hTw pA pB gA gB hSp ag hP6 hR6;rw[afx]at aqE;have hz6:=hz5.trans (aty.kz (h0:=w.heap.size) Np hz5.size);have hX6:∀b,X6 b->w.heap.size<=b:=λb hb=>(hXb b hb).elim (Np b) λh=>bu hz5.size h
 have hS6:=(Qp.sub MO).sub ab5;have hA6:WX v6 bo m cap f (Ld Dt):=(MO.trans ab5).args Qb;have hvs:v.heap.size<=v6.heap.size:=bu uu.sN (MO.trans ab5).1
 have apX:∀j,j<m->(f j).l<14:=λj hj=>by rw[<-hdl j hj,NC Dt ag (Qp.nm j hj)];exact Qp.len j hj
 obtain⟨lf,hlf⟩:∃lf,lf=if x<zy n then zy n-1 else zy n:=⟨_,rfl⟩;rw[<-hlf]at aqE;have hmx:m<=1048576:=ag
 by_cases hC3:er6=0/\(mx≠0\/lf<LY k n)
 .obtain⟨he0,hne⟩:=hC3;rcases w_ with⟨he,_⟩|⟨_,l,gb,vd,hl,xR,hvb,hC⟩
  .exfalso;omega
  subst he0 hvb;obtain⟨f3,hS3,hn3,atz,hj3⟩:=akp hC hS6.par Qp.nm apX hl hm5
  let St7:aG->ah->Prop:=λgr W=>∃(T9:aB)(v7:ah),TH5 pb (.slice (some ⟨b,0,none⟩) (zy n) cp) (.slice (some ⟨gb,0,none⟩) m m) (.slice (some ⟨gv6,0,none⟩) (zy n) (zy n)) T9/\sH v6.heap.size v6 v7/\gr=G ((base 8).at ⟨#[.slice (some ⟨gb,0,none⟩) m m,.agg #[.int .i64 ((LY k n:Nat):Int),.int .i64 ((zy n:Nat):Int),.int .i64 ((Pm c:Nat):Int)]]++Array.replicate 26 undef,[]⟩ [.code vg]) [anc T9]/\qQ X6 Y6 W v7
  have arR:=afz (Stop:=St7) (Y:=Y6) (w:=v6) (y1:=.slice (some ⟨gb,0,none⟩) m m) (y2:=.slice (some ⟨gv6,0,none⟩) (zy n) (zy n)) (y3:=.int .i64 ((0:Nat):Int)) (xX X6) hT5 (λT7 hT7=>an2 (Stop:=St7) (xX X6) hT7 hS6.par ag ag hlf (λT8 w8 hT8 h30 hb8=>an3 (Stop:=St7) (xX X6) hT8 h30 ((tq hb8).row hS6.par) hmx ((ZF hS6 hA6).sub (tq hb8)) (.inr (.inr ⟨hne,rfl⟩)) (λ_ _ _ _ hh _=>absurd hh ag) (λT9 w9 hT9 _ _ hb9=>ang (Stop:=St7) (xX X6) hT9 ((tq hb9).row ((tq hb8).row hS6.par)) λT' XT y hy=>.stop λd=>⟨T',w9,XT,hb8.trans hb9 hb8.sN,rfl,hy.at d⟩)));refine late (Fin:=Ok prog _) (Shun:=uV X6) (e:=e6) Ir (λ_ _ _ h=>h) (λgs7 a7 W7 sl7 t7 q7 h07 uw hB7=>?_) (arR W6 hs6) W6.drawn gs6 sl6 t6 q6 h06 hB6;obtain⟨T9,v7,hT9,hb7,rfl,hs7⟩:=uw W7.drawn;replace hs7:qQ X6 Y6 W7 v7:=hs7;clear arR uw;have hz7:=hz6.trans (QY hs6 hs7 (h0:=w.heap.size) (hb7.mono ag) hX6);have hS7:=hS3.sub (tq hb7);obtain⟨bo3,aud,e3,hA7⟩:=hS7.args;cases e3;have auZ:∀j,j<m->(Ld (Nz ((qx m f).map Int.toNat) l) (f3 j)).length=(f3 j).l:=λj hj=>(hA7.dat j hj).1
  have hG7:=(hG5.sub ab5).sub (tq hb7);refine FT Ir h07 hB7 hs7 hA7 hP hS7.fits (λg hR _=>Zl hS7.hm hS7.alS hR) hG7.tab ag ?_;intro g3 bh3 Wg3 ov3 gs8 W8 sl8 t8 q8 Y8 v8 WN atA h08 hB8 hs8 atB atC atD atE aku;have hz8:=hz7.trans (atD.kz (h0:=w.heap.size) hX6 hz7.size)
  have hX8:∀b,(X6 b\/b=Wg3)->w.heap.size<=b:=λb h=>by
   rcases h with h|rfl
   .exact hX6 b h
   .exact bu hz7.size atB
  have apY:∀i,i<m->g3 i=f3 i:=Jo hS7.fits (qR.refl m f3) WN (Zm hS7.hm hS7.nm) atA;rw[NK apY,NL apY,Lt m apY]at aku
  have arS:∀i,i<zy n->rO 0 v8 (ov3 i) (Jm (uy (LY k n) (zy n) (Pm c) m f3 (Ld (Nz ((qx m f).map Int.toNat) l)) i)):=λi hi=>by rw[<-Qu (d:=Ld (Nz ((qx m f).map Int.toNat) l)) ag ag ag];exact aku i hi
  clear aku;have aac:=(tq hb7).trans atC;have au0:v.heap.size<=v8.heap.size:=bu hvs aac.1
  have heq:∀i,i<zy n->erS (sb i)=0->sb i=Jm (uy (LY k n) (zy n) (Pm c) m f3 (Ld (Nz ((qx m f).map Int.toNat) l)) i):=λi hi h0=>by have hx:=(hes i hi).1 h0;have hsp:=hSp i hi;unfold Spo at hsp;rw[au hx]at hsp;rw[hsp];exact ad7 hTw hn3 atz hj3 hl (xR i hi hx)
  refine afH h08 hB8 (aj9 (xX λb=>X6 b\/b=Wg3) hT9 (λT10 atF=>apK (xX λb=>X6 b\/b=Wg3) atF (aac.row hS6.par) ag ag (λi hi=>aac.cell (arQ i hi)) (hSl.sub (ab5.trans aac)) atE arS heq λT' kk w' h12 L_=>?_) W8 hs8);refine X0 (xX _) func5 aj (y:=.bool true) (λu=>?_) (λu d ahX Rw=>?_)
  .exact azL
  .refine⟨rfl,#[],ax,λd'=>⟨.bool true,Rw d',rfl,?_⟩⟩;have:=QY hs8 ahX (h0:=w.heap.size) (L_.mono ag) hX8;exact hz8.trans ⟨this.os,this.output,this.size,this.block⟩
 .have hcs:(mx=0/\LY k n<=lf/\er6=0/\∃gb vd,vb6=.slice (some ⟨gb,0,none⟩) m m/\BlS v6 (some ⟨gb,0,none⟩) m (λi=>(f i).k) (λi=>Ld Dt (f i)) vd)\/((mx≠0\/lf<LY k n)/\(er6=12\/er6=13)/\vb6=.slice none 0 0):=by
   by_cases hA:mx=0/\LY k n<=lf
   .obtain⟨h1,gb,vd,h2,h3⟩:=aqE hA.1 hA.2;exact .inl ⟨hA.1,hA.2,h1,gb,vd,h2,alP hdl h3⟩
   .rcases w_ with⟨he,hv⟩|⟨he,_⟩
    .exact .inr ⟨ag,he,hv⟩
    .exact absurd ⟨he,ag⟩ hC3
  refine afH h06 hB6 (afz (xX X6) hT5 (λT7 hT7=>an2 (xX X6) hT7 hS6.par ag ag hlf (λT8 w8 hT8 h30 hb8=>an3 (xX X6) hT8 h30 ((tq hb8).row hS6.par) hmx ((ZF hS6 hA6).sub (tq hb8)) (by
   rcases hcs with⟨a1,a2,a3,gb,vd,a4,a5⟩|h
   .exact .inl ⟨a1,a2,a3,gb,vd,a4,a5.sub (tq hb8)⟩
   .exact .inr (.inl h)) (λT' kk w' h12 _ atG=>?_) (λ_ _ _ hne he _=>absurd ⟨he,hne⟩ hC3))) W6 hs6)
  have L_:=hb8.trans atG hb8.sN;refine X0 (xX _) func5 aj (y:=.bool true) (λu=>?_) (λu d ahX Rw=>?_)
  .exact azL
  .refine⟨rfl,#[],ax,λd'=>⟨.bool true,Rw d',rfl,?_⟩⟩;have:=QY hs6 ahX (h0:=w.heap.size) (L_.mono ag) hX6;exact hz6.trans ⟨this.os,this.output,this.size,this.block⟩
end Go.Proofs.Y
namespace Go.Proofs.Y
open YtnbflnamlpodcaaGreatDoor
open Go.Proofs.Tryz
open Go.RowKit
theorem an7:prog.globalNamed "cairn/sum.fourSteps" =some 2:=aj
theorem arT:(prog.globals[2]?).map (·.type)=some 203:=aj
theorem arU:prog.globalNamed "internal/strconv.uint64pow10" =some 4:=aj
theorem atH:(prog.globals[4]?).map (·.type)=some 240:=aj
theorem akv:prog.globalNamed "cairn/fault.TooEarly" =some 0:=aj
theorem apZ:(prog.globals[0]?).map (·.type)=some 59:=aj
theorem arV:prog.globalNamed "errors.errorType" =some 1:=aj
theorem star: "*" ++ "errors.errorString" = "*errors.errorString" :=aC
theorem anl(u:aF)(h:prog.typeName? 3 u=some "*errors.errorString"):u=247:=
 typeName_ptr_named (nm:= "errors.errorString") (by rw[star];kernel_rfl) aj aC u (by rw[star];exact h)
theorem arW:(prog.cutTypes.find? (·.1== "internal/reflectlite.rtype")).map (·.2)=some 191:=aj
theorem ap0:prog.types.size=278:=aj
theorem akw:((List.range 278).filter λt=>prog.rowNamed t [101,114,114,111,114])=[59]:=aj
theorem VE{L:List (String×DataW Unit)}{W:ah}(h:laidMetH prog L W)(n:String)(d:DataW Unit)(hf:L.filter (λx=>x.1==n)=[(n,d)])(hn:d.handleName?.isNone=true):laidMet prog [(n,d)] W:=by have:=h.filter (λx=>x.1==n);rw[hf]at this;rwa[MakeChecks.laidMetH_plain _ _ _ (by simp[hn])]at this
theorem aka{W:ah}(h:laidMetH prog Rows.anyRow.laid W):Du W:=by
 have h1:=VE h "cairn/sum.fourSteps" Rows.laid_cairn_sum_fourSteps aI aI
 have hT:Lib.TabIs prog W "cairn/sum.fourSteps" .u64 (Gg.map λ(n:Nat)=>(n:Int)):=
  Lib.tabIs_of_head an7 arT underlying203 underlying64 aj aj h1
 have hc:∀i,i<16->W.cell? ⟨2,i,none⟩=some (.int .u64 ((Gg.getD i 0:Nat):Int)):=by intro i hi;have:=hT.cell an7 i (by simpa[Gg]using hi);rw[this];simp only[bH,dO];cases Gg[i]?<;>simp
 exact⟨rG (hc 0 ag),hc⟩
theorem aj_{W:ah}(h:laidMetH prog Rows.anyRow.laid W):Pow W/\4<W.heap.size:=by have h1:=VE h "internal/strconv.uint64pow10" Rows.laid_internal_strconv_uint64pow10 aI aI;have hT:Pow W:=Lib.tabIs_of_head arU atH underlying240 underlying64 aj aj h1;exact⟨hT,rG (Lib.TabIs.cell hT arU 0 aC)⟩
theorem adY{W:ah}(h:laidMetH prog Rows.anyRow.laid W):∃a,xh W a:=by have h1:=VE h "cairn/fault.TooEarly" Rows.laid_cairn_fault_TooEarly aI aI;obtain⟨a,s,hv,_⟩:=laid_sentinel h1 akv apZ underlying59 anl underlying247 underlying267 rfl rfl underlying9 aj aj;exact⟨a,by unfold xh;simpa using World.var?_cell akv hv 0⟩
theorem ag4{W:ah}(h:laidMetH prog Rows.anyRow.laid W):Dw W:=by
 have h':=(laidMetH_iff.1 h).2;obtain⟨name,u,ty,e1,e2,e3,e4,e5⟩:=h' ("errors.errorType",Rows.laid_errors_errorType) (List.mem_filter.2 ⟨by simp[Rows.anyRow],rfl⟩);have en:name=[101,114,114,111,114]:=(gp e1).symm;subst en;obtain rfl:=gp (arW.symm.trans e2);have hm:ty∈(List.range 278).filter λt=>prog.rowNamed t [101,114,114,111,114]:=List.mem_filter.2 ⟨fH.2 (by rw[<-ap0];exact e3),e4⟩
 rw[akw]at hm;obtain rfl:=fG.1 hm;have hh:typeHandle prog 59=.pointer (some ⟨7,59,none⟩):=aj;rw[hh]at e5;unfold Dw;simpa using World.var?_cell arV e5 0
